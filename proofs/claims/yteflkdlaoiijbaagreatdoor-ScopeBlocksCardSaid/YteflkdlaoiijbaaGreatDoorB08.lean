/- Parts of the proof. -/
import Derived.LaidEql
import Derived.Stop.Asserts
import Derived.RowKitTokens
import Derived.Test.YteflkdlaoiijbaaGreatDoorB07
set_option maxHeartbeats 16000000
set_option maxRecDepth 20000
namespace Go.Proofs.YteflkdlaoiijbaaGreatDoor
open Go.RowKit
theorem I2 {b:Nat} {O O1:Nat→Prop} {T0:List Nd} {R:Except Int (Ast×List ah)→Prop} {w w1 w':World} {e:Ending} (h:aF b O1 T0 R w1 e w') (hf:az O w w1) (he:Ext O O1 w):aF b O T0 R w e w':=by
 obtain⟨h1,h2⟩:=h;refine⟨hf.trans h1 he,h2.imp ?_ ?_⟩
 ·rintro⟨p,a,ts,O2,T,e1,p1,x1,l1,k1⟩
  exact⟨p,a,ts,O2,T,e1,p1,he.trans x1 hf.size,l1,k1⟩
 ·rintro⟨l,v,er,e1,⟨g,m1,m2,m3⟩,k⟩
  exact⟨l,v,er,e1,⟨g,m1,aK hf.size m2,m3⟩,k⟩
theorem Bg (b:Nat) (O:Nat→Prop) (t:ah) (ts:List ah) (T0 T:List Nd) (p:Nat) (a:Ast) (K:Ast→List ah→Prop) (E:Int→Prop) (w:World) (hp:PS w b O (t::ts) T) (hl:dV T0 T [a] [(p:Int)]) (hk:aI [aC,th] ⟨dr 8 t.2.1,[a],t::ts,T0.length+a.size⟩ (bT K) E) :
  Calls Tryz.prog 151 #[.pointer (some ⟨b,0,none⟩),.int .i64 (p:Int)] w (aF b O T0 (RK K E) w):=by
 have hO :∀k,O k→k<w.heap.size:=fun k hk=>(hp.own k hk).2
 have xo:b<w.heap.size:=hO b hp.at_;have hpA:=hp.below (aV w (.cells #[.int .i64 (p:Int)] 3));have HPV:aM ((w.alloc (.cells #[.int .i64 (p:Int)] 3)).alloc (.cells #[aX 40 b,aX 179 b] 122)) b (fun k=>O k∨k=w.heap.size) (.slice (some ⟨w.heap.size+1,0,none⟩) 2 2) [aC,th] :=
  aM.yJ (w.heap.size+1) (by simp) (fun k hk=>by rcases hk with hk|rfl;have:=hO k hk;simp;omega;simp) [aX 40 b,aX 179 b] [aC,th] (by simp) ⟨aZ _ b _,Nb.part (enters_of Tryz.func179 (by kernel_rfl) rfl) _ b _,trivial⟩
 have hg2:((w.alloc (.cells #[.int .i64 (p:Int)] 3)).alloc (.cells #[aX 40 b,aX 179 b] 122)).heap[w.heap.size]? = some (.cells #[.int .i64 (p:Int)] 3 (0,0)):=((aV _ _).block w.heap.size (by simp)).trans (World.alloc_heap_new w _)
 have HN:=aa (Bb _ w.heap.size p a (hpA.below (aV _ (.cells #[aX 40 b,aX 179 b] 122))) hg2 (fun h=>by have:=hO _ h;omega) (by omega) hl (mN 8) rfl _ _ HPV hk)
 have HF:Hid (az O w ((w.alloc (.cells #[.int .i64 (p:Int)] 3)).alloc (.cells #[aX 40 b,aX 179 b] 122))):=aa (((az.refl O w).alloc _).alloc _);clear hp hl hk hpA HPV hg2 hO;go_enter Tryz.func151,Tryz.ntmps151
 go_wp2_with fail
 refine HN.out.mono ?_;intro e wz hz;obtain⟨v,er,rfl⟩:=hz.ret;have HZ:=aa hz;clear hz;go_wp2_with fail
 go_ret2
 exact I2 HZ.out HF.out fun k hk=>hk.imp id fun h=>by omega
def I3 (bd:bV):bV:=fun s K E=>s.xs=[]∧∃t ts,s.ts=t::ts∧t.1≠0∧dQ (mN 7) [cL] ts s.n (fun a eB=>∃m,xx m a eB s.n (fun a2 self eP =>
 aI [eo,dp (dQ ⟨11,t.2.1,0,0,⟨#[]⟩,self,[]⟩ [bd])] ⟨s.h,[a2],eP,s.n+Ast.al [a2]⟩ K E) E) E
set_option maxRecDepth 40000 in
theorem DP {bd:bV} (DI:eA 152 bd):eA 95 (I3 bd):=by
 rintro b n O T0 ⟨sh,sxs,nj,sn⟩ K E w hr ⟨hx,t,ts,jk,TV,u,us,lu,hus,hlu,hk⟩;obtain⟨Op,On,T,ks,hO,hd,hp,hn,hl,hc⟩:=hr.ex;dsimp only at hx jk hk hp hn hl hc hus hlu
 subst hx jk hus;obtain rfl:lu=u.2.1:=hlu.elim (fun h=>h.2) (fun h=>absurd rfl h.1)
 obtain⟨rfl,rfl⟩:=hl.same;subst hc;obtain⟨t0,t1,t2,t3⟩:=t;have HA:=aa (cz b Op (t0,t1,t2,t3) (u::us) T w hp);unfold fY at HA;dsimp only at HA hk TV
 have F9:=MG t0 t1 t2 (bu t3);have xo:b<w.heap.size:=(hp.own b hp.at_).2;have hnw:n<w.heap.size:=(hn.own n hn.at_).2;have DA:b<n:=(hn.own n hn.at_).1;have HN0:=aa hn;have HP0:=aa hp;have HO:=aa hO;have HD:=aa hd;have CB:=aa hn.at_;have HK:=aa hk;have HT0:=aa TV;clear hp hk hr hn hO hd hl hlu TV;go_enter Tryz.func95,Tryz.ntmps95
 go_wp2_with fail
 refine HA.out.mono ?_;rintro e wa ⟨rfl,b1⟩;have p1:=HP0.out.below b1;obtain⟨i,hi,ci,fi,_⟩:=p1.place;have hbwa:b<wa.heap.size:=cC xo b1.size;have hnwa:n<wa.heap.size:=cC hnw b1.size;have p2:=p1.step HT0.out ci;have f2:=p1.fr 1 (.int .i64 ((i+1:Nat):Int));obtain⟨wf,yU⟩ :∃wf,wf=(wa.setCell ⟨b,1,none⟩ (.int .i64 ((i:Int)+1))).alloc (.cells #[.int .i64 11,.int .i64 t1,.int .i64 0,.int .i64 0,.string ⟨#[]⟩,.slice none 0 0,.slice none 0 0] 55):=⟨_,rfl⟩;have pf:PS wf b Op (u::us) T:=by rw[yU];exact p2.below (aV _ _)
 have hzf:wa.heap.size+1=wf.heap.size:=by rw[yU];simp
 have fp:az Op w wf:=by
  rw[yU];exact((az.ae (O:=Op) b1).trans (p1.fr 1 (.int .i64 ((i:Int)+1))) (fun k hk=>.inl (hk▸p1.at_))).alloc _
 have YC :∀k,Op k→O k:=fun k hk=>(HO.out k).2 (.inl hk)
 have bf:eI wf Op wa.heap.size #[.int .i64 11,.int .i64 t1,.int .i64 0,.int .i64 0,.string ⟨#[]⟩,.slice none 0 0,.slice none 0 0] 55:=by
  rw[yU,show wa.heap.size=(wa.setCell ⟨b,1,none⟩ (.int .i64 ((i:Int)+1))).heap.size by simp]
  exact eI.new _ Op (fun k hk=>(p2.own k hk).2) _ 55
 have nf:=HN0.out.kept fp (fun k hk h=>HD.out k h hk)
 have HKF:aI [cL] ⟨{ mN 7 with line:=u.2.1},[],u::us,T.length⟩ (bT fun a eB=>∃m,xx m a eB T.length (fun a2 self eP=>aI [eo,dp (dQ ⟨11,t1,0,0,⟨#[]⟩,self,[]⟩ [bd])] ⟨sh,[a2],eP,T.length+Ast.al [a2]⟩ K E) E) E:=HK.out
 have Kl:=aa (qq wf wf (wa.heap.size+1) hzf pf (az.refl Op wf) (mN 7) rfl [aX 88 b] [cL] (by simp) ⟨iu wf b Op,trivial⟩ HKF)
 have FP:=aa fp;have BF:=aa bf;have NF:=aa nf;have VW:=aa YC;have HZF:=aa hzf;have HNW:=aa HN0.out.own;have HWA:Hid (w.heap.size≤wa.heap.size):=aa b1.size;rw[yU] at Kl;have HWF:=aa yU;clear yU hzf;clear pf fp bf nf YC p1 p2 f2 b1 HKF;have hne1:wa.heap.size≠n:=by omega
 have acK:wa.heap.size≠b:=by omega
 go_wp2_with fail
 refine Kl.out.mono ?_;intro e w3 h3;rw[←HWF.out] at h3;clear Kl;have F3:=aa h3.1;rcases h3.2 with ⟨p,a,eB,O1,T1,rfl,p1,x1,l1,k1⟩ | ⟨le,v,er,rfl,⟨g',rfl,m2,m3⟩,k1⟩
 ·obtain⟨m,k1⟩:=k1
  have P1:=aa p1;have X1:=aa x1;have L1:=aa l1;have K1:=aa k1;clear h3 p1 x1 l1 k1;go_wp2_with fail
  go_loopg [6,7] (m+1) (fun z lv ev wr=>(∃(p:Nat) (a:Ast) (tr:List ah) (Or:Nat→Prop) (Tr:List Nd) (k:Nat),lv=.int .i64 (p:Int)∧ev=.nilIface∧z=k+1∧PS wr b Or tr Tr∧az Op wf wr∧Ext Op Or wf∧dV T Tr [a] [(p:Int)]∧xx k a tr T.length (fun a2 self eP=>aI [eo,dp (dQ ⟨11,t1,0,0,⟨#[]⟩,self,[]⟩ [bd])] ⟨sh,[a2],eP,T.length+Ast.al [a2]⟩ K E) E) ∨
   (∃(le:Int) (g':Nat),ev=.iface 75 (.pointer (some ⟨g',0,none⟩))∧wf.heap.size≤g'∧wr.heap[g']? = some (.cells #[.int .i64 6,.int .i64 le] 81 (0,0))∧az Op wf wr∧E le))
  case atStart=>exact .inl ⟨p,a,eB,O1,T1,m,rfl,rfl,rfl,P1.out,F3.out,X1.out,L1.out,K1.out⟩
  case round =>
   rcases hrel with ⟨p,a,tr,Or,Tr,k,rfl,rfl,rfl,pr,fr,xr,lr,kr⟩ | ⟨le,g',rfl,hg,m3,fr,ke⟩
   ·cases k with
    | zero=>exact kr.elim
    | succ k =>
     obtain⟨t9,r,rfl,TW,dN⟩:=kr;have PR:=aa pr;have FR:=aa fr;have XR:=aa xr;have LR:=aa lr;have HW:=aa (fun(W:World) hW=>bL b Or t9 r Tr W hW)
     have jg:=aa (HW.out wr pr);clear pr fr xr lr F3 P1 X1 L1 K1;cases hq:ax [46] t9 with
     | true =>
      have g1:((ag t9).toList == [46])=true:=aj (s:=[46]) (by decide) t9 hq
      have zH:=aa (TW hq);clear TW dN hq HW;generalize ag t9=Y at *;go_wp2_with fail
      refine jg.out.mono ?_;rintro e w4 ⟨rfl,b4⟩;have F4:=aa (FR.out.trans (az.ae (O:=Or) b4) XR.out);have YS:=aa (Bg b Or t9 r T Tr p a _ E w4 (PR.out.below b4) LR.out zH.out);clear b4;go_wp2_with fail
      refine YS.out.mono ?_;intro e w5 h5;have F5:=aa (F4.out.trans h5.1 XR.out);rcases h5.2 with ⟨p5,a5,YL,O5,T5,rfl,q5,x5,l5,k5⟩ | ⟨le,v,er,rfl,⟨g',rfl,m2,m3⟩,k5⟩
      ·have Q5:=aa q5
       have X5:=aa (XR.out.trans x5 F4.out.size);have L5:=aa l5;have K5:=aa k5;clear h5 q5 x5 l5 k5;go_wp2_with fail
       go_roundg (k+1)
       case measure=>omega
       case rel=>exact .inl ⟨p5,a5,YL,O5,T5,k,rfl,rfl,rfl,Q5.out,F5.out,X5.out,L5.out,K5.out⟩
      ·have M3:=aa m3
       have M2:=aa (aK F4.out.size m2);have K5:=aa k5;clear h5 m2 m3 k5;go_wp2_with fail
       go_roundg (k+1)
       case measure=>omega
       case rel=>exact .inr ⟨le,g',rfl,M2.out,M3.out,F5.out,K5.out⟩
     | false =>
      have g1:((ag t9).toList == [46])=false:=aj (s:=[46]) (by decide) t9 hq
      have dN:=dN hq;have HDr:Hid (∀k,Or k→¬ On k):=aa fun k hk h=>by
       rcases XR.out k hk with h1|h1
       ·exact HD.out k h1 h
       ·have:=(HNW.out k h).2;have:=FP.out.size;omega
      have XW:Hid (Ext Op Or w):=aa ((Ext.refl Op w).trans XR.out FP.out.size);cases pD:ax [58] t9 with
      | true =>
       have g2:((ag t9).toList == [58])=true:=aj (s:=[58]) (by decide) t9 pD
       have zH:=aa (dN.1 pD);clear TW dN hq pD;generalize ag t9=Y at *;go_wp2_with fail
       refine jg.out.mono ?_;rintro e w4 ⟨rfl,b4⟩;have F4:=aa (FR.out.trans (az.ae (O:=Or) b4) XR.out);have P4:=aa (PR.out.below b4);have lM:=aa (HW.out w4 P4.out);clear b4 HW jg;go_wp2_with fail
       refine lM.out.mono ?_;rintro e w5 ⟨rfl,b5⟩;have f5:=F4.out.trans (az.ae (O:=Or) b5) XR.out;have YT:=BF.out.later f5 (Ext.refl _ _);have q5:w5.cell? ⟨wa.heap.size,5,none⟩=some (.slice none 0 0):=YT.cell 5;have y5:w5.frozen? ⟨wa.heap.size,5,none⟩=false:=by simp[World.frozen?,YT.1]
       have hl5:wa.heap.size<w5.heap.size:=(aJ.1 YT.1).1;have f6:az (fun k=>k=wa.heap.size) w5 ((w5.alloc (.cells #[.string ⟨#[115,101,108,102]⟩] 9)).setCell ⟨wa.heap.size,5,none⟩ (.slice (some ⟨w5.heap.size,0,none⟩) 1 1)):=((az.refl _ w5).alloc _).trans (az.wc ((aV w5 _).block _ hl5 |>.trans YT.1) (by decide) 5 _) (Ext.refl _ _)
       have Dz:=ir ((aV w5 (.cells #[.string ⟨#[115,101,108,102]⟩] 9)).block _ hl5 |>.trans YT.1) (k:=5) (.slice (some ⟨w5.heap.size,0,none⟩) 1 1);have Rb:((w5.alloc (.cells #[.string ⟨#[115,101,108,102]⟩] 9)).setCell ⟨wa.heap.size,5,none⟩ (.slice (some ⟨w5.heap.size,0,none⟩) 1 1)).heap[w5.heap.size]? = some (.cells #[.string ⟨#[115,101,108,102]⟩] 9 (0,0)):=(Below.heap_setCell _ _ _ _ (by show w5.heap.size≠wa.heap.size;omega)).trans (World.alloc_heap_new w5 _)
       rw[World.setCell_alloc_past _ _ _ _ hl5] at f6 Dz Rb;obtain⟨w6,Rf⟩ :∃w6,w6=(w5.setCell ⟨wa.heap.size,5,none⟩ (.slice (some ⟨w5.heap.size,0,none⟩) 1 1)).alloc (.cells #[.string ⟨#[115,101,108,102]⟩] 9):=⟨_,rfl⟩;rw[←Rf] at f6 Dz Rb;have hfb:¬ Or wa.heap.size:=fun h=>by
        rcases XR.out _ h with h1|h1
        ·exact YT.2 (by exact h1)
        ·have:=HZF.out;omega
       have p6:PS w6 b Or (t9::r) Tr:=(P4.out.below b5).kept f6 (fun k hk e=>hfb (e▸hk)) (fun k e=>by omega)
       have adh:b+1≤w5.heap.size:=by omega
       have abc:zE w6 b [bu wP] (.slice (some ⟨w5.heap.size,0,none⟩) 1 1):=⟨⟨rfl,.inr ⟨w5.heap.size,1,#[.string ⟨#[115,101,108,102]⟩],rfl,adh,Rb,ai _,by unfold maxLen;omega,rfl,rfl⟩⟩,fun g hg=>⟨by
        have e1:g=w5.heap.size:=by simpa[Value.ownBlock] using hg.symm
        rw[e1];exact⟨_,_,Rb⟩,by simp⟩⟩
       have P6:=aa p6;have F6s:=aa f6;have I4:=aa Dz;have NM6:=aa abc;have F5:=aa f5;have HFB:=aa hfb;have F6:=aa (((FP.out.trans f5 (Ext.refl _ _)).mono VW.out).trans f6 (fun k (e:k=wa.heap.size)=>.inr (by have:=HWA.out;omega)))
       have N6:=aa ((NF.out.kept f5 fun k hk h=>HD.out k h hk).kept f6 (fun k hk (e:k=wa.heap.size)=>by have:=(HNW.out k hk).2;have:=HWA.out;omega))
       have YS:=aa (Bg b Or t9 r T Tr p a _ E w6 p6 LR.out zH.out);rw[Rf] at YS;have HW6:=aa Rf;clear b5 p6 f6 Dz Rb abc f5 YT hfb Rf;go_wp2_with fail
       refine YS.out.mono ?_;intro e w7 h7;rw[←HW6.out] at h7;have F7:=aa (F6.out.trans (h7.1.mono (O1:=Or) fun _ h=>h) (fun k hk=>(XW.out k hk).imp (VW.out k) id))
       have N7:=aa (N6.out.kept h7.1 fun k hk h=>HDr.out k h hk)
       have Wv:Hid (eI w7 Or wa.heap.size #[.int .i64 11,.int .i64 t1,.int .i64 0,.int .i64 0,.string ⟨#[]⟩,.slice (some ⟨w5.heap.size,0,none⟩) 1 1,.slice none 0 0] 55):=aa ⟨(h7.1.block _ (aJ.1 I4.out).1 HFB.out).trans I4.out,HFB.out⟩;have NM7:=aa (NM6.out.later h7.1);rcases h7.2 with ⟨p8,a8,ts8,O8,T8,rfl,q8,x8,l8,k8⟩ | ⟨le,v,er,rfl,⟨g',rfl,m2,m3⟩,k8⟩
       ·have P8:=aa q8
        have L8:=aa l8;have K8:=aa k8;have X8:Hid (Ext Op O8 w):=aa (XW.out.trans x8 F6.out.size);have HD8:Hid (∀k,O8 k→¬ On k):=aa fun k hk h=>by
         rcases X8.out k hk with h1|h1
         ·exact HD.out k h1 h
         ·have:=(HNW.out k h).2;omega
        clear h7 q8 x8 l8 k8 q5 y5;obtain⟨v6,c6,z6,jG,f6,p6,r6⟩:=pJ P8.out N7.out HD8.out L8.out;have DQ:T8.length=T.length+Ast.al [a8]:=L8.out.len;rw[DQ] at r6;obtain⟨O3,CC⟩ :∃O3:Nat→Prop,O3=fun k=>O8 k∨(On k∨k=w7.heap.size):=⟨_,rfl⟩
        rw[←CC] at r6;have X3:Hid (Ext O O3 w):=aa fun k hk=>by
         rw[CC] at hk;rcases hk with hk|hk|rfl
         ·exact(X8.out k hk).imp (fun h=>(HO.out k).2 (.inl h)) id
         ·exact .inl ((HO.out k).2 (.inr hk))
         ·exact .inr F7.out.size
        have f7:az O w ((w7.alloc (.cells #[.int .i64 (p8:Int)] 3)).setCell ⟨n,6,none⟩ (.slice (some ⟨w7.heap.size,0,none⟩) 1 1)):=F7.out.trans f6 fun k hk=>.inl ((HO.out k).2 (.inr hk))
        rw[World.setCell_alloc_past _ _ _ _ jG] at r6 f7;obtain⟨nv1,kv1,yZ,_,hz1⟩:=N7.out.cells;have d6:=yZ.c6;have y6:=hz1 6;have adi:wa.heap.size≠n:=by omega
        have adj:wa.heap.size<w7.heap.size:=(aJ.1 Wv.out.1).1;have e0:=Wv.out.cell 0;have e1:=Wv.out.cell 1;have e2:=Wv.out.cell 2;have e3:=Wv.out.cell 3;have e4:=Wv.out.cell 4;have e5:=Wv.out.cell 5;have e6:=Wv.out.cell 6;have HP7:=aM.yJ (w:=(w7.setCell ⟨n,6,none⟩ (.slice (some ⟨w7.heap.size,0,none⟩) 1 1)).alloc (.cells #[.int .i64 (p8:Int)] 3)) (b:=b) (O:=O3) (w7.heap.size+1) (by simp) r6.lt [aX 152 b] [bd] (by simp) ⟨DI.part (enters_of Tryz.func152 (by kernel_rfl) rfl) _ b O3,trivial⟩
        have Ob:zE (((w7.setCell ⟨n,6,none⟩ (.slice (some ⟨w7.heap.size,0,none⟩) 1 1)).alloc (.cells #[.int .i64 (p8:Int)] 3)).alloc (.cells #[aX 152 b] 122)) b [bu wP] (.slice (some ⟨w5.heap.size,0,none⟩) 1 1):=(NM7.out.later (O:=On) (by rw[←World.setCell_alloc_past _ _ _ _ jG];exact f6)).later ((az.refl On _).alloc _)
        have HH:=aa (rG b O3 ⟨11,t1,0,0,⟨#[]⟩,[bu wP],[]⟩ (.slice (some ⟨w5.heap.size,0,none⟩) 1 1) _ [bd] _ Ob HP7 (fun k hk=>by have:=r6.lt k hk;simp at this ⊢;omega))
        have R6:=aa r6;have F7:=aa f7;clear f6 p6 r6 f7 yZ hz1 c6 z6 HP7 Ob CC DQ;go_wp2_with fail
        refine HH.out.mono ?_;rintro e w8 ⟨v,rfl,b8,h8,fi,fa,fc,rfl⟩;have B8:=aa (aB (aV _ _) b8);have HN:=aa (jn w w8 (R6.out.below B8.out) (F7.out.trans (az.ae (O:=O3) B8.out) X3.out) X3.out [.func (.func 150) #[] #[],.func (.func fi) fa fc] [eo,dp (dQ ⟨11,t1,0,0,⟨#[]⟩,[bu wP],[]⟩ [bd])] (by simp) ⟨jK w8 b O3,h8,trivial⟩ K8.out)
        clear b8 h8;go_wp2_with fail
        refine HN.out.mono ?_;intro e wz hz;obtain⟨v,rfl⟩:=hz.ret;have HZ:=aa hz;clear hz;go_wp2_with fail
        go_ret
        exact HZ.out
       ·have M3:=aa m3
        have M2:=aa (aK F6.out.size m2);have K8:=aa k8;clear h7 m2 m3 k8 q5 y5;go_wp2_with fail
        go_ret
        exact⟨F7.out,.inr ⟨le,_,rfl,⟨g',rfl,M2.out,M3.out⟩,K8.out⟩⟩
      | false =>
       have g2:((ag t9).toList == [58])=false:=aj (s:=[58]) (by decide) t9 pD
       have zH:=aa (dN.2 pD);clear TW dN hq pD;generalize ag t9=Y at *;go_wp2_with fail
       refine jg.out.mono ?_;rintro e w4 ⟨rfl,b4⟩;have F4:=aa (FR.out.trans (az.ae (O:=Or) b4) XR.out);have P4:=aa (PR.out.below b4);have lM:=aa (HW.out w4 P4.out);clear b4 HW jg;go_wp2_with fail
       refine lM.out.mono ?_;rintro e w5 ⟨rfl,b5⟩;have f5:=F4.out.trans (az.ae (O:=Or) b5) XR.out;have P5:=aa (P4.out.below b5);have F5:=aa (FP.out.trans f5 (Ext.refl _ _) |>.mono VW.out);have N5:=aa (NF.out.kept f5 fun k hk h=>HD.out k h hk)
       have Ww:=aa (BF.out.later f5 (Ext.refl _ _));have NM5:Hid (zE w5 b [] (.slice none 0 0)):=aa (zE.nil w5 b);clear b5 f5;obtain⟨v6,c6,z6,jG,f6,p6,r6⟩:=pJ P5.out N5.out HDr.out LR.out;have DQ:Tr.length=T.length+Ast.al [a]:=LR.out.len;rw[DQ] at r6;obtain⟨O3,CC⟩ :∃O3:Nat→Prop,O3=fun k=>Or k∨(On k∨k=w5.heap.size):=⟨_,rfl⟩
       rw[←CC] at r6;have X3:Hid (Ext O O3 w):=aa fun k hk=>by
        rw[CC] at hk;rcases hk with hk|hk|rfl
        ·exact(XW.out k hk).imp (fun h=>(HO.out k).2 (.inl h)) id
        ·exact .inl ((HO.out k).2 (.inr hk))
        ·exact .inr F5.out.size
       have f7:az O w ((w5.alloc (.cells #[.int .i64 (p:Int)] 3)).setCell ⟨n,6,none⟩ (.slice (some ⟨w5.heap.size,0,none⟩) 1 1)):=F5.out.trans f6 fun k hk=>.inl ((HO.out k).2 (.inr hk))
       rw[World.setCell_alloc_past _ _ _ _ jG] at r6 f7;obtain⟨nv1,kv1,yZ,_,hz1⟩:=N5.out.cells;have d6:=yZ.c6;have y6:=hz1 6;have adi:wa.heap.size≠n:=by omega
       have adj:wa.heap.size<w5.heap.size:=(aJ.1 Ww.out.1).1;have e0:=Ww.out.cell 0;have e1:=Ww.out.cell 1;have e2:=Ww.out.cell 2;have e3:=Ww.out.cell 3;have e4:=Ww.out.cell 4;have e5:=Ww.out.cell 5;have e6:=Ww.out.cell 6;have HP7:=aM.yJ (w:=(w5.setCell ⟨n,6,none⟩ (.slice (some ⟨w5.heap.size,0,none⟩) 1 1)).alloc (.cells #[.int .i64 (p:Int)] 3)) (b:=b) (O:=O3) (w5.heap.size+1) (by simp) r6.lt [aX 152 b] [bd] (by simp) ⟨DI.part (enters_of Tryz.func152 (by kernel_rfl) rfl) _ b O3,trivial⟩
       have Ob:zE (((w5.setCell ⟨n,6,none⟩ (.slice (some ⟨w5.heap.size,0,none⟩) 1 1)).alloc (.cells #[.int .i64 (p:Int)] 3)).alloc (.cells #[aX 152 b] 122)) b [] (.slice none 0 0):=(NM5.out.later (O:=On) (by rw[←World.setCell_alloc_past _ _ _ _ jG];exact f6)).later ((az.refl On _).alloc _)
       have HH:=aa (rG b O3 ⟨11,t1,0,0,⟨#[]⟩,[],[]⟩ (.slice none 0 0) _ [bd] _ Ob HP7 (fun k hk=>by have:=r6.lt k hk;simp at this ⊢;omega))
       have R6:=aa r6;have F7:=aa f7;clear f6 p6 r6 f7 yZ hz1 c6 z6 HP7 Ob CC DQ;go_wp2_with fail
       refine HH.out.mono ?_;rintro e w8 ⟨v,rfl,b8,h8,fi,fa,fc,rfl⟩;have B8:=aa (aB (aV _ _) b8);have HN:=aa (jn w w8 (R6.out.below B8.out) (F7.out.trans (az.ae (O:=O3) B8.out) X3.out) X3.out [.func (.func 150) #[] #[],.func (.func fi) fa fc] [eo,dp (dQ ⟨11,t1,0,0,⟨#[]⟩,[],[]⟩ [bd])] (by simp) ⟨jK w8 b O3,h8,trivial⟩ zH.out)
       clear b8 h8;go_wp2_with fail
       refine HN.out.mono ?_;intro e wz hz;obtain⟨v,rfl⟩:=hz.ret;have HZ:=aa hz;clear hz;go_wp2_with fail
       go_ret
       exact HZ.out
   ·have M3:=aa m3
    have HG:=aa hg;have FR:=aa fr;have KE:=aa ke;clear m3 hg fr ke;go_wp2_with fail
    go_ret
    exact⟨(FP.out.trans FR.out (Ext.refl _ _)).mono VW.out,.inr ⟨le,_,rfl,⟨g',rfl,aK FP.out.size HG.out,M3.out⟩,KE.out⟩⟩
 ·have M3:=aa m3
  have M2:=aa m2;have K1:=aa k1;clear h3 m2 m3 k1;go_wp2_with fail
  go_loopg [6,7] 1 (fun _ lv ev wr=>lv=v∧ev=.iface 75 (.pointer (some ⟨g',0,none⟩))∧wr=w3)
  case atStart=>exact⟨rfl,rfl,rfl⟩
  case round =>
   obtain⟨rfl,rfl,rfl⟩:=hrel;go_wp2_with fail
   go_ret
   exact⟨(FP.out.trans F3.out (Ext.refl _ _)).mono VW.out,.inr ⟨le,_,rfl,⟨g',rfl,aK FP.out.size M2.out,M3.out⟩,K1.out⟩⟩
end Go.Proofs.YteflkdlaoiijbaaGreatDoor
namespace Go.Proofs.YteflkdlaoiijbaaGreatDoor
open Go.RowKit
section
variable {α:Type} {K:α→List ah→Prop} {E:Int→Prop}
theorem Gw.TX {n:NT} {k:VT n→GL α} {ts:List ah} (H:Gw (bg n) ts (fun v au=>Gw (k v) au K E) E):Gw (.call n k) ts K E :=
 ⟨fun a eP p=>by
  cases p with
  | call h1 h2=>exact(H.1 _ _ h1).1 _ _ h2,fun l p=>by
  cases p with
  | call h1 h2=>exact(H.1 _ _ h1).2 _ h2
  | fQ h1=>exact H.2 _ h1⟩
theorem Gw.YU {a:α} {ts:List ah} (h:K a ts):Gw (.ret a) ts K E:=⟨fun a' au p=>by cases p;exact h,fun l p=>by cases p⟩
end
theorem Rm.up {N k:Nat} {s:St} (h:Rm N k s):Rm (N+1) k s:=⟨by have:=h.len;omega,h.n,h.xs,h.wf⟩
theorem eA.of {f:FuncId} {wp wp':bV} (h:eA f wp) (hc :∀s K E,Fin s.ts→wp' s K E→wp s K E):eA f wp':=fun b n O T0 s K E W hr hk=>h b n O T0 s K E W hr (hc s K E (by
 obtain⟨Op,T,hp⟩:=hr.ps;exact hp.fin) hk)
theorem pF.of {f:FuncId} {wp wp':iV} (h:pF f wp) (hc :∀ts n K E,Fin ts→wp' ts n K E→wp ts n K E):pF f wp':=fun b O ts T K E W hp hk=>h b O ts T K E W hp (hc ts _ K E hp.fin hk)
theorem rK.of {f:FuncId} {l:Int} {wp wp':iV} (h:rK f l wp) (hc :∀ts n K E,Fin ts→wp' ts n K E→wp ts n K E):rK f l wp':=fun b O ts T K E W hp hk=>h b O ts T K E W hp (hc ts _ K E hp.fin hk)
def TY:iV:=fun _ _ _ _=>False
def Wx:bV:=fun _ _ _=>False
theorem YV (f:FuncId):pF f TY:=fun _ _ _ _ _ _ _ _ h=>h.elim
theorem TZ (f:FuncId) (l:Int):rK f l TY:=fun _ _ _ _ _ _ _ _ h=>h.elim
theorem YW (f:FuncId):eA f Wx:=fun _ _ _ _ _ _ _ _ _ h=>h.elim
def YX (rt:Int→iV) (bd it:bV) (sf:iV):iV:=fun ts n K E=>∃t r,ts=t::r∧(t.1=3→aI [aC] ⟨⟨4,t.2.1,0,t.2.2.1,⟨#[]⟩,[],[]⟩,[],t::r,n⟩ (bT K) E) ∧
 (t.1≠3→t.1=4→aI [aC] ⟨⟨5,t.2.1,0,0,bu t.2.2.2,[],[]⟩,[],t::r,n⟩ (bT K) E) ∧
 (t.1≠3→t.1≠4→fm t≠0→aI [aC,dp (rt (fm t))] ⟨⟨13,t.2.1,fm t,0,⟨#[]⟩,[],[]⟩,[],t::r,n⟩ (bT K) E) ∧
 (ax s5 t=true→aI [aC] ⟨dr 1 t.2.1,[],t::r,n⟩ (bT K) E)∧(ax ni t=true→aI [aC] ⟨dr 2 t.2.1,[],t::r,n⟩ (bT K) E) ∧
 (ax kF t=true→aI [aC] ⟨dr 3 t.2.1,[],t::r,n⟩ (bT K) E)∧(ax [46,46,46] t=true→aI [aC] ⟨dr 6 t.2.1,[],t::r,n⟩ (bT K) E) ∧
 (ax bc t=true→aI [aC,bd] ⟨dr 11 t.2.1,[],t::r,n⟩ (bT K) E)∧(ax [123] t=true→aI [aC,dx [125] it,av [[125]]] ⟨dr 15 t.2.1,[],t::r,n⟩ (bT K) E) ∧
 (NG t→sf (t::r) n K E)
theorem xF {rt:Int→iV} {bd it:bV} {sf:iV} (hR :∀op,20≤op→op≤23→rK 178 (wi op) (rt op)) (DI:eA 152 bd) (IA:eA 235 it) (hS:pF 153 sf):pF 204 (YX rt bd it sf):=by
 rintro b O ts T K E w hp ⟨t,r,rfl,h1,h2,h3,h4,h5,h6,h7,h8,h9,h10⟩;by_cases a1:t.1=3
 ·exact TC b O t r T K E w hp a1 (h1 a1)
 by_cases a2:t.1=4
 ·exact TD b O t r T K E w hp a1 a2 (h2 a1 a2)
 by_cases a3:fm t≠0
 ·exact TE hR b O t r T K E w hp a1 a2 a3 (h3 a1 a2 a3)
 cases a4:ax s5 t with
 | true=>exact TF b O t r T K E w hp a4 (h4 a4)
 | false =>
 cases a5:ax ni t with
 | true=>exact NC b O t r T K E w hp a5 (h5 a5)
 | false =>
 cases a6:ax kF t with
 | true=>exact IP b O t r T K E w hp a6 (h6 a6)
 | false =>
 cases a7:ax [46,46,46] t with
 | true=>exact ND b O t r T K E w hp a7 (h7 a7)
 | false =>
 cases a8:ax bc t with
 | true=>exact yX DI b O t r T K E w hp a8 (h8 a8)
 | false =>
 cases a9:ax [123] t with
 | true=>exact TG IA b O t r T K E w hp a9 (h9 a9)
 | false =>
  have hq:NG t:=⟨a1,a2,by simpa using a3,a4,a5,a6,a7,a8,a9⟩
  exact TH hS b O t r T K E w hp hq (h10 hq)
section
variable {K:Ast→List ah→Prop} {E:Int→Prop} {K':St→Prop} {N k n:Nat} {h:Nd} {xs:List Ast} {t:ah} {ts:List ah}
theorem iw {s:List UInt8} (hs:s≠[45]∧s≠[126]∧s≠CL∧s≠[35]) (h:ax s t=true):jZ t=none:=by
 unfold jZ;rw[bh h (Ne.symm hs.1),bh h (Ne.symm hs.2.1),bh h (Ne.symm hs.2.2.1),bh h (Ne.symm hs.2.2.2)];rfl
theorem abd (hI:Rm (N+1) k ⟨h,[],t::ts,n⟩) (H:Gw IU (t::ts) K E):YX (rtP N) (xw N) (yY N) (sN (N+1) DB) (t::ts) n K E:=by
 have G0:=Gw.look H;have GN:jZ t=none→Gw (bg .CN:GL Ast) (t::ts) K E:=fun ho=>by
  rw[ho] at G0;exact(Gw.call G0).mono fun v au _ hv=>hv.2.ret
 have no :∀{s s':List UInt8},ax s t=true→s'≠s→¬ ax s' t=true:=fun h1 h2=>aT h1 h2
 have nk:t.1≠2→t.1≠5→∀s:List UInt8,¬ ax s t=true:=fun h1 h2 s=>by simp[ax,h1,h2]
 refine⟨t,ts,rfl,fun ht=>?_,fun _ ht=>?_,fun h3 h4 hu=>?_,fun hw=>?_,fun hw=>?_,fun hw=>?_,fun hw=>?_,fun hw=>?_,fun hw=>?_,fun hq=>?_⟩
 ·have G:=Gw.look (GN (uV (by omega) (by omega)))
  have nn:=nk (by omega) (by omega)
  have G2:=((((((G.neg (nn _)).neg (nn _)).neg (nn _)).neg (nn _)).neg (nn _)).neg (nn _)).pos ht;exact cM hI.hd (by omega) fun hI=>cg hI G2.tok.ret
 ·have G:=Gw.look (GN (uV (by omega) (by omega)))
  have nn:=nk (by omega) (by omega)
  have G2:=(((((((G.neg (nn _)).neg (nn _)).neg (nn _)).neg (nn _)).neg (nn _)).neg (nn _)).neg (by omega)).pos ht
  exact cM hI.hd (by omega) fun hI=>cg hI G2.tok.ret
 ·cases ho:jZ t with
  | none=>exact absurd (by unfold fm;rw[ho]) hu
  | some o =>
   rw[ho] at G0;have hun:fm t=o:=by unfold fm;rw[ho]
   have hr:=qj ho;have hb:wi o=11:=by
    have h9:o=20∨o=21∨o=22∨o=23:=by omega
    rcases h9 with h|h|h|h<;>(rw[h];decide)
   rw[hun];refine cM hI.hd (Ft ho) fun hI=>?_
   show dp (sN N (rI (wi o+1).toNat)) _ _ _
   rw[hb];have G1:=Gw.call (Gw.tok G0);refine jN (by simp) ⟨hI.len,by have:=hI.n;dsimp only at *;omega,hI.wf.zF,⟨fun(a:Ast) au p=>nR.mk ?_,fun l p=>G1.2 l (Wr p)⟩⟩
   have hq:=G1.1 a au (Wr p);have hz:a.size+2*au.length+1≤2*ts.length:=hq.1;exact⟨by have:=hI.n;show n+Ast.al [a]≤_;rw[tF];dsimp only at this;omega,hq.2.ret⟩
 ·have G:=Gw.look (GN (iw (by decide) hw))
  exact cM hI.hd (aU hw) fun hI=>cg hI (G.pos hw).tok.ret
 ·have G:=Gw.look (GN (iw (by decide) hw))
  exact cM hI.hd (aU hw) fun hI=>cg hI ((G.neg (no hw (by decide))).pos hw).tok.ret
 ·have G:=Gw.look (GN (iw (by decide) hw))
  exact cM hI.hd (aU hw) fun hI=>cg hI (((G.neg (no hw (by decide))).neg (no hw (by decide))).pos hw).tok.ret
 ·have G:=Gw.look (GN (iw (by decide) hw))
  exact cM hI.hd (aU hw) fun hI=>cg hI ((((G.neg (no hw (by decide))).neg (no hw (by decide))).neg (no hw (by decide))).pos hw).tok.ret
 ·have G:=Gw.look (GN (iw (by decide) hw))
  have G2:=(Gw.call (((((G.neg (no hw (by decide))).neg (no hw (by decide))).neg (no hw (by decide))).neg (no hw (by decide))).pos hw).tok).mono (K':=K) fun v au _ hv=>hv.2.ret
  exact cM (hI.hd (h':=dr 11 t.2.1)) (aU hw) fun hI=>M0 hI (by simp) G2
 ·have G:=Gw.look (GN (iw (by decide) hw))
  have G2:=((((((G.neg (no hw (by decide))).neg (no hw (by decide))).neg (no hw (by decide))).neg (no hw (by decide))).neg (no hw (by decide))).pos hw).tok
  exact cM (hI.hd (h':=dr 15 t.2.1)) (aU hw) fun hI=>NM hI G2
 ·have ho:jZ t=none:=by
   cases ho:jZ t with
   | none=>rfl
   | some o =>
    have h1:=hq.un;have h2:=qj ho;unfold fm at h1;rw[ho] at h1;dsimp only at h1
    omega
  have G:=Gw.look (GN ho);have G2:=(((((((G.neg (by simp[hq.a])).neg (by simp[hq.b])).neg (by simp[hq.c])).neg (by simp[hq.d])).neg (by simp[hq.e])).neg (by simp[hq.f])).neg hq.n3).neg hq.n4
  exact⟨hI.len,by have:=hI.n;dsimp only at *;omega,hI.wf.zF,(Gw.call G2).mono fun v au _ hv=>hv.2.ret⟩
theorem abe {s:Nat} {l:Int} (hs:l+1=(s:Int)) (hl0:0≤l) (hf:Fin ts) (H:sN (N+1) (rI s) ts n K E):sN (N+1) IU ts n (fun a eB=>∃m,Ba (rtP N) l m a eB n K E) E:=by
 obtain⟨h1,h2,h3,h4⟩:=H;refine⟨h1,h2,h3,(Gw.call h4).mono fun(a:Ast) eB p hq=>⟨eB.length+1,?_⟩⟩
 have hz:a.size+2*eB.length+1≤2*ts.length:=hq.1;have ha:=size_pos a;exact YN hs hl0 (eB.length+1) eB a 0 (du _) ⟨by dsimp only;omega,by dsimp only;omega,by simp only[List.length_cons,List.length_nil];omega,p.wf ⟨hf,h3⟩⟩ ((Gw.call hq.2).mono fun v au _ hv=>hv.2.ret)
end
end Go.Proofs.YteflkdlaoiijbaaGreatDoor
namespace Go.Proofs.YteflkdlaoiijbaaGreatDoor
open Go.RowKit
def abf (N:Nat):iV:=YX (fun _=>TY) Wx (yY N) TY
def Bh (N:Nat):bV:=aa4 (abf N) (nQ N)
abbrev abg:GL (List Ast):=bg .arg
section
variable {K:Ast→List ah→Prop} {E:Int→Prop} {K':St→Prop} {N k n:Nat} {h:Nd} {xs:List Ast} {t:ah} {ts:List ah}
theorem Oc {kk:List Ast→GL Ast} (hI:Rm (N+1) k ⟨h,xs,ts,n⟩) (H:Gw (.call .arg kk) ts K E)
  (hk :∀(l:List Ast) (au:List ah),Rm (N+1) (k+1) ⟨h,xs++l,au,n+Ast.al l⟩→au.length<ts.length→Gw (kk l) au K E→K' ⟨h,xs++l,au,n+Ast.al l⟩):Bh N ⟨h,xs,ts,n⟩ K' E:=by
 obtain⟨t,r,jk⟩:=hI.cons;dsimp only at jk
 subst jk;have hn:=hI.n;have hx:=hI.xs;dsimp only at hn hx
 have G0:=Gw.call H;have adk :∀(l:List Ast) (au:List ah),PL abg (t::r) (.ok (l,au))→yM .arg (t::r).length l au.length∧Gw (kk l) au K E→K' ⟨h,xs++l,au,n+Ast.al l⟩:=fun l au p hq=>by
  have hz:Ast.al l+2*au.length+1≤2*(t::r).length:=hq.1;exact hk l au (hI.kids (by omega) (PL.short (n:=.arg) p) (PL.wf (n:=.arg) p hI.wf)) (by omega) hq.2
 have G1:Gw abg (t::r) (fun l au=>K' ⟨h,xs++l,au,n+Ast.al l⟩∧Ast.al l+2*au.length+1≤2*(t::r).length) E:=G0.mono fun l au p hq=>⟨adk l au p hq,hq.1⟩
 have G2:=Gw.look G1;refine⟨t,r,rfl,fun hc=>?_,fun h4 hw=>?_⟩
 ·refine jN (by dsimp only;omega) ⟨t,r,rfl,fun ht=>?_,fun _ ht=>?_,fun h3 h4 hu=>?_,fun hw=>?_,fun hw=>?_,fun hw=>?_,fun hw=>?_,fun hw=>?_,fun hw=>?_,fun hq=>?_⟩
  ·exact hc.elim (fun h=>absurd h (by omega)) fun h=>absurd ht (pI h)
  ·have G3:=(G2.pos ht).tok.ret
   refine⟨t,r,rfl,by omega,⟨?_,nR.mk G3.1⟩⟩
   dsimp only
   omega
  ·exact absurd (hc.elim (fun h=>absurd h h4) fun h=>by unfold fm;rw[iw (by decide) h]) hu
  ·exact hc.elim (fun h=>absurd h (ja hw)) fun h=>absurd hw (aT h (by decide))
  ·exact hc.elim (fun h=>absurd h (ja hw)) fun h=>absurd hw (aT h (by decide))
  ·exact hc.elim (fun h=>absurd h (ja hw)) fun h=>absurd hw (aT h (by decide))
  ·exact hc.elim (fun h=>absurd h (ja hw)) fun h=>absurd hw (aT h (by decide))
  ·exact hc.elim (fun h=>absurd h (ja hw)) fun h=>absurd hw (aT h (by decide))
  ·have G3:=((G2.neg (ja hw)).pos hw).tok
   have adl:Rm (N+1) k ⟨dr 15 t.2.1,[],t::r,n⟩:=⟨hI.len,hI.n,by have:=hI.xs;simp only[List.length_nil];dsimp only at this;omega,hI.wf⟩
   refine cM adl (aU hw) fun hI=>NM hI (Gw.TX ((Gw.call G3).mono fun(l:List Ast) au _ hq=>Gw.YU (nR.mk hq.2.ret.1)))
  ·exact hc.elim (fun h=>(hq.n4 h).elim) fun h=>by rw[hq.f] at h;exact(ef h).elim
 ·have G3:=(G2.neg h4).neg (by simp[hw])
  refine⟨t,r,rfl,fun hp=>?_,G3.want.2⟩
  have oL:Rm N (k+2) ⟨h,xs,r,n⟩:=hI.YE (aU hp);have G4:=G3.want.1 hp;obtain⟨u,us,jk⟩:=oL.cons;dsimp only at jk
  subst jk;have G5:=G4.look;refine(show aI [dx [41] (nQ N),av [[41]]] ⟨h,xs,u::us,n⟩ K' E from⟨u,us,rfl,fun hr=>?_,fun hr=>?_⟩)
  ·have G6:=(G5.pos hr).tok.ret
   rw[j8,cj,Nat.add_zero] at G6;exact(show av [[41]] _ _ _ from⟨u,us,rfl,fun _=>G6.1,fun hr2=>by rw[hr] at hr2;exact(ef hr2.symm).elim⟩)
  ·have G6:=G5.neg (by simp[hr])
   have G7:=Gw.call G6;have ra:=oL.n;have hx2:=oL.xs;dsimp only at ra hx2
   refine⟨by dsimp only;omega,(u::us).length+1,by omega,?_⟩
   refine FD _ ((u::us).length+1) (u::us) n [] (du _) oL.len (by omega) oL.wf (G7.mono fun(l:List Ast) au p hq=>?_)
   obtain⟨v,vs,rfl⟩:=(PL.wf (n:=.v8) p oL.wf).fin.cons;have pD:=hq.2.want;exact(show av [[41]] _ _ _ from⟨v,vs,rfl,fun hr=>(pD.1 hr).ret.1,pD.2⟩)
theorem YY :∀(m:Nat) (ts:List ah) (a:Ast) (k:Nat),ts.length<m→Rm (N+1) k ⟨dr 0 0,[a],ts,n+a.size⟩→Gw (bg (.aR a):GL Ast) ts K E→uU (oK N) (Bh N) m a ts n K E:=by
 intro m;induction m with
 | zero=>intro ts a k h;omega
 | succ m ih =>
  intro ts a k h1 hI H;obtain⟨t,r,rfl⟩:=hI.wf.fin.cons;have G:=Gw.look H;have fin :∀{j:Nat} (h0:Nd) (ys:List Ast) (eP:List ah) (y:Ast),Rm (N+1) j ⟨h0,[a]++ys,eP,n+a.size+Ast.al ys⟩→1≤j→eP.length≤r.length→y.size=Ast.al ([a]++ys)+1→Gw (.call (.aR y) fun(z:Ast)=>.ret z:GL Ast) eP K E→y=.mk h0 ([a]++ys)→(bT fun a' au=>uU (oK N) (Bh N) m a' au n K E) ⟨h0,[a]++ys,eP,n+a.size+Ast.al ys⟩:=fun{j} h0 ys eP y hI hj hl hy G e=>by
   have hn:=hI.n;have hx:=hI.xs;dsimp only at hn hx
   refine⟨by dsimp only;omega,?_⟩
   have G3:=(Gw.call G).mono (K':=K) fun v eP _ hv=>hv.2.ret
   rw[fk,tF] at hy;have:=ih eP y 0 (by simp at h1;omega) ⟨hI.len,by dsimp only;omega,by simp only[bM,List.length_cons,List.length_nil] at *;omega,hI.wf⟩ G3
   rw[e] at this;exact this
  have hI8 :∀h',Rm (N+1) k ⟨h',[a],t::r,n+a.size⟩:=fun h'=>⟨hI.len,hI.n,hI.xs,hI.wf⟩
  refine⟨t,r,rfl,fun h0=>?_,fun h0=>?_⟩
  ·unfold jo at h0
   by_cases a1:ax [46] t=true
   ·rw[ak a1] at h0;exact absurd h0 (by decide)
   rw[af a1] at h0;by_cases a2:ax [91] t=true
   ·rw[ak a2] at h0;exact absurd h0 (by decide)
   rw[af a2] at h0;by_cases a3:ax [58] t=true
   ·rw[ak a3] at h0;exact absurd h0 (by decide)
   rw[af a3] at h0;by_cases a4:ax [40] t=true
   ·rw[ak a4] at h0;exact absurd h0 (by decide)
   rw[af a4] at h0;by_cases a5:ax [123] t=true
   ·rw[ak a5] at h0;exact absurd h0 (by decide)
   rw[af a5] at h0;by_cases a6:t.1=4
   ·rw[ak a6] at h0;exact absurd h0 (by decide)
   exact((((G.neg a1).neg a2).neg a3).neg (by simp[a4,a5,a6])).ret
  ·have Od:(ax [40] t || ax [123] t || decide (t.1=4))=true→ax [46] t=false→ax [91] t=false→ax [58] t=false→aI [Bh N] ⟨dr 9 t.2.1,[a],t::r,n+a.size⟩ (bT fun a' au=>uU (oK N) (Bh N) m a' au n K E) E:=fun hc a1 a2 a3=>by
    have G2:=(((G.neg (by simp[a1])).neg (by simp[a2])).neg (by simp[a3])).pos hc
    exact Oc (hI8 _) G2 fun l eP hI hl G3=>fin (dr 9 t.2.1) l eP _ hI (by omega) (by simp at hl;omega) (by show Ast.size (nd 9 t.2.1 (a::l))=_;rw[oq];rfl) G3 rfl
   unfold jo FK;by_cases a1:ax [46] t=true
   ·rw[ak a1,ak a1]
    exact ll (hI8 _) (aU a1) fun hI=>DC hI (G.pos a1).tok fun u r2 hI hl G3=>fin (dr 8 t.2.1) _ r2 _ hI (by omega) (by omega) (by show Ast.size (nd 8 t.2.1 _)=_;rw[oq];rfl) G3 rfl
   rw[af a1,af a1];by_cases a2:ax [91] t=true
   ·rw[ak a2,ak a2]
    exact cM (hI8 _) (aU a2) fun hI=>fS hI ((G.neg a1).pos a2).tok fun e r2 hI hl G3=>bY hI G3 fun _ r3 hI Km G3=>fin (dr 8 t.2.1) [e] r3 _ hI.up (by omega) (by omega) (by show Ast.size (nd 8 t.2.1 [a,e])=_;rw[oq];rfl) G3 rfl
   rw[af a2,af a2];by_cases a3:ax [58] t=true
   ·rw[ak a3,ak a3]
    exact ll (hI8 (dr 10 t.2.1)) (aU a3) fun hI=>yT hI (((G.neg a1).neg a2).pos a3).tok fun u r2 hI hl G3=>Oc hI G3 fun l r3 hI Km G3=>fin ⟨10,t.2.1,0,0,bu u.2.2.2,[],[]⟩ l r3 _ hI (by omega) (by omega) (by show Ast.size (kf 10 t.2.1 _ (a::l))=_;rw[lh];rfl) G3 rfl
   rw[af a3,af a3];have b1:ax [46] t=false:=by simpa using a1
   have b2:ax [91] t=false:=by simpa using a2
   have b3:ax [58] t=false:=by simpa using a3
   by_cases a4:ax [40] t=true
   ·rw[ak a4,ak a4];exact Od (by simp[a4]) b1 b2 b3
   rw[af a4,af a4];by_cases a5:ax [123] t=true
   ·rw[ak a5,ak a5];exact Od (by simp[a5]) b1 b2 b3
   rw[af a5,af a5];by_cases a6:t.1=4
   ·rw[ak a6,ak a6];exact Od (by simp[a6]) b1 b2 b3
   ·exfalso
    apply h0;unfold jo;rw[af a1,af a2,af a3,af a4,af a5,af a6]
theorem abh (hf:Fin ts) (H:sN (N+1) DB ts n K E):aa7 (oK N) (Bh N) ts n K E:=by
 obtain⟨h1,h2,h3,h4⟩:=H;obtain⟨t,r,rfl⟩:=hf.cons;have hI :∀h',Rm (N+1) 0 ⟨h',[],t::r,n⟩:=fun h'=>⟨h1,h2,by simp only[List.length_nil];omega,⟨hf,h3⟩⟩
 have G:=Gw.look h4;have go :∀{j:Nat} (h0:Nd) (ys:List Ast) (eP:List ah) (y:Ast),Rm (N+1) j ⟨h0,ys,eP,n+Ast.al ys⟩→1≤j→y.size=Ast.al ys+1→Gw (.call (.aR y) fun(z:Ast)=>.ret z:GL Ast) eP K E→y=.mk h0 ys→(bT fun a eB=>∃m,uU (oK N) (Bh N) m a eB n K E) ⟨h0,ys,eP,n+Ast.al ys⟩:=fun{j} h0 ys eP y hI hj hy G e=>by
  have hn:=hI.n;dsimp only at hn
  refine⟨by dsimp only;omega,eP.length+1,?_⟩
  have:=YY (n:=n) (eP.length+1) eP y 0 (du _) ⟨hI.len,by dsimp only;omega,by simp only[List.length_cons,List.length_nil];omega,hI.wf⟩ ((Gw.call G).mono (K':=K) fun v eP _ hv=>hv.2.ret)
  rw[e] at this;exact this
 refine⟨t,r,rfl,fun hw=>?_,fun hw=>?_⟩
 ·have G2:=((G.neg (show ¬ t.1=1 from fun e=>by rcases aN hw with ⟨l,m,rfl⟩ | ⟨l,m,rfl⟩<;>simp at e)).pos hw).tok
  exact cM (hI (dr 14 t.2.1)) (aU hw) fun hI=>fS hI G2 fun e r2 hI hl G3=>bY hI G3 fun _ r3 hI Km G3=>go (dr 14 t.2.1) [e] r3 _ hI.up (by omega) (by show Ast.size (nd 14 t.2.1 [e])=_;rw[oq]) G3 rfl
 ·refine⟨t,r,rfl,fun ht=>?_,fun ht=>((G.neg ht).neg (by simp[hw])).bad⟩
  have oL:Rm (N+1) (0+2) ⟨⟨7,t.2.1,0,0,bu t.2.2.2,[],[]⟩,[],r,n+Ast.al []⟩:=by rw[cj];exact(hI (dr 7 t.2.1)).tok (by omega)
  have:=go ⟨7,t.2.1,0,0,bu t.2.2.2,[],[]⟩ [] r (kf 7 t.2.1 (bu t.2.2.2) []) oL (by omega) (by rw[lh]) (G.pos ht).tok rfl
  rw[cj] at this;exact this
end
end Go.Proofs.YteflkdlaoiijbaaGreatDoor
namespace Go.Proofs.YteflkdlaoiijbaaGreatDoor
open Go.RowKit
set_option maxRecDepth 40000 in
theorem I5  (b:Nat) (O:Nat→Prop) (t:ah) (ts:List ah) (T:List Nd) (K:Ast→List ah→Prop) (E:Int→Prop) (w:World) (hp:PS w b O (t::ts) T) (hq:ax nh t=true)
  (hk:aI [aC] ⟨dr 30 t.2.1,[],t::ts,T.length⟩ (bT K) E) :
  Calls Tryz.prog 44 #[.pointer (some ⟨b,0,none⟩)] w (aF b O T (RK K E) w):=by
 have HW:=aa (bL b O t ts T w hp);have g1:((ag t).toList == [98,114,101,97,107])=true:=aj (s:=nh) (by decide) t hq
 have HK:=aa hk;generalize hY:ag t=Y at *;have P:=aa hp;clear hp hk hY hq;go_enter Tryz.func44,Tryz.ntmps44
 go_wp2_with fail
 refine HW.out.mono ?_;rintro e w0 ⟨rfl,b0⟩;have F0:=aa (az.ae (O:=O) b0);have P0:=aa (P.out.below b0);clear b0;have HN:=aa (cA w w0 P0.out F0.out (mN 30) rfl [aX 40 b] [aC] (by simp) ⟨aZ w0 b O,trivial⟩ HK.out)
 go_wp2_with fail
 refine HN.out.mono ?_;intro e wz hz;obtain⟨v,er,rfl⟩:=hz.ret;have HZ:=aa hz;clear hz;go_wp2_with fail
 go_ret2
 exact HZ.out
set_option maxRecDepth 40000 in
theorem Oe  (b:Nat) (O:Nat→Prop) (t:ah) (ts:List ah) (T:List Nd) (K:Ast→List ah→Prop) (E:Int→Prop) (w:World) (hp:PS w b O (t::ts) T) (hq:ax pX t=true)
  (hk:aI [aC,cL] ⟨dr 31 t.2.1,[],t::ts,T.length⟩ (bT K) E) :
  Calls Tryz.prog 44 #[.pointer (some ⟨b,0,none⟩)] w (aF b O T (RK K E) w):=by
 have HW:=aa (bL b O t ts T w hp);have g1:=aP [98,114,101,97,107] hq (by decide)
 have g2:((ag t).toList == [103,111,116,111])=true:=aj (s:=pX) (by decide) t hq
 have HK:=aa hk;generalize hY:ag t=Y at *;have P:=aa hp;clear hp hk hY hq;go_enter Tryz.func44,Tryz.ntmps44
 go_wp2_with fail
 refine HW.out.mono ?_;rintro e w0 ⟨rfl,b0⟩;have F0:=aa (az.ae (O:=O) b0);have P0:=aa (P.out.below b0);clear b0;have HN:=aa (cA w w0 P0.out F0.out (mN 31) rfl [aX 40 b,aX 88 b] [aC,cL] (by simp) ⟨aZ w0 b O,iu w0 b O,trivial⟩ HK.out)
 go_wp2_with fail
 refine HN.out.mono ?_;intro e wz hz;obtain⟨v,er,rfl⟩:=hz.ret;have HZ:=aa hz;clear hz;go_wp2_with fail
 go_ret2
 exact HZ.out
set_option maxRecDepth 40000 in
theorem I6  (b:Nat) (O:Nat→Prop) (t:ah) (ts:List ah) (T:List Nd) (K:Ast→List ah→Prop) (E:Int→Prop) (w:World) (hp:PS w b O (t::ts) T) (hq:ax [58,58] t=true)
  (hk:aI [aC,cL,av [[58,58]]] ⟨dr 32 t.2.1,[],t::ts,T.length⟩ (bT K) E) :
  Calls Tryz.prog 44 #[.pointer (some ⟨b,0,none⟩)] w (aF b O T (RK K E) w):=by
 have HW:=aa (bL b O t ts T w hp);have g1:=aP [98,114,101,97,107] hq (by decide)
 have g2:=aP [103,111,116,111] hq (by decide)
 have g3:((ag t).toList == [58,58])=true:=aj (s:=[58,58]) (by decide) t hq
 have HK:=aa hk;generalize hY:ag t=Y at *;have P:=aa hp;clear hp hk hY hq;go_enter Tryz.func44,Tryz.ntmps44
 go_wp2_with fail
 refine HW.out.mono ?_;rintro e w0 ⟨rfl,b0⟩;have F0:=aa (az.ae (O:=O) b0);have P0:=aa (P.out.below b0);clear b0;have o9 :∀k,O k→k<w0.heap.size:=fun k hk=>(P0.out.own k hk).2
 have V1:=aa (cr w0 b O o9 [58,58] (by decide) ⟨#[58,58]⟩ rfl)
 clear o9;go_wp2_with fail
 refine V1.out.mono ?_;rintro e w1 ⟨f1,a1,c1,rfl,b1,h1⟩;have F1:=aa (F0.out.trans (az.ae (O:=O) b1) (Ext.refl _ _));have P1:=aa (P0.out.below b1);have H1:=aa h1;clear b1 h1 V1;have HN:=aa (cA w w1 P1.out F1.out (mN 32) rfl [aX 40 b,aX 88 b,.func (.func f1) a1 c1] [aC,cL,av [[58,58]]] (by simp) ⟨aZ w1 b O,iu w1 b O,H1.out,trivial⟩ HK.out)
 go_wp2_with fail
 refine HN.out.mono ?_;intro e wz hz;obtain⟨v,er,rfl⟩:=hz.ret;have HZ:=aa hz;clear hz;go_wp2_with fail
 go_ret2
 exact HZ.out
set_option maxRecDepth 40000 in
theorem YZ {bl:bV} (hB:eA 90 bl) (b:Nat) (O:Nat→Prop) (t:ah) (ts:List ah) (T:List Nd) (K:Ast→List ah→Prop) (E:Int→Prop) (w:World) (hp:PS w b O (t::ts) T) (hq:ax pY t=true)
  (hk:aI [aC,bl,av [[101,110,100]]] ⟨dr 22 t.2.1,[],t::ts,T.length⟩ (bT K) E) :
  Calls Tryz.prog 44 #[.pointer (some ⟨b,0,none⟩)] w (aF b O T (RK K E) w):=by
 have HW:=aa (bL b O t ts T w hp);have g1:=aP [98,114,101,97,107] hq (by decide)
 have g2:=aP [103,111,116,111] hq (by decide)
 have g3:=aP [58,58] hq (by decide)
 have g4:((ag t).toList == [100,111])=true:=aj (s:=pY) (by decide) t hq
 have HK:=aa hk;generalize hY:ag t=Y at *;have P:=aa hp;clear hp hk hY hq;go_enter Tryz.func44,Tryz.ntmps44
 go_wp2_with fail
 refine HW.out.mono ?_;rintro e w0 ⟨rfl,b0⟩;have F0:=aa (az.ae (O:=O) b0);have P0:=aa (P.out.below b0);clear b0;have o9 :∀k,O k→k<w0.heap.size:=fun k hk=>(P0.out.own k hk).2
 have V1:=aa (cr w0 b O o9 [101,110,100] (by decide) ⟨#[101,110,100]⟩ rfl)
 clear o9;go_wp2_with fail
 refine V1.out.mono ?_;rintro e w1 ⟨f1,a1,c1,rfl,b1,h1⟩;have F1:=aa (F0.out.trans (az.ae (O:=O) b1) (Ext.refl _ _));have P1:=aa (P0.out.below b1);have H1:=aa h1;clear b1 h1 V1;have HN:=aa (cA w w1 P1.out F1.out (mN 22) rfl [aX 40 b,aX 90 b,.func (.func f1) a1 c1] [aC,bl,av [[101,110,100]]] (by simp) ⟨aZ w1 b O,hB.part (enters_of Tryz.func90 (by kernel_rfl) rfl) w1 b O,H1.out,trivial⟩ HK.out)
 go_wp2_with fail
 refine HN.out.mono ?_;intro e wz hz;obtain⟨v,er,rfl⟩:=hz.ret;have HZ:=aa hz;clear hz;go_wp2_with fail
 go_ret2
 exact HZ.out
set_option maxRecDepth 40000 in
theorem I7 {ex bl:bV} (hE:eA 91 ex) (hB:eA 90 bl) (b:Nat) (O:Nat→Prop) (t:ah) (ts:List ah) (T:List Nd) (K:Ast→List ah→Prop) (E:Int→Prop) (w:World) (hp:PS w b O (t::ts) T) (hq:ax pq t=true)
  (hk:aI [aC,ex,av [[100,111]],bl,av [[101,110,100]]] ⟨dr 23 t.2.1,[],t::ts,T.length⟩ (bT K) E) :
  Calls Tryz.prog 44 #[.pointer (some ⟨b,0,none⟩)] w (aF b O T (RK K E) w):=by
 have HW:=aa (bL b O t ts T w hp);have g1:=aP [98,114,101,97,107] hq (by decide)
 have g2:=aP [103,111,116,111] hq (by decide)
 have g3:=aP [58,58] hq (by decide)
 have g4:=aP [100,111] hq (by decide)
 have g5:((ag t).toList == [119,104,105,108,101])=true:=aj (s:=pq) (by decide) t hq
 have HK:=aa hk;generalize hY:ag t=Y at *;have P:=aa hp;clear hp hk hY hq;go_enter Tryz.func44,Tryz.ntmps44
 go_wp2_with fail
 refine HW.out.mono ?_;rintro e w0 ⟨rfl,b0⟩;have F0:=aa (az.ae (O:=O) b0);have P0:=aa (P.out.below b0);clear b0;have o9 :∀k,O k→k<w0.heap.size:=fun k hk=>(P0.out.own k hk).2
 have V1:=aa (cr w0 b O o9 [100,111] (by decide) ⟨#[100,111]⟩ rfl)
 clear o9;go_wp2_with fail
 refine V1.out.mono ?_;rintro e w1 ⟨f1,a1,c1,rfl,b1,h1⟩;have F1:=aa (F0.out.trans (az.ae (O:=O) b1) (Ext.refl _ _));have P1:=aa (P0.out.below b1);have H1:=aa h1;clear b1 h1 V1;have rF :∀k,O k→k<w1.heap.size:=fun k hk=>(P1.out.own k hk).2
 have V2:=aa (cr w1 b O rF [101,110,100] (by decide) ⟨#[101,110,100]⟩ rfl)
 clear rF;go_wp2_with fail
 refine V2.out.mono ?_;rintro e w2 ⟨f2,a2,c2,rfl,b2,h2⟩;have F2:=aa (F1.out.trans (az.ae (O:=O) b2) (Ext.refl _ _));have P2:=aa (P1.out.below b2);have L1:=aa (H1.out.later (az.ae (O:=O) b2) (Ext.refl _ _));clear H1;have H1:=L1;clear L1;have H2:=aa h2;clear b2 h2 V2;have HN:=aa (cA w w2 P2.out F2.out (mN 23) rfl [aX 40 b,aX 91 b,.func (.func f1) a1 c1,aX 90 b,.func (.func f2) a2 c2] [aC,ex,av [[100,111]],bl,av [[101,110,100]]] (by simp) ⟨aZ w2 b O,hE.part (enters_of Tryz.func91 (by kernel_rfl) rfl) w2 b O,H1.out,hB.part (enters_of Tryz.func90 (by kernel_rfl) rfl) w2 b O,H2.out,trivial⟩ HK.out)
 go_wp2_with fail
 refine HN.out.mono ?_;intro e wz hz;obtain⟨v,er,rfl⟩:=hz.ret;have HZ:=aa hz;clear hz;go_wp2_with fail
 go_ret2
 exact HZ.out
set_option maxRecDepth 40000 in
theorem DR {bl ex:bV} (hB:eA 90 bl) (hE:eA 91 ex) (b:Nat) (O:Nat→Prop) (t:ah) (ts:List ah) (T:List Nd) (K:Ast→List ah→Prop) (E:Int→Prop) (w:World) (hp:PS w b O (t::ts) T) (hq:ax lO t=true)
  (hk:aI [aC,bl,av [[117,110,116,105,108]],ex] ⟨dr 24 t.2.1,[],t::ts,T.length⟩ (bT K) E) :
  Calls Tryz.prog 44 #[.pointer (some ⟨b,0,none⟩)] w (aF b O T (RK K E) w):=by
 have HW:=aa (bL b O t ts T w hp);have g1:=aP [98,114,101,97,107] hq (by decide)
 have g2:=aP [103,111,116,111] hq (by decide)
 have g3:=aP [58,58] hq (by decide)
 have g4:=aP [100,111] hq (by decide)
 have g5:=aP [119,104,105,108,101] hq (by decide)
 have g6:((ag t).toList == [114,101,112,101,97,116])=true:=aj (s:=lO) (by decide) t hq
 have HK:=aa hk;generalize hY:ag t=Y at *;have P:=aa hp;clear hp hk hY hq;go_enter Tryz.func44,Tryz.ntmps44
 go_wp2_with fail
 refine HW.out.mono ?_;rintro e w0 ⟨rfl,b0⟩;have F0:=aa (az.ae (O:=O) b0);have P0:=aa (P.out.below b0);clear b0;have o9 :∀k,O k→k<w0.heap.size:=fun k hk=>(P0.out.own k hk).2
 have V1:=aa (cr w0 b O o9 [117,110,116,105,108] (by decide) ⟨#[117,110,116,105,108]⟩ rfl)
 clear o9;go_wp2_with fail
 refine V1.out.mono ?_;rintro e w1 ⟨f1,a1,c1,rfl,b1,h1⟩;have F1:=aa (F0.out.trans (az.ae (O:=O) b1) (Ext.refl _ _));have P1:=aa (P0.out.below b1);have H1:=aa h1;clear b1 h1 V1;have HN:=aa (cA w w1 P1.out F1.out (mN 24) rfl [aX 40 b,aX 90 b,.func (.func f1) a1 c1,aX 91 b] [aC,bl,av [[117,110,116,105,108]],ex] (by simp) ⟨aZ w1 b O,hB.part (enters_of Tryz.func90 (by kernel_rfl) rfl) w1 b O,H1.out,hE.part (enters_of Tryz.func91 (by kernel_rfl) rfl) w1 b O,trivial⟩ HK.out)
 go_wp2_with fail
 refine HN.out.mono ?_;intro e wz hz;obtain⟨v,er,rfl⟩:=hz.ret;have HZ:=aa hz;clear hz;go_wp2_with fail
 go_ret2
 exact HZ.out
set_option maxRecDepth 40000 in
theorem Y0 {ex bl:bV} (hE:eA 91 ex) (hB:eA 90 bl) (b:Nat) (O:Nat→Prop) (t:ah) (ts:List ah) (T:List Nd) (K:Ast→List ah→Prop) (E:Int→Prop) (w:World) (hp:PS w b O (t::ts) T) (hq:ax Xk t=true)
  (hk:aI [aC,ex,av [[116,104,101,110]],bl,rC [101,108,115,101,105,102] [ex,av [[116,104,101,110]],bl],bw [101,108,115,101] [bl],av [[101,110,100]]] ⟨dr 25 t.2.1,[],t::ts,T.length⟩ (bT K) E) :
  Calls Tryz.prog 44 #[.pointer (some ⟨b,0,none⟩)] w (aF b O T (RK K E) w):=by
 have HW:=aa (bL b O t ts T w hp);have g1:=aP [98,114,101,97,107] hq (by decide)
 have g2:=aP [103,111,116,111] hq (by decide)
 have g3:=aP [58,58] hq (by decide)
 have g4:=aP [100,111] hq (by decide)
 have g5:=aP [119,104,105,108,101] hq (by decide)
 have g6:=aP [114,101,112,101,97,116] hq (by decide)
 have g7:((ag t).toList == [105,102])=true:=aj (s:=Xk) (by decide) t hq
 have HK:=aa hk;generalize hY:ag t=Y at *;have P:=aa hp;clear hp hk hY hq;go_enter Tryz.func44,Tryz.ntmps44
 go_wp2_with fail
 refine HW.out.mono ?_;rintro e w0 ⟨rfl,b0⟩;have F0:=aa (az.ae (O:=O) b0);have P0:=aa (P.out.below b0);clear b0;have o9 :∀k,O k→k<w0.heap.size:=fun k hk=>(P0.out.own k hk).2
 have V1:=aa (cr w0 b O o9 [116,104,101,110] (by decide) ⟨#[116,104,101,110]⟩ rfl)
 clear o9;go_wp2_with fail
 refine V1.out.mono ?_;rintro e w1 ⟨f1,a1,c1,rfl,b1,h1⟩;have F1:=aa (F0.out.trans (az.ae (O:=O) b1) (Ext.refl _ _));have P1:=aa (P0.out.below b1);have H1:=aa h1;clear b1 h1 V1;have rF :∀k,O k→k<w1.heap.size:=fun k hk=>(P1.out.own k hk).2
 have V2:=aa (cr w1 b O rF [116,104,101,110] (by decide) ⟨#[116,104,101,110]⟩ rfl)
 clear rF;go_wp2_with fail
 refine V2.out.mono ?_;rintro e w2 ⟨f2,a2,c2,rfl,b2,h2⟩;have F2:=aa (F1.out.trans (az.ae (O:=O) b2) (Ext.refl _ _));have P2:=aa (P1.out.below b2);have L1:=aa (H1.out.later (az.ae (O:=O) b2) (Ext.refl _ _));clear H1;have H1:=L1;clear L1;have H2:=aa h2;clear b2 h2 V2;have Kn :∀k,O k→k<w2.heap.size:=fun k hk=>(P2.out.own k hk).2
 have V3:=aa (Tt w2 b O Kn [aX 91 b,.func (.func f2) a2 c2,aX 90 b] [ex,av [[116,104,101,110]],bl] (by simp) ⟨hE.part (enters_of Tryz.func91 (by kernel_rfl) rfl) w2 b O,H2.out,hB.part (enters_of Tryz.func90 (by kernel_rfl) rfl) w2 b O,trivial⟩ [101,108,115,101,105,102] (by decide) ⟨#[101,108,115,101,105,102]⟩ rfl)
 clear Kn;go_wp2_with fail
 refine V3.out.mono ?_;rintro e w3 ⟨f3,a3,c3,rfl,b3,h3⟩;have F3:=aa (F2.out.trans (az.ae (O:=O) b3) (Ext.refl _ _));have P3:=aa (P2.out.below b3);have L1:=aa (H1.out.later (az.ae (O:=O) b3) (Ext.refl _ _));clear H1;have H1:=L1;clear L1;have H3:=aa h3;clear b3 h3 V3;have CC :∀k,O k→k<w3.heap.size:=fun k hk=>(P3.out.own k hk).2
 have V4:=aa (pG w3 b O CC [aX 90 b] [bl] (by simp) ⟨hB.part (enters_of Tryz.func90 (by kernel_rfl) rfl) w3 b O,trivial⟩ [101,108,115,101] (by decide) ⟨#[101,108,115,101]⟩ rfl)
 clear CC;go_wp2_with fail
 refine V4.out.mono ?_;rintro e w4 ⟨f4,a4,c4,rfl,b4,h4⟩;have F4:=aa (F3.out.trans (az.ae (O:=O) b4) (Ext.refl _ _));have P4:=aa (P3.out.below b4);have L1:=aa (H1.out.later (az.ae (O:=O) b4) (Ext.refl _ _));clear H1;have H1:=L1;clear L1;have L3:=aa (H3.out.later (az.ae (O:=O) b4) (Ext.refl _ _));clear H3;have H3:=L3;clear L3;have H4:=aa h4;clear b4 h4 V4;have Wc :∀k,O k→k<w4.heap.size:=fun k hk=>(P4.out.own k hk).2
 have V5:=aa (cr w4 b O Wc [101,110,100] (by decide) ⟨#[101,110,100]⟩ rfl)
 clear Wc;go_wp2_with fail
 refine V5.out.mono ?_;rintro e w5 ⟨f5,a5,c5,rfl,b5,h5⟩;have F5:=aa (F4.out.trans (az.ae (O:=O) b5) (Ext.refl _ _));have P5:=aa (P4.out.below b5);have L1:=aa (H1.out.later (az.ae (O:=O) b5) (Ext.refl _ _));clear H1;have H1:=L1;clear L1;have L3:=aa (H3.out.later (az.ae (O:=O) b5) (Ext.refl _ _));clear H3;have H3:=L3;clear L3;have L4:=aa (H4.out.later (az.ae (O:=O) b5) (Ext.refl _ _));clear H4;have H4:=L4;clear L4;have H5:=aa h5;clear b5 h5 V5;have HN:=aa (cA w w5 P5.out F5.out (mN 25) rfl [aX 40 b,aX 91 b,.func (.func f1) a1 c1,aX 90 b,.func (.func f3) a3 c3,.func (.func f4) a4 c4,.func (.func f5) a5 c5] [aC,ex,av [[116,104,101,110]],bl,rC [101,108,115,101,105,102] [ex,av [[116,104,101,110]],bl],bw [101,108,115,101] [bl],av [[101,110,100]]] (by simp) ⟨aZ w5 b O,hE.part (enters_of Tryz.func91 (by kernel_rfl) rfl) w5 b O,H1.out,hB.part (enters_of Tryz.func90 (by kernel_rfl) rfl) w5 b O,H3.out,H4.out,H5.out,trivial⟩ HK.out)
 go_wp2_with fail
 refine HN.out.mono ?_;intro e wz hz;obtain⟨v,er,rfl⟩:=hz.ret;have HZ:=aa hz;clear hz;go_wp2_with fail
 go_ret2
 exact HZ.out
set_option maxRecDepth 40000 in
theorem T3 {ro bl:bV} (hN:eA 93 iC) (hR:eA 94 ro) (hB:eA 90 bl) (b:Nat) (O:Nat→Prop) (t:ah) (ts:List ah) (T:List Nd) (K:Ast→List ah→Prop) (E:Int→Prop) (w:World) (hp:PS w b O (t::ts) T) (hq:ax CK t=true)
  (hk:aI [aC,iC,ro,av [[100,111]],bl,av [[101,110,100]]] ⟨dr 0 t.2.1,[],t::ts,T.length⟩ (bT K) E) :
  Calls Tryz.prog 44 #[.pointer (some ⟨b,0,none⟩)] w (aF b O T (RK K E) w):=by
 have HW:=aa (bL b O t ts T w hp);have g1:=aP [98,114,101,97,107] hq (by decide)
 have g2:=aP [103,111,116,111] hq (by decide)
 have g3:=aP [58,58] hq (by decide)
 have g4:=aP [100,111] hq (by decide)
 have g5:=aP [119,104,105,108,101] hq (by decide)
 have g6:=aP [114,101,112,101,97,116] hq (by decide)
 have g7:=aP [105,102] hq (by decide)
 have g8:((ag t).toList == [102,111,114])=true:=aj (s:=CK) (by decide) t hq
 have HK:=aa hk;generalize hY:ag t=Y at *;have P:=aa hp;clear hp hk hY hq;go_enter Tryz.func44,Tryz.ntmps44
 go_wp2_with fail
 refine HW.out.mono ?_;rintro e w0 ⟨rfl,b0⟩;have F0:=aa (az.ae (O:=O) b0);have P0:=aa (P.out.below b0);clear b0;have o9 :∀k,O k→k<w0.heap.size:=fun k hk=>(P0.out.own k hk).2
 have V1:=aa (cr w0 b O o9 [100,111] (by decide) ⟨#[100,111]⟩ rfl)
 clear o9;go_wp2_with fail
 refine V1.out.mono ?_;rintro e w1 ⟨f1,a1,c1,rfl,b1,h1⟩;have F1:=aa (F0.out.trans (az.ae (O:=O) b1) (Ext.refl _ _));have P1:=aa (P0.out.below b1);have H1:=aa h1;clear b1 h1 V1;have rF :∀k,O k→k<w1.heap.size:=fun k hk=>(P1.out.own k hk).2
 have V2:=aa (cr w1 b O rF [101,110,100] (by decide) ⟨#[101,110,100]⟩ rfl)
 clear rF;go_wp2_with fail
 refine V2.out.mono ?_;rintro e w2 ⟨f2,a2,c2,rfl,b2,h2⟩;have F2:=aa (F1.out.trans (az.ae (O:=O) b2) (Ext.refl _ _));have P2:=aa (P1.out.below b2);have L1:=aa (H1.out.later (az.ae (O:=O) b2) (Ext.refl _ _));clear H1;have H1:=L1;clear L1;have H2:=aa h2;clear b2 h2 V2;have HN:=aa (cA w w2 P2.out F2.out (mN 0) rfl [aX 40 b,aX 93 b,aX 94 b,.func (.func f1) a1 c1,aX 90 b,.func (.func f2) a2 c2] [aC,iC,ro,av [[100,111]],bl,av [[101,110,100]]] (by simp) ⟨aZ w2 b O,hN.part (enters_of Tryz.func93 (by kernel_rfl) rfl) w2 b O,hR.part (enters_of Tryz.func94 (by kernel_rfl) rfl) w2 b O,H1.out,hB.part (enters_of Tryz.func90 (by kernel_rfl) rfl) w2 b O,H2.out,trivial⟩ HK.out)
 go_wp2_with fail
 refine HN.out.mono ?_;intro e wz hz;obtain⟨v,er,rfl⟩:=hz.ret;have HZ:=aa hz;clear hz;go_wp2_with fail
 go_ret2
 exact HZ.out
set_option maxRecDepth 40000 in
theorem y8 {as_:bV} (hA:eA 95 as_) (b:Nat) (O:Nat→Prop) (t:ah) (ts:List ah) (T:List Nd) (K:Ast→List ah→Prop) (E:Int→Prop) (w:World) (hp:PS w b O (t::ts) T) (hq:ax bc t=true)
  (hk:aI [as_] ⟨dr 20 t.2.1,[],t::ts,T.length⟩ (bT K) E) :
  Calls Tryz.prog 44 #[.pointer (some ⟨b,0,none⟩)] w (aF b O T (RK K E) w):=by
 have HW:=aa (bL b O t ts T w hp);have g1:=aP [98,114,101,97,107] hq (by decide)
 have g2:=aP [103,111,116,111] hq (by decide)
 have g3:=aP [58,58] hq (by decide)
 have g4:=aP [100,111] hq (by decide)
 have g5:=aP [119,104,105,108,101] hq (by decide)
 have g6:=aP [114,101,112,101,97,116] hq (by decide)
 have g7:=aP [105,102] hq (by decide)
 have g8:=aP [102,111,114] hq (by decide)
 have g9:((ag t).toList == [102,117,110,99,116,105,111,110])=true:=aj (s:=bc) (by decide) t hq
 have HK:=aa hk;generalize hY:ag t=Y at *;have P:=aa hp;clear hp hk hY hq;go_enter Tryz.func44,Tryz.ntmps44
 go_wp2_with fail
 refine HW.out.mono ?_;rintro e w0 ⟨rfl,b0⟩;have F0:=aa (az.ae (O:=O) b0);have P0:=aa (P.out.below b0);clear b0;have HN:=aa (cA w w0 P0.out F0.out (mN 20) rfl [aX 95 b] [as_] (by simp) ⟨hA.part (enters_of Tryz.func95 (by kernel_rfl) rfl) w0 b O,trivial⟩ HK.out)
 go_wp2_with fail
 refine HN.out.mono ?_;intro e wz hz;obtain⟨v,er,rfl⟩:=hz.ret;have HZ:=aa hz;clear hz;go_wp2_with fail
 go_ret2
 exact HZ.out
set_option maxRecDepth 40000 in
theorem I8 {de:bV} (hD:eA 96 de) (b:Nat) (O:Nat→Prop) (t:ah) (ts:List ah) (T:List Nd) (K:Ast→List ah→Prop) (E:Int→Prop) (w:World) (hp:PS w b O (t::ts) T) (hq:ax lP t=true)
  (hk:aI [aC,de] ⟨dr 0 t.2.1,[],t::ts,T.length⟩ (bT K) E) :
  Calls Tryz.prog 44 #[.pointer (some ⟨b,0,none⟩)] w (aF b O T (RK K E) w):=by
 have HW:=aa (bL b O t ts T w hp);have g1:=aP [98,114,101,97,107] hq (by decide)
 have g2:=aP [103,111,116,111] hq (by decide)
 have g3:=aP [58,58] hq (by decide)
 have g4:=aP [100,111] hq (by decide)
 have g5:=aP [119,104,105,108,101] hq (by decide)
 have g6:=aP [114,101,112,101,97,116] hq (by decide)
 have g7:=aP [105,102] hq (by decide)
 have g8:=aP [102,111,114] hq (by decide)
 have g9:=aP [102,117,110,99,116,105,111,110] hq (by decide)
 have g10:((ag t).toList == [108,111,99,97,108])=true:=aj (s:=lP) (by decide) t hq
 have HK:=aa hk;generalize hY:ag t=Y at *;have P:=aa hp;clear hp hk hY hq;go_enter Tryz.func44,Tryz.ntmps44
 go_wp2_with fail
 refine HW.out.mono ?_;rintro e w0 ⟨rfl,b0⟩;have F0:=aa (az.ae (O:=O) b0);have P0:=aa (P.out.below b0);clear b0;have HN:=aa (cA w w0 P0.out F0.out (mN 0) rfl [aX 40 b,aX 96 b] [aC,de] (by simp) ⟨aZ w0 b O,hD.part (enters_of Tryz.func96 (by kernel_rfl) rfl) w0 b O,trivial⟩ HK.out)
 go_wp2_with fail
 refine HN.out.mono ?_;intro e wz hz;obtain⟨v,er,rfl⟩:=hz.ret;have HZ:=aa hz;clear hz;go_wp2_with fail
 go_ret2
 exact HZ.out
set_option maxRecDepth 40000 in
theorem I9 {be:bV} (hG:eA 97 be) (b:Nat) (O:Nat→Prop) (t:ah) (ts:List ah) (T:List Nd) (K:Ast→List ah→Prop) (E:Int→Prop) (w:World) (hp:PS w b O (t::ts) T) (hq:M8 t)
  (hk:aI [be] ⟨dr 0 t.2.1,[],t::ts,T.length⟩ (bT K) E) :
  Calls Tryz.prog 44 #[.pointer (some ⟨b,0,none⟩)] w (aF b O T (RK K E) w):=by
 have HW:=aa (bL b O t ts T w hp);have g1:((ag t).toList == [98,114,101,97,107])=false:=aj (s:=nh) (by decide) t hq.b
 have g2:((ag t).toList == [103,111,116,111])=false:=aj (s:=pX) (by decide) t hq.c
 have g3:((ag t).toList == [58,58])=false:=aj (s:=[58,58]) (by decide) t hq.a
 have g4:((ag t).toList == [100,111])=false:=aj (s:=pY) (by decide) t hq.d
 have g5:((ag t).toList == [119,104,105,108,101])=false:=aj (s:=pq) (by decide) t hq.e
 have g6:((ag t).toList == [114,101,112,101,97,116])=false:=aj (s:=lO) (by decide) t hq.f
 have g7:((ag t).toList == [105,102])=false:=aj (s:=Xk) (by decide) t hq.g
 have g8:((ag t).toList == [102,111,114])=false:=aj (s:=CK) (by decide) t hq.h
 have g9:((ag t).toList == [102,117,110,99,116,105,111,110])=false:=aj (s:=bc) (by decide) t hq.i
 have g10:((ag t).toList == [108,111,99,97,108])=false:=aj (s:=lP) (by decide) t hq.j
 have HK:=aa hk;generalize hY:ag t=Y at *;have P:=aa hp;clear hp hk hY hq;go_enter Tryz.func44,Tryz.ntmps44
 go_wp2_with fail
 refine HW.out.mono ?_;rintro e w0 ⟨rfl,b0⟩;have F0:=aa (az.ae (O:=O) b0);have P0:=aa (P.out.below b0);clear b0;have HN:=aa (cA w w0 P0.out F0.out (mN 0) rfl [aX 97 b] [be] (by simp) ⟨hG.part (enters_of Tryz.func97 (by kernel_rfl) rfl) w0 b O,trivial⟩ HK.out)
 go_wp2_with fail
 refine HN.out.mono ?_;intro e wz hz;obtain⟨v,er,rfl⟩:=hz.ret;have HZ:=aa hz;clear hz;go_wp2_with fail
 go_ret2
 exact HZ.out
end Go.Proofs.YteflkdlaoiijbaaGreatDoor
namespace Go.Proofs.YteflkdlaoiijbaaGreatDoor
open Go.RowKit
section
variable {K:Ast→List ah→Prop} {E:Int→Prop} {K':St→Prop} {N k n:Nat} {h:Nd} {xs:List Ast} {t:ah} {ts:List ah}
theorem Og {t:ah} (h:ij t=true):ax [59] t=false:=by
 cases hs:ax [59] t with
 | false=>rfl
 | true =>
  exfalso;unfold ij at h;rw[bh hs (show ig≠[59] by decide),bh hs (show sA≠[59] by decide),bh hs (show j9≠[59] by decide),bh hs (show po≠[59] by decide)] at h
  have:=aU hs;simp at h;exact this h
theorem Y1 (K2:List Ast→List ah→Prop) (c1 c2:Nat) (hK :∀l au n',K2 l au→n'+c1=c2+Ast.al l→K' ⟨h,l,au,n'⟩) :∀(m:Nat) (ts:List ah) (xs:List Ast) (n k:Nat),ts.length<m→n+c1=c2+Ast.al xs→Rm (N+1) k ⟨h,xs,ts,n⟩→Gw (aa0 xs) ts K2 E→Bd (sN (N+1) qp) (nQ N) m ⟨h,xs,ts,n⟩ K' E:=by
 intro m;induction m with
 | zero=>intro ts xs n k h;omega
 | succ m ih =>
  intro ts xs n k h1 hc hI H;obtain⟨t,r,rfl⟩:=hI.wf.fin.cons;have G:=Gw.look H;have hn:=hI.n;have hx:=hI.xs;dsimp only at hn hx
  refine⟨t,r,rfl,fun he=>hK _ _ _ (G.pos he).ret hc,fun he=>?_⟩
  have G:=G.neg (by simp[he])
  refine⟨fun hw=>?_,fun hw=>⟨fun hr=>?_,fun hr=>?_⟩⟩
  ·have G2:=((G.neg (aT hw (by decide))).pos hw).tok
   exact ih r xs n (k+2) (by simp at h1;omega) hc (hI.tok (aU hw)) ((Gw.call G2).mono fun v au _ hv=>hv.2.ret)
  ·have G2:=Gw.call (G.pos hr).tok
   have adm:Rm (N+1) k ⟨dr 29 t.2.1,[],t::r,n⟩:=⟨hI.len,hI.n,by simp only[List.length_nil];omega,hI.wf⟩
   refine jN (by dsimp only;omega) ⟨t,r,t.2.1,rfl,.inl ⟨rfl,rfl⟩,?_⟩
   refine(show aI [aC,NX (nQ N),bw [59] []] ⟨dr 29 t.2.1,[],t::r,n⟩ (bT (nR _ _ K' E)) E from ?_)
   refine cM adm (aU hr) fun hI=>?_
   obtain⟨u,us,rfl⟩:=hI.wf.fin.cons;have G3:=Gw.look G2;have done :∀(l:List Ast) (eP:List ah) (j:Nat),Rm N j ⟨dr 29 t.2.1,l,eP,n+Ast.al l⟩→K2 (xs++[nd 29 t.2.1 l]) eP→bT (nR (dQ (mN 29) [aC,NX (nQ N),bw [59] []]) ⟨h,xs,t::u::us,n⟩ K' E) ⟨dr 29 t.2.1,l,eP,n+Ast.al l⟩:=fun l eP j hI hk=>cg hI (nR.mk (hK _ _ _ hk (by show n+Ast.al [nd 29 t.2.1 l]+c1=c2+Ast.al (xs++[nd 29 t.2.1 l]);rw[fk];omega)))
   refine⟨u,us,rfl,fun AE=>?_,fun A0 hns=>?_⟩
   ·cases hu:ij u with
    | true =>
     have G4:=(G3.pos hu).ret.2.ret;have hd:=done [] (u::us) (k+2) (by rw[cj];exact hI) G4
     rw[cj] at hd;exact⟨u,us,rfl,fun hs=>by rw[Og hu] at hs;exact(ef hs).elim,fun _=>hd⟩
    | false =>
     have hs:ax [59] u=true:=AE.elim (fun h=>by rw[hu] at h;exact(ef h).elim) id
     have G4:=((G3.neg (by simp[hu])).pos hs).tok.ret.2.ret
     have Tn:=hI.tok (h':=dr 29 t.2.1) (aU hs);have hd:=done [] us (k+4) (by rw[cj];exact Tn) G4
     rw[cj] at hd;exact⟨u,us,rfl,fun _=>hd,fun h=>by rw[hs] at h;exact(ef h.symm).elim⟩
   ·have G4:=(G3.neg (by simp[A0])).neg (by simp[hns])
    refine tG hI G4 fun l r2 hI _ G5=>?_
    obtain⟨v,vs,rfl⟩:=hI.wf.fin.cons;have G6:=G5.take;exact⟨v,vs,rfl,fun hs=>done l vs _ (hI.tok (aU hs)) (G6.1 hs).ret.2.ret,fun hs=>done l (v::vs) _ hI (G6.2 hs).ret.2.ret⟩
  ·have G2:=(G.neg (by simp[hr])).neg (by simp[hw])
   refine jN (by dsimp only;omega) ⟨hI.len,by dsimp only;omega,hI.wf.zF,(Gw.call G2).mono fun(x:Ast) au p hq=>nR.mk ?_⟩
   have hz:x.size+2*au.length≤2*(t::r).length:=hq.1;have hxp:=size_pos x;exact ih au (xs++[x]) _ k (by simp only[List.length_cons] at *;omega) (by show n+Ast.al [x]+c1=c2+Ast.al (xs++[x]);rw[fk];omega) (Rm.kids (j:=k) hI (by rw[tF];omega) (PL.short p) (p.wf hI.wf)) ((Gw.call hq.2).mono fun v au _ hv=>hv.2.ret)
theorem abi {s:St} (hf:Fin s.ts) (H:MX (N+1) s K' E):aba (sN (N+1) qp) (nQ N) s K' E:=by
 obtain⟨sh,sxs,nj,sn⟩:=s;obtain⟨h1,h2,h3,h4,h5⟩:=H;dsimp only at h1 h2 h3 h4 h5 hf
 exact⟨nj.length+1,Y1 _ (Ast.al sxs) sn (fun l au n' hk hn=>hk n' hn) (nj.length+1) nj sxs sn 0 (du _) rfl ⟨h1,h2,h3,⟨hf,h4⟩⟩ h5⟩
end
structure All (N:Nat):Prop where
 exp:pF 142 (sN N (rI 1))
 bnd :∀op,1≤op→op≤23→rK 178 (wi op) (rtP N op)
 GZ:pF 238 (sN N TL)
 wQ:pF 153 (sN N DB)
 nj:eA 20 (MX N)
theorem all_zero:All 0 :=
 ⟨fun _ _ _ _ _ _ _ _ h=>absurd h.1 (jz _),fun _ _ _ _ _ _ _ _ _ _ _ h=>absurd h.1 (jz _),fun _ _ _ _ _ _ _ _ h=>absurd h.1 (jz _),fun _ _ _ _ _ _ _ _ h=>absurd h.1 (jz _),fun _ _ _ _ _ _ _ _ _ h=>absurd h.1 (jz _)⟩
theorem FQ {op:Int} (h0:1≤op) (h1:op≤23):0≤wi op∧wi op+1=((wi op+1).toNat:Int):=by
 have h9:op=1∨op=2∨op=3∨op=4∨op=5∨op=6∨op=7∨op=8∨op=9∨op=10∨op=11∨op=12∨op=13∨op=14∨op=15∨op=16∨op=17∨op=18∨op=19∨op=20∨op=21∨op=22∨op=23:=by omega
 rcases h9 with h|h|h|h|h|h|h|h|h|h|h|h|h|h|h|h|h|h|h|h|h|h|h<;>(rw[h];decide)
theorem T6 {N:Nat} (A:All N) (hS:pF 153 (sN (N+1) DB)):pF 44 (sN (N+1) qp):=by
 rintro b O ts T K E w hp ⟨h1,h2,h3,h4⟩;obtain⟨t,r,rfl⟩:=hp.fin.cons;have hI :∀h',Rm (N+1) 0 ⟨h',[],t::r,T.length⟩:=fun h'=>⟨h1,h2,by simp only[List.length_nil];omega,⟨hp.fin,h3⟩⟩
 have hE:=M9 A.exp;have hL:=Na A.exp;have hB:eA 90 (pC N):=FH A.nj;have DI:eA 152 (xw N):=Nf qt hB;cases c1:ax [58,58] t with
 | true=>exact I6 b O t r T K E w hp c1 (Ti (hI _) h4 c1)
 | false =>
 cases c2:ax nh t with
 | true=>exact I5 b O t r T K E w hp c2 (Tj (hI _) h4 c2)
 | false =>
 cases c3:ax pX t with
 | true=>exact Oe b O t r T K E w hp c3 (YF (hI _) h4 c3)
 | false =>
 cases c4:ax pY t with
 | true=>exact YZ hB b O t r T K E w hp c4 (ac6 (hI _) h4 c4)
 | false =>
 cases c5:ax pq t with
 | true=>exact I7 hE hB b O t r T K E w hp c5 (Tl (hI _) h4 c5)
 | false =>
 cases c6:ax lO t with
 | true=>exact DR hB hE b O t r T K E w hp c6 (M4 (hI _) h4 c6)
 | false =>
 cases c7:ax Xk t with
 | true=>exact Y0 hE hB b O t r T K E w hp c7 (ac7 (hI _) h4 c7)
 | false =>
 cases c8:ax CK t with
 | true=>exact T3 FN (N9 hE hL) hB b O t r T K E w hp c8 (aa1 (hI _) h4 c8)
 | false =>
 cases c9:ax bc t with
 | true=>exact y8 (DP DI) b O t r T K E w hp c9 (DD (hI _) h4 c9)
 | false =>
 cases c10:ax lP t with
 | true=>exact I8 (DO hL DI) b O t r T K E w hp c10 (To (hI _) h4 c10)
 | false =>
  have hq:M8 t:=⟨c1,c2,c3,c4,c5,c6,c7,c8,c9,c10⟩;have hTg:eA 154 (Wg N):=IB (NW A.wQ);exact I9 (TP hS hTg hL) b O t r T K E w hp hq (Tq (hI _) h4 hq)
theorem all_succ {N:Nat} (A:All N):All (N+1):=by
 have hE:=M9 A.exp;have hL:=Na A.exp;have hB:eA 90 (pC N):=FH A.nj;have DI:eA 152 (xw N):=Nf qt hB;have IA:eA 235 (yY N):=Tw A.GZ;have hTx:pF 204 (abf N):=xF (fun op _ _=>TZ _ (wi op)) (YW _) IA (YV _)
 have hAr:eA 211 (Bh N):=aa6 hTx hL;have hS:pF 153 (sN (N+1) DB):=(DJ hE hAr).of fun ts n K E hf h=>abh hf h
 have hO:pF 204 (sN (N+1) IU):=(xF (fun op h0 h1=>A.bnd op (by omega) h1) DI IA hS).of fun ts n K E hf h=>by
  obtain⟨h1,h2,h3,h4⟩:=h;obtain⟨t,r,rfl⟩:=hf.cons;exact abd (h:=dr 0 0) (k:=0) ⟨h1,h2,by simp only[List.length_nil];omega,⟨hf,h3⟩⟩ h4
 have hBn :∀(l:Int) (s:Nat),0≤l→l+1=(s:Int)→rK 178 l (sN (N+1) (rI s)):=fun l s h0 hs=>(Tz hO l (fun op h1 h2=>A.bnd op h1 (by omega)) h0).of fun ts n K E hf h=>abe hs h0 hf h
 have hX:pF 142 (sN (N+1) (rI 1)):=yW (hBn 0 1 (by decide) (by decide))
 have hSt:=T6 A hS;refine⟨hX,fun op h1 h2=>hBn _ _ (FQ h1 h2).1 (FQ h1 h2).2,?_,hS,(y7 hSt hL).of fun s K E hf h=>abi hf h⟩
 rintro b O ts T K E w hp ⟨h1,h2,h3,h4⟩;obtain⟨t,r,rfl⟩:=hp.fin.cons;exact YK (M9 hX) b O t r T K E w hp (TO (h:=dr 0 0) (k:=0) ⟨h1,h2,by simp only[List.length_nil];omega,⟨hp.fin,h3⟩⟩ h4)
theorem Bi :∀N,All N
 | 0=>all_zero
 | N+1=>all_succ (Bi N)
end Go.Proofs.YteflkdlaoiijbaaGreatDoor
namespace Go.Proofs.YteflkdlaoiijbaaGreatDoor
open Go.RowKit Go.Extern.Stop Go.Stop Go.Extern
theorem Y2 (t:Value) (w:World) :
  Calls Tryz.prog 22 #[.nilIface,t] w fun e w'=>e=.returned (.bool false)∧w'=w:=by
 go_enter Tryz.func22,Tryz.ntmps22
 go_wp2
 go_ret
 exact⟨rfl,rfl⟩
theorem Tryz.Ja (t:Addr) (w:World):(ReflectliteValue.unpack (.iface 104 (.pointer (some t)))).run Tryz.prog w
 =.ok (.agg #[.pointer (some ⟨4,104,none⟩),.pointer (some ⟨w.heap.size,0,none⟩),.int .u64 150]) (w.alloc (.cells #[.pointer (some t)] 104)):=by kernel_rfl
theorem Tryz.type51 (a:Addr) (w:World):(ReflectliteValue.methodAny (ReflectliteValue.valueError "reflectlite.Value.Type" 0) (fun t _ _ _=>ReflectliteType.toType t) #[.agg #[.pointer (some ⟨4,104,none⟩),.pointer (some a),.int .u64 150]]).run Tryz.prog w
 =.ok (.iface 165 (.agg #[.pointer (some ⟨4,104,none⟩)])) w:=by kernel_rfl
theorem Tryz.uY (h:Value) (w:World):(Go.method 423 165 (.agg #[h]) "Kind").run Tryz.prog w=.ok (256,h) w:=by kernel_rfl
theorem Tryz.Y3 (w:World):((ReflectliteType.abiMethod fun t=>(fun a:Nat=>Value.int IntKind.u8 (a:Int)) <$> Rtype.kind t) #[.pointer (some ⟨4,104,none⟩)]).run Tryz.prog w=.ok (.int .u8 22) w:=by kernel_rfl
theorem Tryz.Y7 (w:World):((ReflectliteType.abiMethod fun t=>(fun a:Nat=>Value.int IntKind.u8 (a:Int)) <$> Rtype.kind t) #[.pointer (some ⟨4,83,none⟩)]).run Tryz.prog w=.ok (.int .u8 22) w:=by kernel_rfl
theorem rlm (z:Sem Value) (f:TypeId→Addr→Nat→Nat→Sem Value) (v:Value) :
  ReflectliteValue.method z f #[v]=(do match←ReflectliteValue.parts v with|none=>z|some (t,a,fl)=>f t a fl (fl % 32)):=rfl
theorem Tryz.FT (a:Addr) (w:World):(ReflectliteValue.parts (.agg #[.pointer (some ⟨4,104,none⟩),.pointer (some a),.int .u64 150])).run Tryz.prog w=.ok (some (104,a,150)) w:=by kernel_rfl
theorem Tryz.T7 (a p:Addr) (W:World) (ha:W.cell? a=some (.pointer (some p))) :
  (ReflectliteValue.method (ReflectliteValue.valueError "reflectlite.Value.IsNil" 0) ReflectliteValue.isNil #[.agg #[.pointer (some ⟨4,104,none⟩),.pointer (some a),.int .u64 150]]).run Tryz.prog W=.ok (.bool false) W:=by
 rw[rlm];simp only[Sem.run_bind,Tryz.FT,Result.andThen];simp[ReflectliteValue.isNil,loadVar,isAgg,underlying,Tryz.underlying104,ha,Result.andThen]
theorem Tryz.uZ (h:Value) (w:World):(Go.method 423 165 (.agg #[h]) "Elem").run Tryz.prog w=.ok (268,.agg #[h]) w:=by kernel_rfl
theorem Tryz.lp (h:Value) (w:World):(Go.method 423 165 (.agg #[h]) "Implements").run Tryz.prog w=.ok (269,.agg #[h]) w:=by kernel_rfl
theorem Tryz.jO (h:Value) (w:World):(Go.method 423 165 (.agg #[h]) "AssignableTo").run Tryz.prog w=.ok (266,.agg #[h]) w:=by kernel_rfl
theorem Tryz.Y8 (w:World):(ReflectliteType.method ReflectliteType.elem #[.agg #[.pointer (some ⟨4,104,none⟩)]]).run Tryz.prog w=.ok (.iface 165 (.agg #[.pointer (some ⟨4,83,none⟩)])) w:=by kernel_rfl
theorem Tryz.y9 (w:World):(ReflectliteType.relation "Implements" ReflectliteType.implements_ #[.agg #[.pointer (some ⟨4,83,none⟩)],.iface 165 (.agg #[.pointer (some ⟨4,27,none⟩)])]).run Tryz.prog w=.ok (.bool true) w:=by kernel_rfl
theorem Tryz.Oh (v:Value) (w:World):(ReflectliteType.typeOf #[.iface 83 v]).run Tryz.prog w=.ok (.iface 165 (.agg #[.pointer (some ⟨4,83,none⟩)])) w:=by kernel_rfl
theorem Tryz.za (w:World):(ReflectliteType.relation "AssignableTo" ReflectliteType.assignableTo #[.agg #[.pointer (some ⟨4,83,none⟩)],.iface 165 (.agg #[.pointer (some ⟨4,83,none⟩)])]).run Tryz.prog w=.ok (.bool true) w:=by kernel_rfl
theorem Tryz.Jb (e:Addr) (w:World):(ReflectliteValue.unpack (.iface 83 (.pointer (some e)))).run Tryz.prog w
 =.ok (.agg #[.pointer (some ⟨4,83,none⟩),.pointer (some ⟨w.heap.size,0,none⟩),.int .u64 150]) (w.alloc (.cells #[.pointer (some e)] 83)):=by kernel_rfl
theorem Tryz.Oi (w:World):(Rtype.elem? 104).run Tryz.prog w=.ok (some 83) w:=by kernel_rfl
theorem Tryz.adn (p:Addr) (w:World):(ReflectliteValue.mk 83 p ReflectliteValue.flagAddr).run Tryz.prog w=.ok (.agg #[.pointer (some ⟨4,83,none⟩),.pointer (some p),.int .u64 406]) w:=by kernel_rfl
theorem Tryz.T9 (a p:Addr) (W:World) (ha:W.cell? a=some (.pointer (some p))) :
  (ReflectliteValue.method (ReflectliteValue.valueError "reflectlite.Value.Elem" 0) ReflectliteValue.elem #[.agg #[.pointer (some ⟨4,104,none⟩),.pointer (some a),.int .u64 150]]).run Tryz.prog W
  =.ok (.agg #[.pointer (some ⟨4,83,none⟩),.pointer (some p),.int .u64 406]) W:=by
 rw[rlm];simp only[Sem.run_bind,Tryz.FT,Result.andThen];simp[ReflectliteValue.elem,loadVar,isAgg,underlying,Tryz.underlying104,ha,Result.andThen,Tryz.Oi,Tryz.adn]
theorem rls (v x:Value):ReflectliteValue.set #[v,x]=(do
  let (some (dst,a,fl),some (src,b,_)):=(←ReflectliteValue.parts v,←ReflectliteValue.parts x)
   | unsupported (.noEntry "extern/(internal/reflectlite.Value).Set.zeroValue")
  if fl / ReflectliteValue.flagAddr % 2 == 0 then unsupported (.noEntry "extern/(internal/reflectlite.Value).Set.unaddressable")
  let val←loadVar src b
  if←Rtype.directlyAssignable dst src then storeVar dst a val
  else if←Rtype.implements dst src then
   if (←Rtype.kind src) == 20 then
    match val with
    | .nilIface=>unsupported (.noEntry "extern/reflectlite: a nil value of one interface type handed on as a value of another")
    | _=>storeVar dst a val
   else storeVar dst a (.iface src val)
  else panicString ("reflectlite.Set: value of type " ++ (←Rtype.spelt src) ++ " is not assignable to type " ++ (←Rtype.spelt dst))
  pure (.tuple #[])):=rfl
theorem Tryz.Oj (a:Addr) (w:World):(ReflectliteValue.parts (.agg #[.pointer (some ⟨4,83,none⟩),.pointer (some a),.int .u64 406])).run Tryz.prog w=.ok (some (83,a,406)) w:=by kernel_rfl
theorem Tryz.Ua (a:Addr) (w:World):(ReflectliteValue.parts (.agg #[.pointer (some ⟨4,83,none⟩),.pointer (some a),.int .u64 150])).run Tryz.prog w=.ok (some (83,a,150)) w:=by kernel_rfl
theorem Tryz.Ok (w:World):(Rtype.directlyAssignable 83 83).run Tryz.prog w=.ok true w:=by kernel_rfl
theorem Tryz.abj (ta b e:Addr) (old:Value) (W:World) (hb:W.cell? b=some (.pointer (some e))) (ht:W.cell? ta=some old) (hf:W.frozen? ta=false) :
  (ReflectliteValue.set #[.agg #[.pointer (some ⟨4,83,none⟩),.pointer (some ta),.int .u64 406],.agg #[.pointer (some ⟨4,83,none⟩),.pointer (some b),.int .u64 150]]).run Tryz.prog W
  =.ok (.tuple #[]) (W.setCell ta (.pointer (some e))):=by
 rw[rls];simp only[Sem.run_bind,Tryz.Oj,Tryz.Ua,Result.andThen];simp[ReflectliteValue.flagAddr,loadVar,isAgg,underlying,Tryz.underlying83,hb,Result.andThen,Tryz.Ok,storeVar,Value.cells,storeCells,Addr.add];rw[run_store Tryz.prog W ta _ _ (by rfl)]
 simp[ht,hf]
theorem Y9 (e t:Addr) (old:Value) (w:World) (hg:w.cell? ⟨0,0,none⟩=some (.iface 165 (.agg #[.pointer (some ⟨4,27,none⟩)]))) (TV:w.cell? t=some old) (Ub:w.frozen? t=false) :
  Calls Tryz.prog 22 #[.iface 83 (.pointer (some e)),.iface 104 (.pointer (some t))] w fun ev w'=>ev=.returned (.bool true)∧w'=((((w.alloc (.cells #[.pointer (some t)] 104)).alloc (.cells #[.pointer (some ⟨4,104,none⟩),.pointer (some ⟨w.heap.size,0,none⟩),.int .u64 150] 130)).alloc (.cells #[.pointer (some ⟨4,104,none⟩),.pointer (some ⟨w.heap.size,0,none⟩),.int .u64 150] 130)).alloc (.cells #[.pointer (some e)] 83)).setCell t (.pointer (some e)):=by
 have h6:=@run_callFunc_extern Tryz.prog 46 _ (fun args=>ReflectliteValue.unpack (args.getD 0 (.tuple #[]))) Tryz.func46 (by kernel_rfl) (by kernel_rfl) (by kernel_rfl) (by kernel_rfl)
 have h7:=@run_callFunc_extern Tryz.prog 47 _ (ReflectliteValue.methodAny (ReflectliteValue.valueError "reflectlite.Value.Type" 0) (fun t _ _ _=>ReflectliteType.toType t)) Tryz.func47 (by kernel_rfl) (by kernel_rfl) (by kernel_rfl) (by kernel_rfl)
 have h8:=@run_callFunc_extern Tryz.prog 48 _ (ReflectliteValue.method (ReflectliteValue.valueError "reflectlite.Value.IsNil" 0) ReflectliteValue.isNil) Tryz.func48 (by kernel_rfl) (by kernel_rfl) (by kernel_rfl) (by kernel_rfl)
 have h27:=@run_callFunc_extern Tryz.prog 256 _ (ReflectliteType.abiMethod fun t=>do pure (.int .u8 (←Rtype.kind t))) Tryz.func256 (by kernel_rfl) (by kernel_rfl) (by kernel_rfl) (by kernel_rfl)
 have h37:=@run_callFunc_extern Tryz.prog 268 _ (ReflectliteType.method ReflectliteType.elem) Tryz.func268 (by kernel_rfl) (by kernel_rfl) (by kernel_rfl) (by kernel_rfl)
 have h38:=@run_callFunc_extern Tryz.prog 269 _ (ReflectliteType.relation "Implements" ReflectliteType.implements_) Tryz.func269 (by kernel_rfl) (by kernel_rfl) (by kernel_rfl) (by kernel_rfl)
 have h10:=@run_callFunc_extern Tryz.prog 65 _ ReflectliteType.typeOf Tryz.func65 (by kernel_rfl) (by kernel_rfl) (by kernel_rfl) (by kernel_rfl)
 have h35:=@run_callFunc_extern Tryz.prog 266 _ (ReflectliteType.relation "AssignableTo" ReflectliteType.assignableTo) Tryz.func266 (by kernel_rfl) (by kernel_rfl) (by kernel_rfl) (by kernel_rfl)
 have h11:=@run_callFunc_extern Tryz.prog 98 _ (ReflectliteValue.method (ReflectliteValue.valueError "reflectlite.Value.Elem" 0) ReflectliteValue.elem) Tryz.func98 (by kernel_rfl) (by kernel_rfl) (by kernel_rfl) (by kernel_rfl)
 have h12:=@run_callFunc_extern Tryz.prog 99 _ ReflectliteValue.set Tryz.func99 (by kernel_rfl) (by kernel_rfl) (by kernel_rfl) (by kernel_rfl)
 have tO:=Tryz.Oh;have mA:=Tryz.jO;have a25:=Tryz.za;have v25:=Tryz.Jb;have f6:=Tryz.Ja;have f7:=Tryz.type51;have mK:=Tryz.uY;have mE:=Tryz.uZ;have mI:=Tryz.lp;have k27:=Tryz.Y3;have k25:=Tryz.Y7;have e27:=Tryz.Y8;have i25:=Tryz.y9;have n8:=Tryz.T7 ⟨w.heap.size,0,none⟩ t ((w.alloc (.cells #[.pointer (some t)] 104)).alloc (.cells #[.pointer (some ⟨4,104,none⟩),.pointer (some ⟨w.heap.size,0,none⟩),.int .u64 150] 130)) (by simp)
 have hlt:0<w.heap.size:=by
  rcases sw w.heap.size with h0|h
  ·simp[World.cell?,h0] at hg
  ·exact h
 have hg2:((w.alloc (.cells #[.pointer (some t)] 104)).alloc (.cells #[.pointer (some ⟨4,104,none⟩),.pointer (some ⟨w.heap.size,0,none⟩),.int .u64 150] 130)).cell? ⟨0,0,none⟩=some (.iface 165 (.agg #[.pointer (some ⟨4,27,none⟩)])):=by
  rw[World.cell?_alloc_lt _ _ ⟨0,0,none⟩ (by simp),World.cell?_alloc_lt _ _ ⟨0,0,none⟩ hlt];exact hg
 have Rg:t.block<w.heap.size:=by
  rcases ET t.block w.heap.size with h|h
  ·exact h
  ·simp[World.cell?,Array.getElem?_eq_none h] at TV
 have el:=Tryz.T9 ⟨w.heap.size,0,none⟩ t (((w.alloc (.cells #[.pointer (some t)] 104)).alloc (.cells #[.pointer (some ⟨4,104,none⟩),.pointer (some ⟨w.heap.size,0,none⟩),.int .u64 150] 130)).alloc (.cells #[.pointer (some ⟨4,104,none⟩),.pointer (some ⟨w.heap.size,0,none⟩),.int .u64 150] 130)) (by rw[World.cell?_alloc_lt _ _ ⟨w.heap.size,0,none⟩ (by simp;omega)];simp)
 have st:=Tryz.abj t ⟨w.heap.size+1+1+1,0,none⟩ e old ((((w.alloc (.cells #[.pointer (some t)] 104)).alloc (.cells #[.pointer (some ⟨4,104,none⟩),.pointer (some ⟨w.heap.size,0,none⟩),.int .u64 150] 130)).alloc (.cells #[.pointer (some ⟨4,104,none⟩),.pointer (some ⟨w.heap.size,0,none⟩),.int .u64 150] 130)).alloc (.cells #[.pointer (some e)] 83))
  (by rw[World.cell?_alloc_at _ _ _ _ (by simp)];rfl)
  (by rw[World.cell?_alloc_lt _ _ t (by simp;omega),World.cell?_alloc_lt _ _ t (by simp;omega),World.cell?_alloc_lt _ _ t (by simp;omega),World.cell?_alloc_lt _ _ t Rg];exact TV)
  (by rw[World.frozen?_alloc_old _ _ t (by simp;omega),World.frozen?_alloc_old _ _ t (by simp;omega),World.frozen?_alloc_old _ _ t (by simp;omega),World.frozen?_alloc_old _ _ t (jC Rg)];exact Ub)
 go_enter Tryz.func22,Tryz.ntmps22
 go_wp2
 refine wp_loop_rounds 1 ?_;rw[rounds_succ];go_wp2
 go_ret
 exact⟨rfl,rfl⟩
theorem Tryz.DS (t:Addr) (w:World):(ReflectliteValue.unpack (.iface 77 (.pointer (some t)))).run Tryz.prog w
 =.ok (.agg #[.pointer (some ⟨4,77,none⟩),.pointer (some ⟨w.heap.size,0,none⟩),.int .u64 150]) (w.alloc (.cells #[.pointer (some t)] 77)):=by kernel_rfl
theorem Tryz.Uc (a:Addr) (w:World):(ReflectliteValue.methodAny (ReflectliteValue.valueError "reflectlite.Value.Type" 0) (fun t _ _ _=>ReflectliteType.toType t) #[.agg #[.pointer (some ⟨4,77,none⟩),.pointer (some a),.int .u64 150]]).run Tryz.prog w
 =.ok (.iface 165 (.agg #[.pointer (some ⟨4,77,none⟩)])) w:=by kernel_rfl
theorem Tryz.Ud (w:World):((ReflectliteType.abiMethod fun t=>(fun a:Nat=>Value.int IntKind.u8 (a:Int)) <$> Rtype.kind t) #[.pointer (some ⟨4,77,none⟩)]).run Tryz.prog w=.ok (.int .u8 22) w:=by kernel_rfl
theorem Tryz.Ue (w:World):((ReflectliteType.abiMethod fun t=>(fun a:Nat=>Value.int IntKind.u8 (a:Int)) <$> Rtype.kind t) #[.pointer (some ⟨4,75,none⟩)]).run Tryz.prog w=.ok (.int .u8 22) w:=by kernel_rfl
theorem Tryz.Bj (a:Addr) (w:World):(ReflectliteValue.parts (.agg #[.pointer (some ⟨4,77,none⟩),.pointer (some a),.int .u64 150])).run Tryz.prog w=.ok (some (77,a,150)) w:=by kernel_rfl
theorem Tryz.Ol (a p:Addr) (W:World) (ha:W.cell? a=some (.pointer (some p))) :
  (ReflectliteValue.method (ReflectliteValue.valueError "reflectlite.Value.IsNil" 0) ReflectliteValue.isNil #[.agg #[.pointer (some ⟨4,77,none⟩),.pointer (some a),.int .u64 150]]).run Tryz.prog W=.ok (.bool false) W:=by
 rw[rlm];simp only[Sem.run_bind,Tryz.Bj,Result.andThen];simp[ReflectliteValue.isNil,loadVar,isAgg,underlying,Tryz.underlying77,ha,Result.andThen]
theorem Tryz.Uf (w:World):(ReflectliteType.method ReflectliteType.elem #[.agg #[.pointer (some ⟨4,77,none⟩)]]).run Tryz.prog w=.ok (.iface 165 (.agg #[.pointer (some ⟨4,75,none⟩)])) w:=by kernel_rfl
theorem Tryz.wj (w:World):(ReflectliteType.relation "Implements" ReflectliteType.implements_ #[.agg #[.pointer (some ⟨4,75,none⟩)],.iface 165 (.agg #[.pointer (some ⟨4,27,none⟩)])]).run Tryz.prog w=.ok (.bool true) w:=by kernel_rfl
theorem Tryz.Jc (v:Value) (w:World):(ReflectliteType.typeOf #[.iface 75 v]).run Tryz.prog w=.ok (.iface 165 (.agg #[.pointer (some ⟨4,75,none⟩)])) w:=by kernel_rfl
theorem Tryz.wk (w:World):(ReflectliteType.relation "AssignableTo" ReflectliteType.assignableTo #[.agg #[.pointer (some ⟨4,75,none⟩)],.iface 165 (.agg #[.pointer (some ⟨4,75,none⟩)])]).run Tryz.prog w=.ok (.bool true) w:=by kernel_rfl
theorem Tryz.DT (e:Addr) (w:World):(ReflectliteValue.unpack (.iface 75 (.pointer (some e)))).run Tryz.prog w
 =.ok (.agg #[.pointer (some ⟨4,75,none⟩),.pointer (some ⟨w.heap.size,0,none⟩),.int .u64 150]) (w.alloc (.cells #[.pointer (some e)] 75)):=by kernel_rfl
theorem Tryz.Jd (w:World):(Rtype.elem? 77).run Tryz.prog w=.ok (some 75) w:=by kernel_rfl
theorem Tryz.abk (p:Addr) (w:World):(ReflectliteValue.mk 75 p ReflectliteValue.flagAddr).run Tryz.prog w=.ok (.agg #[.pointer (some ⟨4,75,none⟩),.pointer (some p),.int .u64 406]) w:=by kernel_rfl
theorem Tryz.Om (a p:Addr) (W:World) (ha:W.cell? a=some (.pointer (some p))) :
  (ReflectliteValue.method (ReflectliteValue.valueError "reflectlite.Value.Elem" 0) ReflectliteValue.elem #[.agg #[.pointer (some ⟨4,77,none⟩),.pointer (some a),.int .u64 150]]).run Tryz.prog W
  =.ok (.agg #[.pointer (some ⟨4,75,none⟩),.pointer (some p),.int .u64 406]) W:=by
 rw[rlm];simp only[Sem.run_bind,Tryz.Bj,Result.andThen];simp[ReflectliteValue.elem,loadVar,isAgg,underlying,Tryz.underlying77,ha,Result.andThen,Tryz.Jd,Tryz.abk]
theorem Tryz.Je (a:Addr) (w:World):(ReflectliteValue.parts (.agg #[.pointer (some ⟨4,75,none⟩),.pointer (some a),.int .u64 406])).run Tryz.prog w=.ok (some (75,a,406)) w:=by kernel_rfl
theorem Tryz.Oo (a:Addr) (w:World):(ReflectliteValue.parts (.agg #[.pointer (some ⟨4,75,none⟩),.pointer (some a),.int .u64 150])).run Tryz.prog w=.ok (some (75,a,150)) w:=by kernel_rfl
theorem Tryz.Jf (w:World):(Rtype.directlyAssignable 75 75).run Tryz.prog w=.ok true w:=by kernel_rfl
theorem Tryz.Za (ta b e:Addr) (old:Value) (W:World) (hb:W.cell? b=some (.pointer (some e))) (ht:W.cell? ta=some old) (hf:W.frozen? ta=false) :
  (ReflectliteValue.set #[.agg #[.pointer (some ⟨4,75,none⟩),.pointer (some ta),.int .u64 406],.agg #[.pointer (some ⟨4,75,none⟩),.pointer (some b),.int .u64 150]]).run Tryz.prog W
  =.ok (.tuple #[]) (W.setCell ta (.pointer (some e))):=by
 rw[rls];simp only[Sem.run_bind,Tryz.Je,Tryz.Oo,Result.andThen];simp[ReflectliteValue.flagAddr,loadVar,isAgg,underlying,Tryz.underlying75,hb,Result.andThen,Tryz.Jf,storeVar,Value.cells,storeCells,Addr.add];rw[run_store Tryz.prog W ta _ _ (by rfl)]
 simp[ht,hf]
theorem Ug (e t:Addr) (old:Value) (w:World) (hg:w.cell? ⟨0,0,none⟩=some (.iface 165 (.agg #[.pointer (some ⟨4,27,none⟩)]))) (TV:w.cell? t=some old) (Ub:w.frozen? t=false) :
  Calls Tryz.prog 22 #[.iface 75 (.pointer (some e)),.iface 77 (.pointer (some t))] w fun ev w'=>ev=.returned (.bool true)∧w'=((((w.alloc (.cells #[.pointer (some t)] 77)).alloc (.cells #[.pointer (some ⟨4,77,none⟩),.pointer (some ⟨w.heap.size,0,none⟩),.int .u64 150] 130)).alloc (.cells #[.pointer (some ⟨4,77,none⟩),.pointer (some ⟨w.heap.size,0,none⟩),.int .u64 150] 130)).alloc (.cells #[.pointer (some e)] 75)).setCell t (.pointer (some e)):=by
 have h6:=@run_callFunc_extern Tryz.prog 46 _ (fun args=>ReflectliteValue.unpack (args.getD 0 (.tuple #[]))) Tryz.func46 (by kernel_rfl) (by kernel_rfl) (by kernel_rfl) (by kernel_rfl)
 have h7:=@run_callFunc_extern Tryz.prog 47 _ (ReflectliteValue.methodAny (ReflectliteValue.valueError "reflectlite.Value.Type" 0) (fun t _ _ _=>ReflectliteType.toType t)) Tryz.func47 (by kernel_rfl) (by kernel_rfl) (by kernel_rfl) (by kernel_rfl)
 have h8:=@run_callFunc_extern Tryz.prog 48 _ (ReflectliteValue.method (ReflectliteValue.valueError "reflectlite.Value.IsNil" 0) ReflectliteValue.isNil) Tryz.func48 (by kernel_rfl) (by kernel_rfl) (by kernel_rfl) (by kernel_rfl)
 have h27:=@run_callFunc_extern Tryz.prog 256 _ (ReflectliteType.abiMethod fun t=>do pure (.int .u8 (←Rtype.kind t))) Tryz.func256 (by kernel_rfl) (by kernel_rfl) (by kernel_rfl) (by kernel_rfl)
 have h37:=@run_callFunc_extern Tryz.prog 268 _ (ReflectliteType.method ReflectliteType.elem) Tryz.func268 (by kernel_rfl) (by kernel_rfl) (by kernel_rfl) (by kernel_rfl)
 have h38:=@run_callFunc_extern Tryz.prog 269 _ (ReflectliteType.relation "Implements" ReflectliteType.implements_) Tryz.func269 (by kernel_rfl) (by kernel_rfl) (by kernel_rfl) (by kernel_rfl)
 have h10:=@run_callFunc_extern Tryz.prog 65 _ ReflectliteType.typeOf Tryz.func65 (by kernel_rfl) (by kernel_rfl) (by kernel_rfl) (by kernel_rfl)
 have h35:=@run_callFunc_extern Tryz.prog 266 _ (ReflectliteType.relation "AssignableTo" ReflectliteType.assignableTo) Tryz.func266 (by kernel_rfl) (by kernel_rfl) (by kernel_rfl) (by kernel_rfl)
 have h11:=@run_callFunc_extern Tryz.prog 98 _ (ReflectliteValue.method (ReflectliteValue.valueError "reflectlite.Value.Elem" 0) ReflectliteValue.elem) Tryz.func98 (by kernel_rfl) (by kernel_rfl) (by kernel_rfl) (by kernel_rfl)
 have h12:=@run_callFunc_extern Tryz.prog 99 _ ReflectliteValue.set Tryz.func99 (by kernel_rfl) (by kernel_rfl) (by kernel_rfl) (by kernel_rfl)
 have tO:=Tryz.Jc;have mA:=Tryz.jO;have a25:=Tryz.wk;have v25:=Tryz.DT;have f6:=Tryz.DS;have f7:=Tryz.Uc;have mK:=Tryz.uY;have mE:=Tryz.uZ;have mI:=Tryz.lp;have k27:=Tryz.Ud;have k25:=Tryz.Ue;have e27:=Tryz.Uf;have i25:=Tryz.wj;have n8:=Tryz.Ol ⟨w.heap.size,0,none⟩ t ((w.alloc (.cells #[.pointer (some t)] 77)).alloc (.cells #[.pointer (some ⟨4,77,none⟩),.pointer (some ⟨w.heap.size,0,none⟩),.int .u64 150] 130)) (by simp)
 have hlt:0<w.heap.size:=by
  rcases sw w.heap.size with h0|h
  ·simp[World.cell?,h0] at hg
  ·exact h
 have hg2:((w.alloc (.cells #[.pointer (some t)] 77)).alloc (.cells #[.pointer (some ⟨4,77,none⟩),.pointer (some ⟨w.heap.size,0,none⟩),.int .u64 150] 130)).cell? ⟨0,0,none⟩=some (.iface 165 (.agg #[.pointer (some ⟨4,27,none⟩)])):=by
  rw[World.cell?_alloc_lt _ _ ⟨0,0,none⟩ (by simp),World.cell?_alloc_lt _ _ ⟨0,0,none⟩ hlt];exact hg
 have Rg:t.block<w.heap.size:=by
  rcases ET t.block w.heap.size with h|h
  ·exact h
  ·simp[World.cell?,Array.getElem?_eq_none h] at TV
 have el:=Tryz.Om ⟨w.heap.size,0,none⟩ t (((w.alloc (.cells #[.pointer (some t)] 77)).alloc (.cells #[.pointer (some ⟨4,77,none⟩),.pointer (some ⟨w.heap.size,0,none⟩),.int .u64 150] 130)).alloc (.cells #[.pointer (some ⟨4,77,none⟩),.pointer (some ⟨w.heap.size,0,none⟩),.int .u64 150] 130)) (by rw[World.cell?_alloc_lt _ _ ⟨w.heap.size,0,none⟩ (by simp;omega)];simp)
 have st:=Tryz.Za t ⟨w.heap.size+1+1+1,0,none⟩ e old ((((w.alloc (.cells #[.pointer (some t)] 77)).alloc (.cells #[.pointer (some ⟨4,77,none⟩),.pointer (some ⟨w.heap.size,0,none⟩),.int .u64 150] 130)).alloc (.cells #[.pointer (some ⟨4,77,none⟩),.pointer (some ⟨w.heap.size,0,none⟩),.int .u64 150] 130)).alloc (.cells #[.pointer (some e)] 75))
  (by rw[World.cell?_alloc_at _ _ _ _ (by simp)];rfl)
  (by rw[World.cell?_alloc_lt _ _ t (by simp;omega),World.cell?_alloc_lt _ _ t (by simp;omega),World.cell?_alloc_lt _ _ t (by simp;omega),World.cell?_alloc_lt _ _ t Rg];exact TV)
  (by rw[World.frozen?_alloc_old _ _ t (by simp;omega),World.frozen?_alloc_old _ _ t (by simp;omega),World.frozen?_alloc_old _ _ t (by simp;omega),World.frozen?_alloc_old _ _ t (jC Rg)];exact Ub)
 go_enter Tryz.func22,Tryz.ntmps22
 go_wp2
 refine wp_loop_rounds 1 ?_;rw[rounds_succ];go_wp2
 go_ret
 exact⟨rfl,rfl⟩
end Go.Proofs.YteflkdlaoiijbaaGreatDoor
namespace Go.Proofs.YteflkdlaoiijbaaGreatDoor
theorem oz {r l:List UInt8} (h:r <:+ l):nl r≤nl l:=h.sublist.count_le 10
theorem DU (l sep:List UInt8) (h:(Lib.cut l sep).2.2=true):(Lib.cut l sep).2.1 <:+ l:=by
 unfold Lib.cut at h ⊢;split
 ·exact tW _ _
 ·rename_i h0
  rw[af h0] at h;cases h
theorem u4 {l t r:List UInt8} (h:wU l=some (t,r)):r <:+ l:=by
 unfold wU at h;split at h
 ·rename_i hc
  injection h with h;injection h with _ h;rw[←h];exact(DU _ _ hc).trans (tW _ _)
 ·cases h
theorem Bk {l r:List UInt8} (h:comm l=some r):r <:+ l:=by
 unfold comm at h;split at h
 ·cases e:wU l with
  | none=>rw[e] at h;cases h
  | some z =>
   obtain⟨t,r'⟩:=z;rw[e] at h;simp only[fK,eM] at h;rw[←h];exact u4 e
 ·injection h with h
  rw[←h];exact tW _ _
theorem eO.suffix {l:List UInt8} {q:Except (List UInt8) (List UInt8)} (h:eO l q) :∀{r},q=.ok r→r <:+ l:=by
 induction h with
 | done h1 h2=>intro r e;cases e;rw[←h1];exact zR _
 | @more l r1 r' o h1 h2 h3 ih =>
  intro r e;have a:=ih e;have b:=Bk h2;have c:(45::45::r1) <:+ l:=by rw[←h1];exact zR _
  exact a.trans (b.trans (((tX 45 r1).trans (tX 45 _)).trans c))
 | bad=>intro r e;cases e
theorem sP {b:Int} {p:UInt8→Bool} {least most:Nat} {l m r:List UInt8} (h:code b p least most l=some (m,r)):r <:+ l:=by
 unfold code at h;split at h
 ·injection h with h
  injection h with _ h;rw[←h];exact tW _ _
 ·cases h
theorem u5 {l m r:List UInt8} (h:mS l=some (m,r)):r <:+ l:=by
 cases l with
 | nil=>cases h
 | cons c t =>
  have h:lR c t=some (m,r):=h;have ht:=tX c t;cases e:uj c with
  | some y =>
   rw[fj _ e] at h;injection h with h;injection h with _ h;rw[←h];exact ht
  | none =>
   cases e1:oY c
   ·by_cases e2:c.toNat=122
    ·rw[CU _ e e1 e2] at h
     injection h with h;injection h with _ h;rw[←h];exact(zR _).trans ht
    ·by_cases e3:c.toNat=120
     ·rw[CV _ e e1 e3] at h
      exact(sP h).trans ht
     ·cases e4:gr c
      ·rw[yC _ e e1 e2 e3 e4] at h
       cases h
      ·rw[CW _ e e1 e2 e3 e4] at h
       exact sP h
   ·rw[jr _ e e1] at h
    injection h with h;injection h with _ h;rw[←h];exact ht
theorem qZ.suffix {q:UInt8} {l:List UInt8} {o:Option (List UInt8×List UInt8)} (h:qZ q l o) :∀{t r},o=some (t,r)→r <:+ l:=by
 induction h with
 | shut=>intro t r e;cases e;exact tX _ _
 | none=>intro t r e;cases e
 | line=>intro t r e;cases e
 | @mS r1 m r' o' h1 h2 h3 ih =>
  intro t r e;cases o' with
  | none=>cases e
  | some z =>
   obtain⟨t',r''⟩:=z;simp only[fK,eM,fw] at e;rw[←e.2];exact((ih rfl).trans (u5 h2)).trans (tX _ _)
 | bad=>intro t r e;cases e
 | @byte c r1 o' h1 h2 h3 h4 ih =>
  intro t r e;cases o' with
  | none=>cases e
  | some z =>
   obtain⟨t',r''⟩:=z;simp only[fK,eM,fw] at e;rw[←e.2];exact(ih rfl).trans (tX _ _)
theorem Tok.suffix {l:List UInt8} {k n:Int} {s r:List UInt8} (h:Tok l (some (k,n,s,r))):r <:+ l:=by
 generalize ho:some (k,n,s,r)=o at h;cases h with
 | eof=>simp only[eM,fw] at ho;rw[ho.2.2.2];exact List.suffix_refl _
 | name=>simp only[eM,fw] at ho;rw[ho.2.2.2];exact zR _
 | num=>simp only[eM,fw] at ho;rw[ho.2.2.2];exact zR _
 | rk=>cases ho
 | @text c t o' h1 h2 h3 h4 =>
  cases o' with
  | none=>cases ho
  | some z =>
   obtain⟨a,b⟩:=z;simp only[fK,eM,fw] at ho;rw[ho.2.2.2];exact(h4.suffix rfl).trans (tX _ _)
 | @long c t h1 h2 h3 h4 =>
  cases e:wU (c::t) with
  | none=>rw[e] at ho;cases ho
  | some z =>
   obtain⟨a,b⟩:=z;rw[e] at ho;simp only[fK,eM,fw] at ho;rw[ho.2.2.2];exact u4 e
 | @sign c t h1 h2 h3 h4 =>
  cases e:Go.Proofs.YteflkdlaoiijbaaGreatDoor.sign (c::t) with
  | none=>rw[e] at ho;cases ho
  | some z =>
   obtain⟨a,b⟩:=z;rw[e] at ho;simp only[fK,eM,fw] at ho;rw[ho.2.2.2];unfold Go.Proofs.YteflkdlaoiijbaaGreatDoor.sign at e;split at e
   ·injection e with e;injection e with _ e;rw[←e];exact tW _ _
   ·split at e
    ·injection e with e;injection e with _ e;rw[←e];exact tW _ _
    ·split at e
     ·injection e with e;injection e with _ e;rw[←e];exact tW _ _
     ·cases e
def nT (M:Int):Int→List Tk→Prop
 | _,[]=>True
 | n,t::ts=>n≤t.2.1∧t.2.1≤M∧nT M t.2.1 ts
theorem nT.weak {M n n':Int} {ts:List Tk} (h:nT M n ts) (hn:n'≤n):nT M n' ts:=by
 cases ts with
 | nil=>trivial
 | cons t ts=>exact⟨by have:=h.1;omega,h.2.1,h.2.2⟩
theorem dO.rising {L:Int} {l:List UInt8} {q:Except Int (List Tk)} (h:dO L l q) :∀{ts},q=.ok ts→nT L (L-nl l) ts:=by
 induction h with
 | ei=>intro ts e;cases e
 | fW=>intro ts e;cases e
 | eof h1=>intro ts e;cases e;exact⟨by show L-_≤L;omega,EX _,trivial⟩
 | @step l r r' s k n o' h1 h2 h3 h4 ih =>
  intro ts e;cases o' with
  | error=>cases e
  | ok au =>
   have e':(k,L-nl r,n,s)::au=ts:=by injection e
   rw[←e'];have a:=oz (h1.suffix rfl);have b:=oz h3.suffix;exact⟨by show L-(nl l:Int)≤L-(nl r:Int);omega,by show L-(nl r:Int)≤L;omega,(ih rfl).weak (by show L-(nl r:Int)≤L-(nl r':Int);omega)⟩
theorem nT.mem {M:Int} :∀{n:Int} {ts:List Tk},nT M n ts→∀t∈ts,n≤t.2.1∧t.2.1≤M
 | _,[],_,_,h=>by cases h
 | n,t::ts,h,x,hx=>by
  rcases bb.1 hx with rfl|hx
  ·exact⟨h.1,h.2.1⟩
  ·have:=nT.mem h.2.2 x hx
   have:=h.1;omega
open Go.RowKit
theorem FU (n k:Int) (w:World):Calls Tryz.prog 23 #[.int .i64 n,.int .i64 k] w fun e w'=>e=.returned (.iface 83 (.pointer (some ⟨w.heap.size,0,none⟩)))∧w'=w.alloc (.cells #[.int .i64 n,.iface 79 (.int .i64 k)] 85):=by
 go_enter Tryz.func23,Tryz.ntmps23
 go_wp2
 go_ret
 exact⟨rfl,rfl⟩
def Oq (W:World) (v:Value) (n k:Int):Prop:=∃g,v=.iface 83 (.pointer (some ⟨g,0,none⟩))∧W.heap[g]? = some (.cells #[.int .i64 n,.iface 79 (.int .i64 k)] 85 (0,0))
theorem Zb {K:Ast→List ah→Prop} {E:Int→Prop} {N:Nat} {t:ah} {r:List ah} (hl:(t::r).length<N) (h2:(t::r).length≤20000) (hw:Wf (t::r)) (H:Gw kG (t::r) K E):aI [MX N,MI] ⟨dr 18 t.2.1,[],t::r,0⟩ (bT K) E:=by
 refine⟨hl,by dsimp only;omega,by simp only[List.length_nil];omega,hw.zF,?_⟩
 refine(Gw.call (Gw.look (Gw.call H))).mono fun(l:List Ast) au p hq n' hn'=>?_
 have hz:Ast.al l+2*au.length≤Ast.al []+2*(t::r).length:=hq.1;have pD:=hq.2.ret.2;obtain⟨u,us,rfl⟩:=(PL.wf (n:=.nj []) p hw).fin.cons;have G:=Gw.look pD;dsimp only at hn'
 rw[cj] at hz hn';exact⟨u,us,rfl,fun h0=>⟨by dsimp only;omega,(G.pos h0).ret⟩,fun h0=>(G.neg h0).bad⟩
theorem Zc {w:World} {g c:Nat} {ts:List ah} (h:uA w (.slice (some ⟨g,0,none⟩) ts.length c) ts) (hf:Fin ts) (hl:ts.length≤20000) (hg:g<w.heap.size):PS (w.alloc (.cells #[.slice (some ⟨g,0,none⟩) ts.length c,.int .i64 0,.slice none 0 0] 71)) w.heap.size (· = w.heap.size) ts [] :=
 ⟨⟨ts,0,g,c,.slice none 0 0,[],World.alloc_heap_new w _,h.below (aV w _),hg,rfl,hl,⟨World.ownsRow_nil _ _ _ _,fun k hk=>by simp[Value.ownBlock] at hk,fun t ht=>by simp at ht⟩,rfl⟩,hf,rfl,fun k hk=>by subst hk;simp⟩
theorem Ot {W:World} {B:Nat} {v:Value} {zs:List Int} (h:W.ownsRow B 3 1 v zs.length (zs.map (Value.int .i64))):eX W v zs:=by
 obtain⟨A,c,rfl,hc⟩:=bC h;refine⟨A,c,rfl,hc,?_⟩;rcases sw zs.length with h0|h0
 ·exact .inl (mw h0)
 ·obtain⟨g,c2,e1,h1,h2⟩:=h.form h0
  injection e1 with e1 _ _;subst e1;refine .inr ⟨g,0,rfl,h2,fun j z hj=>?_⟩
  have:=h.cells (g:=g) rfl j (.int .i64 z) (by rw[gE,hj];rfl)
  rwa[tH,←jB j] at this
theorem Ou {W:World} {B:Nat} {v:Value} {zs:List ByteArray} (h:W.ownsRow B 9 1 v zs.length (zs.map Value.string)):sG W v zs:=by
 obtain⟨A,c,rfl,hc⟩:=bC h;refine⟨A,c,rfl,hc,?_⟩;rcases sw zs.length with h0|h0
 ·exact .inl (mw h0)
 ·obtain⟨g,c2,e1,h1,h2⟩:=h.form h0
  injection e1 with e1 _ _;subst e1;refine .inr ⟨g,0,rfl,h2,fun j z hj=>?_⟩
  have:=h.cells (g:=g) rfl j (.string z) (by rw[gE,hj];rfl)
  rwa[tH,←jB j] at this
theorem Bl :∀(L:List Kj) (p j:Nat) (t:Kj),L[p]? = some t→j<7→(L.flatMap aO)[p*7+j]? = (aO t)[j]?
 | [],p,j,t,h,_=>by simp at h
 | u::L,0,j,t,h,hj=>by
  obtain rfl:u=t:=by simpa using h
  rw[jd,Nat.zero_mul,jB,kS (by rw[e7];exact hj)]
 | u::L,p+1,j,t,h,hj=>by
  have:=Bl L p j t (by simpa using h) hj
  rw[jd,zM (by rw[e7];omega),e7,show(p+1)*7+j-7=p*7+j by omega]
  exact this
theorem SC.nodes {W:World} {b:Nat} {O:Nat→Prop} {v:Value} {L:List Kj} (a6:SC W b O v L) {T:List Nd} (a7:L.map (·.1)=T):sH W v T:=by
 have hL:L.length=T.length:=by rw[←a7,dm]
 obtain⟨A,c,e,hc⟩:=bC a6.row;subst e;rw[hL] at hc;refine⟨A,c,by rw[hL],hc,?_⟩
 rcases sw L.length with h0|h0
 ·exact .inl (mw (by omega))
 ·obtain⟨g,c2,e1,h1,h2⟩:=a6.row.form h0
  injection e1 with e1 _ _;subst e1;refine .inr ⟨g,0,rfl,h2,fun j x hj=>?_⟩
  have hLj :∃t,L[j]? = some t∧t.1=x:=by
   rw[←a7,gE] at hj;cases hq:L[j]? with
   | none=>rw[hq] at hj;simp at hj
   | some t=>rw[hq] at hj;exact⟨t,rfl,by simpa using hj⟩
  obtain⟨t,ht,rfl⟩:=hLj;have hcell :∀k,k<7→W.cell? ⟨g,0+j*7+k,none⟩=(aO t)[k]?:=fun k hk=>by
   have hq:=Bl L j k t ht hk;have EZ:k<(aO t).length:=by rw[e7];exact hk
   rw[bH EZ] at hq ⊢;have:=a6.row.cells (g:=g) rfl (j*7+k) _ hq;rw[tH] at this;rw[jB];exact this
  have hn:=a6.each t (ba ht);exact⟨t.2.1,t.2.2,⟨hcell 0 (by omega),hcell 1 (by omega),hcell 2 (by omega),hcell 3 (by omega),hcell 4 (by omega),hcell 5 (by omega),hcell 6 (by omega)⟩,Ou hn.names,Ot hn.kids⟩
theorem PS.nodes {W:World} {b:Nat} {O:Nat→Prop} {ts:List ah} {T:List Nd} (h:PS W b O ts T) :∃A c,W.cell? ⟨b,2,none⟩=some (.slice A T.length c)∧∀(W':World) (O1:Nat→Prop),az O1 W W'→(∀k,O k→¬ O1 k)→sH W' (.slice A T.length c) T:=by
 obtain⟨TS,i,g0,c0,nv,L,a1,a2,a3,a4,a5,a6,a7⟩:=h.ex;have hL:L.length=T.length:=by rw[←a7,dm]
 obtain⟨A,c,e,hc⟩:=bC a6.row;subst e;refine⟨A,c,by rw[←hL];simp[World.cell?,a1],fun W' O1 hf hd=>?_⟩
 have hb :∀k,O k→W'.heap[k]? = W.heap[k]?:=fun k hk=>hf.block k (h.own k hk).2 (hd k hk)
 have a8:SC W' b O (.slice A L.length c) L:=⟨cW a6.row fun k hk=>hb k (a6.own k hk),a6.own,fun t ht=>(a6.each t ht).kept hf hd (fun _ h=>h)⟩
 rw[←hL];exact a8.nodes a7
theorem Ov {r:List UInt8} {q:Option (Int×Int×List UInt8×List UInt8)} (h:Tok r q) :∀{k n:Int} {s r':List UInt8},q=some (k,n,s,r')→r≠[]→1≤k∧(k=2→s≠[61]):=by
 have mp :∀{o:Option (List UInt8×List UInt8)} {m k n:Int} {s r':List UInt8},o.map (fun x=>(m,(0:Int),x.1,x.2))=some (k,n,s,r')→k=m:=fun{o m k n s r'} e=>by
  cases o with
  | none=>simp at e
  | some x=>simp at e;exact e.1.symm
 cases h with
 | eof=>intro k n s r' _ hr;exact absurd rfl hr
 | @name c r hc =>
  intro k n s r' e _;injection e with e;injection e with e1 e;injection e with _ e;injection e with e3 _;refine⟨by rw[←e1];split<;>decide,fun _ h=>?_⟩
  rw[h] at e3;have hn:iM c=true:=by unfold iM;rw[hc];rfl
  rw[KO,ak hn] at e3;injection e3 with e4 _;rw[e4] at hc;exact absurd hc (by decide)
 | num h1 h2 h3 =>
  intro k n s r' e _;injection e with e;injection e with e1 e;rw[←e1];exact⟨by decide,fun h=>absurd h (by decide)⟩
 | rk h1 h2 h3=>intro k n s r' e _;cases e
 | text h1 h2 h3 h4=>intro k n s r' e _;rw[mp e];exact⟨by decide,fun h=>absurd h (by decide)⟩
 | long h1 h2 h3 h4=>intro k n s r' e _;rw[mp e];exact⟨by decide,fun h=>absurd h (by decide)⟩
 | sign h1 h2 h3 h4=>intro k n s r' e _;rw[mp e];exact⟨by decide,fun h=>absurd h (by decide)⟩
theorem lex_wf {L:Int} {l:List UInt8} {o:Except Int (List Tk)} (h:dO L l o):(nl l:Int)<L→∀ts,o=.ok ts→Wf ts:=by
 induction h with
 | ei=>intro _ ts e;cases e
 | fW=>intro _ ts e;cases e
 | eof _ =>
  intro hL ts e;injection e with e;subst e;exact⟨⟨[],_,rfl,rfl,by simp⟩,fun t ht=>by
   obtain rfl:=bI.1 ht;exact⟨by dsimp only;omega,fun h=>by simp at h⟩⟩
 | @step l r r' s k n o h1 h2 h3 h4 ih =>
  intro hL ts e;cases o with
  | error x=>cases e
  | ok SO =>
   injection e with e;subst e;have hr:=oz (h1.suffix rfl);have SG:=oz h3.suffix;have hw:=ih (by omega) SO rfl
   have hk:=Ov h3 rfl h2;obtain⟨us,e,e1,e2,e3⟩:=hw.fin;refine⟨⟨(k,L-nl r,n,s)::us,e,by rw[e1];rfl,e2,fun u hu=>?_⟩,fun t ht=>?_⟩
   ·rcases bb.1 hu with rfl|hu
    ·dsimp only;omega
    ·exact e3 u hu
   ·rcases bb.1 ht with rfl|ht
    ·exact⟨by dsimp only;omega,hk.2⟩
    ·exact hw.zF t ht
theorem DV {b:Int} {p:UInt8→Bool} {least most:Nat} {l m r:List UInt8} (h:code b p least most l=some (m,r)):m.length≤1:=by
 unfold code at h;split at h
 ·injection h with h
  injection h with h _;rw[←h];exact ai _
 ·cases h
theorem Jg {l m r:List UInt8} (h:mS l=some (m,r)):m.length≤1:=by
 cases l with
 | nil=>cases h
 | cons c t =>
  have h:lR c t=some (m,r):=h;unfold lR at h;repeat' split at h
  all_goals first
   | exact DV h
   | (injection h with h;injection h with h _;rw[←h];simp;done)
   | cases h
theorem qZ.small {q:UInt8} {l:List UInt8} {o:Option (List UInt8×List UInt8)} (h:qZ q l o) :∀{t r},o=some (t,r)→t.length≤l.length:=by
 induction h with
 | shut=>intro t r e;cases e;simp
 | none=>intro t r e;cases e
 | line=>intro t r e;cases e
 | @mS r1 m r' o' h1 h2 h3 ih =>
  intro t r e;cases o' with
  | none=>cases e
  | some z =>
   obtain⟨t',r''⟩:=z;simp only[fK,eM,fw] at e;have h5:=ih rfl;have h6:=(u5 h2).length_le;have h7:=Jg h2;rw[←e.1,bM,List.length_cons];omega
 | bad=>intro t r e;cases e
 | @byte c r1 o' h1 h2 h3 h4 ih =>
  intro t r e;cases o' with
  | none=>cases e
  | some z =>
   obtain⟨t',r''⟩:=z;simp only[fK,eM,fw] at e;have h5:=ih rfl;rw[←e.1,List.length_cons,List.length_cons];omega
theorem Jh (l sep:List UInt8):(Lib.cut l sep).1.length≤l.length:=by
 unfold Lib.cut;split
 ·simp only[my];omega
 ·exact ai _
theorem DW (l p:List UInt8):(Lib.trimPrefix l p).length≤l.length:=by
 unfold Lib.trimPrefix;split
 ·simp
 ·exact ai _
theorem Ji {l t r:List UInt8} (h:wU l=some (t,r)):t.length≤l.length:=by
 unfold wU at h;split at h
 ·injection h with h
  injection h with h _;rw[←h];exact aK (DW _ _) (aK (Jh _ _) (by simp))
 ·cases h
theorem DX {l t r:List UInt8} (h:sign l=some (t,r)):t.length≤l.length:=by
 unfold sign at h;repeat' split at h
 all_goals first
  | (injection h with h;injection h with h _;rw[←h];simp only[my];omega)
  | cases h
theorem Bm (p:UInt8→Bool) (l:List UInt8):(l.takeWhile p).length≤l.length:=(List.takeWhile_prefix p).length_le
structure ado (l:List UInt8) (k n:Int) (s:List UInt8):Prop where
 len:s.length≤l.length
 n0:-9223372036854775808≤n
 n1:n≤9223372036854775807
 name:k=1→l.length≤65536→eC (bu s)=true
theorem Ow {c:UInt8} {r:List UInt8} (hc:uh c=true) (hw:np ((c::r).takeWhile iM)=false) (hl:((c::r).takeWhile iM).length≤65536):eC (bu ((c::r).takeWhile iM))=true:=by
 have hn:iM c=true:=by unfold iM;rw[hc];rfl
 have h1:(c::r).takeWhile iM=c::r.takeWhile iM:=by rw[KO,ak hn]
 have hd:uH c=false:=by
  cases h:uH c with
  | false=>rfl
  | true =>
   exfalso;unfold uH at h;unfold uh at hc;simp only[Bool.or_eq_true,je] at h hc;omega
 have ha0:((c::r).takeWhile iM).all iM=true:=List.all_takeWhile;have ha:((c::r).takeWhile iM).all ry=true:=ha0;unfold eC;have e1:(bu ((c::r).takeWhile iM)).size=((c::r).takeWhile iM).length:=rfl;have e2:(bu ((c::r).takeWhile iM)).data.toList=(c::r).takeWhile iM:=by simp[bu]
 rw[e1,e2,ha,show ru ((c::r).takeWhile iM)=false from hw]
 have e3:Dj ((c::r).takeWhile iM)=false:=by rw[h1];exact hd
 rw[e3];have h0:((c::r).takeWhile iM).length≠0:=by rw[h1];simp
 simp[h0,hl]
theorem Tok.small {l:List UInt8} {q:Option (Int×Int×List UInt8×List UInt8)} (h:Tok l q) :∀{k n:Int} {s r:List UInt8},q=some (k,n,s,r)→ado l k n s:=by
 have mp :∀{o:Option (List UInt8×List UInt8)} {m k n:Int} {s r':List UInt8},o.map (fun x=>(m,(0:Int),x.1,x.2))=some (k,n,s,r')→k=m∧n=0∧o=some (s,r'):=fun{o m k n s r'} e=>by
  cases o with
  | none=>simp at e
  | some x =>
   obtain⟨x1,x2⟩:=x;simp at e;exact⟨e.1.symm,e.2.1.symm,by rw[e.2.2.1,e.2.2.2]⟩
 cases h with
 | eof=>intro k n s r e;cases e;exact⟨ai _,by decide,by decide,fun h=>absurd h (by decide)⟩
 | @name c r hc =>
  intro k n s r' e;injection e with e;injection e with e1 e;injection e with e2 e;injection e with e3 _;subst e2 e3;refine⟨Bm _ _,by decide,by decide,fun hk hl=>Ow hc ?_ (aK (Bm _ _) hl)⟩
  cases hw:np ((c::r).takeWhile iM) with
  | false=>rfl
  | true=>rw[hw] at e1;rw[hk] at e1;exact absurd e1 (by decide)
 | num h1 h2 h3 =>
  intro k n s r e;injection e with e;injection e with e1 e;injection e with e2 e;injection e with e3 _;subst e1 e2 e3;refine⟨bx _,by unfold wS;omega,by unfold wS;omega,fun h=>absurd h (by decide)⟩
 | rk h1 h2 h3=>intro k n s r e;cases e
 | text h1 h2 h3 h4 =>
  intro k n s r e;obtain⟨rfl,rfl,e3⟩:=mp e;subst e3;exact⟨aK (h4.small rfl) (by simp),by decide,by decide,fun h=>absurd h (by decide)⟩
 | long h1 h2 h3 h4 =>
  intro k n s r e;obtain⟨rfl,rfl,e3⟩:=mp e;exact⟨Ji e3,by decide,by decide,fun h=>absurd h (by decide)⟩
 | sign h1 h2 h3 h4 =>
  intro k n s r e;obtain⟨rfl,rfl,e3⟩:=mp e;exact⟨DX e3,by decide,by decide,fun h=>absurd h (by decide)⟩
theorem Jj {L:Int} {l:List UInt8} {o:Except Int (List Tk)} (h:dO L l o):l.length≤8000→∀ts,o=.ok ts→∀t∈ts,SU t∧(t.1=1→eC (bu t.2.2.2)=true):=by
 induction h with
 | ei=>intro _ ts e;cases e
 | fW=>intro _ ts e;cases e
 | eof _ =>
  intro hL ts e t ht;injection e with e;subst e;obtain rfl:=bI.1 ht;exact⟨⟨by simp,by simp,by simp⟩,fun h=>by simp at h⟩
 | @step l r r' s k n o h1 h2 h3 h4 ih =>
  intro hL ts e t ht;cases o with
  | error x=>cases e
  | ok SO =>
   injection e with e;subst e;have hr:=(h1.suffix rfl).length_le;have SG:=h3.suffix.length_le;have hk:=h3.small rfl;have hlen:=hk.len;rcases bb.1 ht with rfl|ht
   ·exact⟨⟨hk.n0,hk.n1,by dsimp only;omega⟩,fun h=>hk.name h (by omega)⟩
   ·exact ih (by omega) SO rfl t ht
end Go.Proofs.YteflkdlaoiijbaaGreatDoor
namespace Go.Proofs.YteflkdlaoiijbaaGreatDoor
open Go.RowKit Go.Extern.Stop Go.Stop Go.Extern
theorem Tryz.Bn (v:Value) (w:World):(Extern.ReflectliteType.typeOf #[.iface 79 v]).run Tryz.prog w=.ok (.iface 165 (.agg #[.pointer (some ⟨4,79,none⟩)])) w:=by kernel_rfl
theorem Tryz.jP (v:Value) (w:World):(Go.method 423 165 v "Comparable").run Tryz.prog w=.ok (267,v) w:=by kernel_rfl
theorem Tryz.Wy (v:Value) (xT:TypeId) (w:World):(Instr.typeAssert (.iface 83 v) xT 207 true).run Tryz.prog w=.ok (.tuple #[.nilIface,.bool false]) w:=run_typeAssert_lacksB Tryz.underlying207 (by kernel_rfl) (by kernel_rfl) v xT w
theorem Tryz.u7 (v:Value) (xT:TypeId) (w:World):(Instr.typeAssert (.iface 83 v) xT 172 true).run Tryz.prog w=.ok (.tuple #[.iface 83 v,.bool true]) w:=run_typeAssert_hasB Tryz.underlying172 (by kernel_rfl) v xT w
theorem Tryz.abl (v:Value) (xT:TypeId) (w:World):(Instr.typeAssert (.iface 79 v) xT 207 true).run Tryz.prog w=.ok (.tuple #[.nilIface,.bool false]) w:=run_typeAssert_lacksB Tryz.underlying207 (by kernel_rfl) (by kernel_rfl) v xT w
theorem Tryz.Jk (v:Value) (xT:TypeId) (w:World):(Instr.typeAssert (.iface 79 v) xT 172 true).run Tryz.prog w=.ok (.tuple #[.nilIface,.bool false]) w:=run_typeAssert_lacksB Tryz.underlying172 (by kernel_rfl) (by kernel_rfl) v xT w
theorem Tryz.DY (v:Value) (xT:TypeId) (w:World):(Instr.typeAssert (.iface 79 v) xT 173 true).run Tryz.prog w=.ok (.tuple #[.nilIface,.bool false]) w:=run_typeAssert_lacksB Tryz.underlying173 (by kernel_rfl) (by kernel_rfl) v xT w
theorem Tryz.qv (v:Value) (w:World):(Go.method 423 83 v "Unwrap").run Tryz.prog w=.ok (261,v) w:=by kernel_rfl
theorem Tryz.qw (w:World):((Extern.ReflectliteType.method fun t=>do Rtype.noPackHeld "Comparable" t;(fun a=>Value.bool a.comparable) <$> typeInfo t) #[.agg #[.pointer (some ⟨4,79,none⟩)]]).run Tryz.prog w=.ok (.bool true) w:=by kernel_rfl
end Go.Proofs.YteflkdlaoiijbaaGreatDoor
namespace Go.Proofs.YteflkdlaoiijbaaGreatDoor
open Go.RowKit
structure nU (w:World):Prop where
 mx:Mx w
 et:w.cell? ⟨0,0,none⟩=some (.iface 165 (.agg #[.pointer (some ⟨4,27,none⟩)]))
 big:4≤w.heap.size
theorem nU.below {w w':World} (h:nU w) (hb:Below w.heap.size w w'):nU w' :=
 ⟨h.mx.below hb,(hb.cell (p:=⟨0,0,none⟩) (by have:=h.big;show 0<_;omega)).trans h.et,aK h.big hb.size⟩
theorem Uh (g:Nat) (w:World) (h:nU w):Calls Tryz.prog 22 #[.iface 83 (.pointer (some ⟨g,0,none⟩)),.iface 104 (.pointer (some ⟨w.heap.size,0,none⟩))] (w.alloc (.cells #[.pointer none] 83)) fun e w' =>
  e=.returned (.bool true)∧w'.cell? ⟨w.heap.size,0,none⟩=some (.pointer (some ⟨g,0,none⟩))∧Below w.heap.size w w':=by
 have hB:=(Below.refl w.heap.size w).alloc (ai _) (.cells #[.pointer none] 83);have hE:=h.below hB;have hx:=Boxed.new w 83 (.pointer none);refine(Y9 ⟨g,0,none⟩ ⟨w.heap.size,0,none⟩ (.pointer none) (w.alloc (.cells #[.pointer none] 83)) hE.et hx.cell hx.frozen).mono ?_;rintro e w' ⟨rfl,rfl⟩;exact⟨rfl,(((((hx.alloc _).alloc _).alloc _).alloc _).set _).cell,(((((hB.alloc (by simp) _).alloc (by simp;omega) _).alloc (by simp;omega) _).alloc (by simp;omega) _)).setCell (ai _) _⟩
end Go.Proofs.YteflkdlaoiijbaaGreatDoor
