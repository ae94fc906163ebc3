/- Parts of the proof. -/
import Derived.Laws.AppendOwnNone
import Derived.ArgAppend
import Derived.Test.YtodmcdfeldkocaaGreatDoorM10
set_option maxHeartbeats 16000000
set_option maxRecDepth 20000
namespace Go.Proofs.YtodmcdfeldkocaaGreatDoor
open Go.RowKit
def eI (W:World) (O:Nat→Prop) (g:Nat) (a:Array Value) (ty:TypeId):Prop:=W.heap[g]? = some (.cells a ty (0,0))∧¬ O g
theorem eI.later {W W':World} {O O':Nat→Prop} {g:Nat} {a:Array Value} {ty:TypeId} (h:eI W O g a ty) (hf:ax O W W') (he:Ext O O' W):eI W' O' g a ty:=by
 have hlt:g<W.heap.size:=(aO.1 h.1).1;refine⟨(hf.block g hlt h.2).trans h.1,fun h5=>?_⟩
 rcases he g h5 with h6|h6
 ·exact h.2 h6
 ·omega
theorem eI.cell {W:World} {O:Nat→Prop} {g:Nat} {a:Array Value} {ty:TypeId} (h:eI W O g a ty) (j:Nat):W.cell? ⟨g,j,none⟩=a[j]?:=by simp[World.cell?,h.1]
theorem eI.new (w:World) (O:Nat→Prop) (hO :∀k,O k→k<w.heap.size) (a:Array Value) (ty:TypeId):eI (w.alloc (.cells a ty)) O w.heap.size a ty :=
 ⟨World.alloc_heap_new w _,fun h=>by have:=hO _ h;omega⟩
theorem lC {W:World} {b n:Nat} {O:Nat→Prop} {T0:List Nd} {s:St} (h:Real W b n O T0 s) {t:ak} {ts:List ak} (hs:s.ts=t::ts) (x:List UInt8) (X:ByteArray) (hX:X=bx x) (hx:x≠[]) (hw:av x t=true) :
  Calls Tryz.prog 52 #[.pointer (some ⟨b,0,none⟩),.string X] W fun e w'=>e=.returned (.bool true)∧Real w' b n O T0 { s with ts:=ts}∧ax O W w':=by
 obtain⟨Op,On,T,ks,hO,hd,hp,hn,hl,hc⟩:=h.ex;rw[hs] at hp;refine(mh b Op t ts T x X hX W hp hx hw).mono ?_;rintro e w ⟨rfl,hp',hf⟩;exact⟨rfl,⟨Op,On,T,ks,hO,hd,hp',hn.kept hf fun k hk e=>hd b hp.at_ (e▸hk),hl,hc⟩,hf.mono fun k hk=>(hO k).2 (.inl (hk▸hp.at_))⟩
theorem ot {W:World} {b n:Nat} {O:Nat→Prop} {T0:List Nd} {s:St} (h:Real W b n O T0 s) {t:ak} {ts:List ak} (hs:s.ts=t::ts) (x:List UInt8) (X:ByteArray) (hX:X=bx x) (hx:x≠[]) (hw:av x t=false) :
  Calls Tryz.prog 52 #[.pointer (some ⟨b,0,none⟩),.string X] W fun e w'=>e=.returned (.bool false)∧Real w' b n O T0 s∧ax O W w':=by
 obtain⟨Op,On,T,ks,hO,hd,hp,hn,hl,hc⟩:=h.ex;have hp0:=hp;rw[hs] at hp;refine(oq b Op t ts T x X hX W hp hx hw).mono ?_;rintro e w ⟨rfl,hp',hf⟩;rw[←hs] at hp';exact⟨rfl,⟨Op,On,T,ks,hO,hd,hp',hn.kept hf fun k hk e=>hd b hp.at_ (e▸hk),hl,hc⟩,hf.mono fun k hk=>(hO k).2 (.inl (hk▸hp.at_))⟩
theorem Eb {W:World} {b n:Nat} {O:Nat→Prop} {T0:List Nd} {s:St} (h:Real W b n O T0 s) {t:ak} {ts:List ak} (hs:s.ts=t::ts) :
  Calls Tryz.prog 60 #[.pointer (some ⟨b,0,none⟩)] W (Gz W t.2.1):=by
 obtain⟨Op,On,T,ks,hO,hd,hp,hn,hl,hc⟩:=h.ex;rw[hs] at hp;exact qN b Op t ts T W hp
def au:List (List UInt8)→bW
 | [],s,K,_=>K s
 | x::r,s,K,E=>∃t ts,s.ts=t::ts∧(av x t=true→au r { s with ts:=ts} K E)∧(av x t=false→E t.2.1)
theorem Pj (b n g g1 g2:Nat) (O:Nat→Prop) (T0:List Nd) (s:St) (K:St→Prop) (E:Int→Prop) (ws:List (List UInt8)) (w:World) (hr:Real w b n O T0 s) (hw :∀x∈ws,x≠[]) (hl:ws.length≤100)
  (b0:eI w O g (ws.map fun x=>Value.string (bx x)).toArray 9) (b1:eI w O g1 #[.slice (some ⟨g,0,none⟩) ws.length ws.length] 52) (b2:eI w O g2 #[.pointer (some ⟨b,0,none⟩)] 117) (hk:au ws s K E) :
  Calls Tryz.prog 136 #[.pointer (some ⟨n,0,none⟩),.pointer (some ⟨g1,0,none⟩),.pointer (some ⟨g2,0,none⟩)] w (bB b n O T0 K E w):=by
 have B0:=aa b0;have c1:=b1.cell 0;have B2:=aa b2;have HR:=aa hr;have HK:=aa hk;have HW:=aa hw;clear b0 b1 b2 hr hk hw;go_enter Tryz.func136,Tryz.ntmps136
 go_wp2_with fail
 clear c1;go_loopg [9] ws.length (fun z jv wr=>∃(j:Nat) (s1:St),jv=.int .i64 (j:Int)∧j≤ws.length∧ws.length-j≤z∧Real wr b n O T0 s1∧ax O w wr∧au (ws.drop j) s1 K E)
 case atStart=>exact⟨0,s,rfl,bo _,ah _,HR.out,ax.refl _ _,HK.out⟩
 case round =>
  obtain⟨j,s1,rfl,hj,hz,hr1,kQ,iR⟩:=hrel;have nm:=aa hr1;have fB:=aa kQ;have c2:=(B2.out.later kQ (Ext.refl _ _)).cell 0;have c0:=(B0.out.later kQ (Ext.refl _ _)).cell j;by_cases hlt:j<ws.length
  ·have hd:ws.drop j=ws[j]::ws.drop (j+1):=pR hlt
   rw[hd] at iR;obtain⟨t,ts,hs,hy,hn⟩:=iR;obtain⟨X,hX⟩ :∃X,X=bx ws[j]:=⟨_,rfl⟩;have c0':wr.cell? ⟨g,j,none⟩=some (.string X):=by rw[c0,hX];simp[hlt]
   have hne:ws[j]≠[]:=HW.out _ (Lm hlt);clear c0 hr1 kQ hd;cases hq:av ws[j] t with
   | true =>
    have HC:=aa (lC nm.out hs ws[j] X hX hne hq);have RH:=aa (hy hq);clear hy hn hX hne hs hq;go_wp2_with fail
    refine HC.out.mono ?_;rintro e w2 ⟨rfl,r2,f2⟩;have R2:=aa r2;have F2:=aa (fB.out.trans f2 (Ext.refl _ _));clear r2 f2 c2 c0';go_wp2_with fail
    go_roundg (ws.length-(j+1))
    case measure=>omega
    case rel=>exact⟨j+1,_,by go_num,by omega,ah _,R2.out,F2.out,RH.out⟩
   | false =>
    have HC:=aa (ot nm.out hs ws[j] X hX hne hq);have HE:=aa (hn hq);have HS:=aa hs;clear hy hn hX hne hs hq;go_wp2_with fail
    refine HC.out.mono ?_;rintro e w2 ⟨rfl,r2,f2⟩;have R2:=aa r2;have F2:=aa (fB.out.trans f2 (Ext.refl _ _));clear c2 c0';have c2':=(B2.out.later F2.out (Ext.refl _ _)).cell 0;have HX:=aa (Eb r2 HS.out);clear r2 f2;go_wp2_with fail
    refine HX.out.mono ?_;rintro e w3 ⟨v,rfl,m,b3⟩;have M:=aa m;have F3:=aa (F2.out.trans (ax.af (O:=O) b3) (Ext.refl _ _));clear m b3 c2';go_wp2_with fail
    go_ret
    obtain⟨g',e1,e2,e3⟩:=M.out;exact⟨F3.out,.inr ⟨_,_,rfl,⟨g',e1,aL F2.out.size e2,e3⟩,HE.out⟩⟩
  ·obtain rfl:j=ws.length:=by omega
   have RH:=aa iR;clear hr1 kQ iR c0 c2;go_wp2_with fail
   go_ret
   have hk:=RH.out;rw[mr (ah _)] at hk;exact⟨fB.out,.inl ⟨s1,O,rfl,nm.out,Ext.refl _ _,hk⟩⟩
theorem Ec {W:World} {b g g1 g2:Nat} {O:Nat→Prop} {ws:List (List UInt8)} (hw :∀x∈ws,x≠[]) (hl:ws.length≤100)
  (b0:eI W O g (ws.map fun x=>Value.string (bx x)).toArray 9) (b1:eI W O g1 #[.slice (some ⟨g,0,none⟩) ws.length ws.length] 52) (b2:eI W O g2 #[.pointer (some ⟨b,0,none⟩)] 117) :
  eH W b O (.func (.func 136) #[] #[.pointer (some ⟨g1,0,none⟩),.pointer (some ⟨g2,0,none⟩)]) (au ws):=by
 intro W1 O1 T0 s n K E hf he hr hk;exact⟨136,_,_,rfl,enters_of Tryz.func136 (by kernel_rfl) rfl,Pj b n g g1 g2 O1 T0 s K E ws W1 hr hw hl (b0.later hf he) (b1.later hf he) (b2.later hf he) hk⟩
def adL (v:Value):Prop:=∃f first cap,v=.func (.func f) first cap
def iq (b:Nat) (O:Nat→Prop) (wp:bW) (w:World) (e:Ending) (w':World):Prop:=∃v,e=.returned v∧Below w.heap.size w w'∧eH w' b O v wp∧adL v
theorem GA (b g:Nat) (O:Nat→Prop) (ws:List (List UInt8)) (w:World) (hw :∀x∈ws,x≠[]) (hl:ws.length≤100) (b0:eI w O g (ws.map fun x=>Value.string (bx x)).toArray 9) (hO :∀k,O k→k<w.heap.size) (m:Nat) (hm:m=ws.length) :
  Calls Tryz.prog 103 #[.pointer (some ⟨b,0,none⟩),.slice (some ⟨g,0,none⟩) m m] w (iq b O (au ws) w):=by
 have B0:=aa b0;have HO:=aa hO;have HW:=aa hw;have HM:=aa hm;clear b0 hO hw hm;go_enter Tryz.func103,Tryz.ntmps103
 go_wp2
 go_ret
 have hm:=HM.out;subst hm;have h2:=eI.new w O HO.out #[.pointer (some ⟨b,0,none⟩)] 117;have h1:=eI.new (w.alloc (.cells #[.pointer (some ⟨b,0,none⟩)] 117)) O (fun k hk=>by have:=HO.out k hk;simp;omega) #[.slice (some ⟨g,0,none⟩) ws.length ws.length] 52
 have f1:ax O w (w.alloc (.cells #[.pointer (some ⟨b,0,none⟩)] 117)):=(ax.refl _ _).alloc _;have f2:ax O (w.alloc (.cells #[.pointer (some ⟨b,0,none⟩)] 117)) ((w.alloc (.cells #[.pointer (some ⟨b,0,none⟩)] 117)).alloc (.cells #[.slice (some ⟨g,0,none⟩) ws.length ws.length] 52)):=(ax.refl _ _).alloc _;rw[aq] at h1;exact⟨_,rfl,((Below.refl _ _).alloc (ah _) _).alloc (by simp) _,Ec HW.out hl ((B0.out.later f1 (Ext.refl _ _)).later f2 (Ext.refl _ _)) h1 (h2.later f2 (Ext.refl _ _)),_,_,_,rfl⟩
theorem aM.form {W:World} {b:Nat} {O:Nat→Prop} {v:Value} {cO:List bW} (h:aM W b O v cO) :∃A m,v=.slice A m m:=by
 obtain⟨vs,⟨rfl,_⟩ | ⟨g,rfl,_⟩,_⟩:=h.ex
 ·exact⟨none,0,rfl⟩
 ·exact⟨_,_,rfl⟩
def bw (x:List UInt8) (cO:List bW):bW:=fun s K E=>∃t ts,s.ts=t::ts∧(av x t=true→aJ cO { s with ts:=ts} K E)∧(av x t=false→K s)
theorem bB.after {b n:Nat} {O:Nat→Prop} {T0:List Nd} {K:St→Prop} {E:Int→Prop} {w w1:World} {e:Ending} {w':World} (h:bB b n O T0 K E w1 e w') (hf:ax O w w1):bB b n O T0 K E w e w':=by
 obtain⟨h1,h2⟩:=h;refine⟨hf.trans h1 (Ext.refl _ _),?_⟩;rcases h2 with ⟨s',O',e1,r,x,k⟩ | ⟨l,v,e1,⟨g,m1,m2,m3⟩,k⟩
 ·exact .inl ⟨s',O',e1,r,(Ext.refl O w).trans x hf.size,k⟩
 ·exact .inr ⟨l,v,e1,⟨g,m1,aL hf.size m2,m3⟩,k⟩
theorem bB.ret {b n:Nat} {O:Nat→Prop} {T0:List Nd} {K:St→Prop} {E:Int→Prop} {w:World} {e:Ending} {w':World} (h:bB b n O T0 K E w e w') :∃v,e=.returned v:=by
 rcases h.2 with ⟨_,_,e1,_⟩ | ⟨_,v,e1,_⟩
 ·exact⟨_,e1⟩
 ·exact⟨v,e1⟩
theorem Ed (b n g1 g2 g3:Nat) (O:Nat→Prop) (T0:List Nd) (s:St) (K:St→Prop) (E:Int→Prop) (x:List UInt8) (pv:Value) (cO:List bW) (w:World) (hr:Real w b n O T0 s) (hx:x≠[])
  (b1:eI w O g1 #[.pointer (some ⟨b,0,none⟩)] 117) (b2:eI w O g2 #[.string (bx x)] 9) (b3:eI w O g3 #[pv] 118) (hp:aM w b O pv cO) (hk:bw x cO s K E) :
  Calls Tryz.prog 99 #[.pointer (some ⟨n,0,none⟩),.pointer (some ⟨g1,0,none⟩),.pointer (some ⟨g2,0,none⟩),.pointer (some ⟨g3,0,none⟩)] w (bB b n O T0 K E w):=by
 have c1:=b1.cell 0;obtain⟨X,hX⟩ :∃X,X=bx x:=⟨_,rfl⟩;rw[←hX] at b2;have c2:=b2.cell 0;have B3:=aa b3;have HR:=aa hr;have HP:=aa hp;obtain⟨t,ts,hs,hy,hn⟩:=hk;clear b1 b2 b3 hr hp;cases hq:av x t with
 | true =>
  have HC:=aa (lC HR.out hs x X hX hx hq);have HK:=aa (hy hq);clear hy hn hs hq hX hx;go_enter Tryz.func99,Tryz.ntmps99
  go_wp2_with fail
  refine HC.out.mono ?_;rintro e w2 ⟨rfl,r2,f2⟩;have F2:=aa f2;have c3:=(B3.out.later f2 (Ext.refl _ _)).cell 0;have HF:=aa (vn b n O T0 _ K E pv cO w2 r2 (HP.out.later f2 (Ext.refl _ _)) HK.out);clear r2 f2 c1 c2;go_wp2_with fail
  refine HF.out.mono ?_;intro e w3 h3;obtain⟨v,rfl⟩:=h3.ret;have H3:=aa (h3.after F2.out);clear h3 c3;go_wp2_with fail
  go_ret
  exact H3.out
 | false =>
  have HC:=aa (ot HR.out hs x X hX hx hq);have HK:=aa (hn hq);clear hy hn hs hq hX hx;go_enter Tryz.func99,Tryz.ntmps99
  go_wp2_with fail
  refine HC.out.mono ?_;rintro e w2 ⟨rfl,r2,f2⟩;have F2:=aa f2;have R2:=aa r2;clear r2 f2 c1 c2;go_wp2_with fail
  go_ret
  exact⟨F2.out,.inl ⟨s,O,rfl,R2.out,Ext.refl _ _,HK.out⟩⟩
theorem xM (b:Nat) (O:Nat→Prop) (x:List UInt8) (X:ByteArray) (hX:X=bx x) (hx:x≠[]) (pv:Value) (cO:List bW) (w:World) (hp:aM w b O pv cO) (hO :∀k,O k→k<w.heap.size) :
  Calls Tryz.prog 57 #[.pointer (some ⟨b,0,none⟩),.string X,pv] w (iq b O (bw x cO) w):=by
 subst hX;obtain⟨A,m,rfl⟩:=hp.form;have HP:=aa hp;have HO:=aa hO;have HX:=aa hx;clear hp hO hx;go_enter Tryz.func57,Tryz.ntmps57
 go_wp2
 go_ret
 refine⟨_,rfl,(((Below.refl _ _).alloc (ah _) _).alloc (by simp) _).alloc (by simp;omega) _,?_,_,_,_,rfl⟩
 intro W1 O1 T0 s n K E hf he hr hk;have f1:ax O w (w.alloc (.cells #[.pointer (some ⟨b,0,none⟩)] 117)):=(ax.refl _ _).alloc _;have f2:=(ax.refl O (w.alloc (.cells #[.pointer (some ⟨b,0,none⟩)] 117))).alloc (.cells #[.string (bx x)] 9);have f3:=(ax.refl O ((w.alloc (.cells #[.pointer (some ⟨b,0,none⟩)] 117)).alloc (.cells #[.string (bx x)] 9))).alloc (.cells #[.slice A m m] 118);have h1:=eI.new w O HO.out #[.pointer (some ⟨b,0,none⟩)] 117;have h2:=eI.new (w.alloc (.cells #[.pointer (some ⟨b,0,none⟩)] 117)) O (fun k hk=>by have:=HO.out k hk;simp;omega) #[.string (bx x)] 9
 have h3:=eI.new ((w.alloc (.cells #[.pointer (some ⟨b,0,none⟩)] 117)).alloc (.cells #[.string (bx x)] 9)) O (fun k hk=>by have:=HO.out k hk;simp;omega) #[.slice A m m] 118
 rw[aq] at h2 h3;rw[aq] at h3;have A7:=((HP.out.later f1 (Ext.refl _ _)).later f2 (Ext.refl _ _)).later f3 (Ext.refl _ _);exact⟨99,_,_,rfl,enters_of Tryz.func99 (by kernel_rfl) rfl,Ed b n _ _ _ O1 T0 s K E x _ cO W1 hr HX.out (((h1.later f2 (Ext.refl _ _)).later f3 (Ext.refl _ _)).later hf he) ((h2.later f3 (Ext.refl _ _)).later hf he) (h3.later hf he) (A7.later hf he) hk⟩
def dF (x:List UInt8) (wp:bW):bW:=fun s K E=>∃t ts,s.ts=t::ts∧(av x t=true→K s)∧(av x t=false→wp s K E)
theorem Us (w:World):Below w.heap.size w w.drew:=⟨rfl,rfl,rfl,ah _,fun _ _=>rfl⟩
theorem Ci {w w':World} (h:Below w.drew.heap.size w.drew w'):Below w.heap.size w w':=⟨h.os,h.tape,h.output,h.size,h.block⟩
theorem jx {W:World} {b n:Nat} {O:Nat→Prop} {T0:List Nd} {s:St} (h:Real W b n O T0 s) {t:ak} {ts:List ak} (hs:s.ts=t::ts) (W1:World) (hb:Below W.heap.size W W1) :
  Calls Tryz.prog 53 #[.pointer (some ⟨b,0,none⟩)] W1 fun e w'=>e=.returned (.string (ag t))∧Below W1.heap.size W1 w':=by
 obtain⟨Op,On,T,ks,hO,hd,hp,hn,hl,hc⟩:=h.ex;rw[hs] at hp;exact bJ b Op t ts T W1 (hp.below hb)
theorem Real.below {W W':World} {b n:Nat} {O:Nat→Prop} {T0:List Nd} {s:St} (h:Real W b n O T0 s) (hb:Below W.heap.size W W'):Real W' b n O T0 s:=by
 obtain⟨Op,On,T,ks,hO,hd,hp,hn,hl,hc⟩:=h.ex;exact⟨Op,On,T,ks,hO,hd,hp.below hb,hn.below hb,hl,hc⟩
theorem JC (b n g1 g2 g3:Nat) (O:Nat→Prop) (T0:List Nd) (s:St) (K:St→Prop) (E:Int→Prop) (x:List UInt8) (v:Value) (wp:bW) (w:World) (hr:Real w b n O T0 s) (hx:x≠[])
  (b1:eI w O g1 #[.pointer (some ⟨b,0,none⟩)] 117) (b2:eI w O g2 #[.string (bx x)] 9) (b3:eI w O g3 #[v] 123) (hp:eH w b O v wp) (hk:dF x wp s K E) :
  Calls Tryz.prog 187 #[.pointer (some ⟨n,0,none⟩),.pointer (some ⟨g1,0,none⟩),.pointer (some ⟨g2,0,none⟩),.pointer (some ⟨g3,0,none⟩)] w (bB b n O T0 K E w):=by
 obtain⟨X,hX⟩ :∃X,X=bx x:=⟨_,rfl⟩;rw[←hX] at b2;obtain⟨t,ts,hs,hy,hn⟩:=hk;have HW:=aa (jx hr hs);have hq :∀q,av x t=q→((ag t).toList == X.toList)=q:=fun q h=>by rw[Lib.toList_data,Lib.toList_data,hX,←h];exact tN hx t
 generalize ag t=Y at *;have HK:Hid (∀W,Below w.heap.size w W→W.cell? ⟨g1,0,none⟩=some (.pointer (some ⟨b,0,none⟩))∧W.cell? ⟨g2,0,none⟩=some (.string X)):=aa fun W hW=>by
  have f:ax O w W:=ax.af hW;exact⟨(b1.later f (Ext.refl _ _)).cell 0,(b2.later f (Ext.refl _ _)).cell 0⟩
 have B3:=aa b3;have HR:=aa hr;have HP:=aa hp;obtain⟨c1,c2⟩:=HK.out w (Below.refl _ _);have cur:=aa (Us w);clear b1 b2 b3 hr hp hX hs;have k0:=aa (HK.out w (Below.refl _ _));cases hz:av x t with
 | true =>
  have gq:=hq true hz;have HY:=aa (hy hz);clear hy hn hz hq hx;go_enter Tryz.func187,Tryz.ntmps187
  go_wp2_with fail
  go_region_held3 (fun w'=>w'.cell? ⟨g1,0,none⟩=some (.pointer (some ⟨b,0,none⟩))∧w'.cell? ⟨g2,0,none⟩=some (.string X))
   (first|exact kk.out|exact k0.out)
   ((go_at_call 53;with_reducible refine(HW.out _ cur.out).mono ?_;rintro e w2 ⟨rfl,b'⟩;have cur:=aa (Ci b');have kk:=aa (HK.out _ cur.out);clear b'))
  all_goals go_wp2
  all_goals go_ret
  all_goals exact⟨ax.af cur.out,.inl ⟨s,O,rfl,HR.out.below cur.out,Ext.refl _ _,HY.out⟩⟩
 | false =>
  have gq:=hq false hz;have HN:=aa (hn hz);clear hy hn hz hq hx;have HC:Hid (∀W,Below w.heap.size w W→∃f first cap,v=.func (.func f) first cap∧Enters Tryz.prog f∧Calls Tryz.prog f (first.push (.pointer (some ⟨n,0,none⟩))++cap) W (bB b n O T0 K E W)):=aa fun W hW=>by
   obtain⟨f,first,cap,h1,h2,h3⟩:=HP.out W O T0 s n K E (ax.af hW) (Ext.refl _ _) (HR.out.below hW) HN.out
   exact⟨f,first,cap,h1,h2,by simpa using h3⟩
  have yz:Hid (∀W,Below w.heap.size w W→W.cell? ⟨g3,0,none⟩=some v):=aa fun W hW=>(B3.out.later (O':=O) (ax.af hW) (Ext.refl _ _)).cell 0
  go_enter Tryz.func187,Tryz.ntmps187
  go_wp2_with fail
  go_region_held3 (fun w'=>w'.cell? ⟨g1,0,none⟩=some (.pointer (some ⟨b,0,none⟩))∧w'.cell? ⟨g2,0,none⟩=some (.string X))
   (first|exact kk.out|exact k0.out)
   ((go_at_call 53;with_reducible refine(HW.out _ cur.out).mono ?_;rintro e w2 ⟨rfl,b'⟩;have cur:=aa (Ci b');have kk:=aa (HK.out _ cur.out);clear b'))
  all_goals
   have c3:=yz.out _ cur.out;obtain⟨f,first,cap,rfl,pE,bs⟩:=HC.out _ cur.out
   have dY:=aa bs;clear bs;unfold Enters at pE;go_wp2_with fail
   refine dY.out.mono ?_;intro e w3 h3;obtain⟨v',rfl⟩:=h3.ret;have H3:=aa (h3.after (ax.af cur.out));clear h3;go_wp2_with fail
   go_ret
   exact H3.out
theorem Pk (b:Nat) (O:Nat→Prop) (x:List UInt8) (X:ByteArray) (hX:X=bx x) (hx:x≠[]) (f:FuncId) (first cap:Array Value) (wp:bW) (w:World) (hp:eH w b O (.func (.func f) first cap) wp) (hO :∀k,O k→k<w.heap.size) :
  Calls Tryz.prog 164 #[.pointer (some ⟨b,0,none⟩),.string X,.func (.func f) first cap] w (iq b O (dF x wp) w):=by
 subst hX;have HP:=aa hp;have HO:=aa hO;have HX:=aa hx;clear hp hO hx;go_enter Tryz.func164,Tryz.ntmps164
 go_wp2
 go_ret
 refine⟨_,rfl,(((Below.refl _ _).alloc (ah _) _).alloc (by simp) _).alloc (by simp;omega) _,?_,_,_,_,rfl⟩
 intro W1 O1 T0 s n K E hf he hr hk;have f1:ax O w (w.alloc (.cells #[.pointer (some ⟨b,0,none⟩)] 117)):=(ax.refl _ _).alloc _;have f2:=(ax.refl O (w.alloc (.cells #[.pointer (some ⟨b,0,none⟩)] 117))).alloc (.cells #[.string (bx x)] 9);have f3:=(ax.refl O ((w.alloc (.cells #[.pointer (some ⟨b,0,none⟩)] 117)).alloc (.cells #[.string (bx x)] 9))).alloc (.cells #[.func (.func f) first cap] 123)
 have h1:=eI.new w O HO.out #[.pointer (some ⟨b,0,none⟩)] 117;have h2:=eI.new (w.alloc (.cells #[.pointer (some ⟨b,0,none⟩)] 117)) O (fun k hk=>by have:=HO.out k hk;simp;omega) #[.string (bx x)] 9
 have h3:=eI.new ((w.alloc (.cells #[.pointer (some ⟨b,0,none⟩)] 117)).alloc (.cells #[.string (bx x)] 9)) O (fun k hk=>by have:=HO.out k hk;simp;omega) #[.func (.func f) first cap] 123
 rw[aq] at h2 h3;rw[aq] at h3;have A7:=((HP.out.later f1 (Ext.refl _ _)).later f2 (Ext.refl _ _)).later f3 (Ext.refl _ _);exact⟨187,_,_,rfl,enters_of Tryz.func187 (by kernel_rfl) rfl,JC b n _ _ _ O1 T0 s K E x _ wp W1 hr HX.out (((h1.later f2 (Ext.refl _ _)).later f3 (Ext.refl _ _)).later hf he) ((h2.later f3 (Ext.refl _ _)).later hf he) (h3.later hf he) (A7.later hf he) hk⟩
def qP (x:List UInt8) (cO:List bW):Nat→bW
 | 0,_,_,_=>False
 | k+1,s,K,E=>∃t ts,s.ts=t::ts∧(av x t=true→aJ cO { s with ts:=ts} (fun s'=>qP x cO k s' K E) E)∧(av x t=false→K s)
def rU (x:List UInt8) (cO:List bW):bW:=fun s K E=>∃k,qP x cO k s K E
theorem Cj (b n g1 g2 g3:Nat) (O:Nat→Prop) (T0:List Nd) (s:St) (K:St→Prop) (E:Int→Prop) (x:List UInt8) (pv:Value) (cO:List bW) (w:World) (hr:Real w b n O T0 s) (hx:x≠[])
  (b1:eI w O g1 #[.pointer (some ⟨b,0,none⟩)] 117) (b2:eI w O g2 #[.string (bx x)] 9) (b3:eI w O g3 #[pv] 118) (hp:aM w b O pv cO) (hk:rU x cO s K E) :
  Calls Tryz.prog 137 #[.pointer (some ⟨n,0,none⟩),.pointer (some ⟨g1,0,none⟩),.pointer (some ⟨g2,0,none⟩),.pointer (some ⟨g3,0,none⟩)] w (bB b n O T0 K E w):=by
 obtain⟨X,hX⟩ :∃X,X=bx x:=⟨_,rfl⟩;rw[←hX] at b2;have B1:=aa b1;have B2:=aa b2;have B3:=aa b3;have HR:=aa hr;have HP:=aa hp;have HX:=aa hX;have HN:=aa hx;obtain⟨m,hm⟩:=hk;have HM:=aa hm;clear b1 b2 b3 hr hp hX hx hm;go_enter Tryz.func137,Tryz.ntmps137
 go_wp2_with fail
 go_loopg [] m (fun z wr=>∃(O1:Nat→Prop) (s1:St),Real wr b n O1 T0 s1∧ax O w wr∧Ext O O1 w∧qP x cO z s1 K E)
 case atStart=>exact⟨O,s,HR.out,ax.refl _ _,Ext.refl _ _,HM.out⟩
 case round =>
  obtain⟨O1,s1,hr1,kQ,qp,iR⟩:=hrel;have nm:=aa hr1;have fB:=aa kQ;have oY:=aa qp;have c1:=(B1.out.later kQ qp).cell 0;have c2:=(B2.out.later kQ qp).cell 0;cases gk with
  | zero=>exact iR.elim
  | succ z =>
   obtain⟨t,ts,hs,hy,hn⟩:=iR;clear hr1 kQ qp;cases hq:av x t with
   | true =>
    have HC:=aa (lC nm.out hs x X HX.out HN.out hq);have HK:=aa (hy hq);clear hy hn hs hq;go_wp2_with fail
    refine HC.out.mono ?_;rintro e w2 ⟨rfl,r2,f2⟩;have mC:=fB.out.trans f2 oY.out;have F2:=aa mC;have c3:=(B3.out.later mC oY.out).cell 0;have HF:=aa (vn b n O1 T0 _ (fun s'=>qP x cO z s' K E) E pv cO w2 r2 (HP.out.later mC oY.out) HK.out)
    clear r2 f2 mC c1 c2;go_wp2_with fail
    refine HF.out.mono ?_;rintro e w3 ⟨f3,h3⟩;have F3:=aa (F2.out.trans f3 oY.out);rcases h3 with ⟨s3,O3,rfl,r3,x3,k3⟩ | ⟨l,v,rfl,m3,k3⟩
    ·have R3:=aa r3
     have X3:=aa (oY.out.trans x3 F2.out.size);have K3:=aa k3;clear f3 r3 x3 k3 c3;go_wp2_with fail
     go_roundg z
     case measure=>omega
     case rel=>exact⟨O3,s3,R3.out,F3.out,X3.out,K3.out⟩
    ·obtain⟨g',rfl,hg1,hg2⟩:=m3
     have M3:=aa hg2;have HG:=aa (aL F2.out.size hg1);have K3:=aa k3;clear f3 hg1 hg2 k3 c3;go_wp2_with fail
     go_ret
     exact⟨F3.out,.inr ⟨l,_,rfl,⟨g',rfl,HG.out,M3.out⟩,K3.out⟩⟩
   | false =>
    have HC:=aa (ot nm.out hs x X HX.out HN.out hq);have HK:=aa (hn hq);clear hy hn hs hq;go_wp2_with fail
    refine HC.out.mono ?_;rintro e w2 ⟨rfl,r2,f2⟩;have F2:=aa (fB.out.trans f2 oY.out);have R2:=aa r2;clear r2 f2 c1 c2;go_wp2_with fail
    go_ret
    exact⟨F2.out,.inl ⟨s1,O1,rfl,R2.out,oY.out,HK.out⟩⟩
theorem Ee (b:Nat) (O:Nat→Prop) (x:List UInt8) (X:ByteArray) (hX:X=bx x) (hx:x≠[]) (pv:Value) (cO:List bW) (w:World) (hp:aM w b O pv cO) (hO :∀k,O k→k<w.heap.size) :
  Calls Tryz.prog 106 #[.pointer (some ⟨b,0,none⟩),.string X,pv] w (iq b O (rU x cO) w):=by
 subst hX;obtain⟨A,m,rfl⟩:=hp.form;have HP:=aa hp;have HO:=aa hO;have HX:=aa hx;clear hp hO hx;go_enter Tryz.func106,Tryz.ntmps106
 go_wp2
 go_ret
 refine⟨_,rfl,(((Below.refl _ _).alloc (ah _) _).alloc (by simp) _).alloc (by simp;omega) _,?_,_,_,_,rfl⟩
 intro W1 O1 T0 s n K E hf he hr hk;have f1:ax O w (w.alloc (.cells #[.pointer (some ⟨b,0,none⟩)] 117)):=(ax.refl _ _).alloc _;have f2:=(ax.refl O (w.alloc (.cells #[.pointer (some ⟨b,0,none⟩)] 117))).alloc (.cells #[.string (bx x)] 9);have f3:=(ax.refl O ((w.alloc (.cells #[.pointer (some ⟨b,0,none⟩)] 117)).alloc (.cells #[.string (bx x)] 9))).alloc (.cells #[.slice A m m] 118);have h1:=eI.new w O HO.out #[.pointer (some ⟨b,0,none⟩)] 117;have h2:=eI.new (w.alloc (.cells #[.pointer (some ⟨b,0,none⟩)] 117)) O (fun k hk=>by have:=HO.out k hk;simp;omega) #[.string (bx x)] 9
 have h3:=eI.new ((w.alloc (.cells #[.pointer (some ⟨b,0,none⟩)] 117)).alloc (.cells #[.string (bx x)] 9)) O (fun k hk=>by have:=HO.out k hk;simp;omega) #[.slice A m m] 118
 rw[aq] at h2 h3;rw[aq] at h3;have A7:=((HP.out.later f1 (Ext.refl _ _)).later f2 (Ext.refl _ _)).later f3 (Ext.refl _ _);exact⟨137,_,_,rfl,enters_of Tryz.func137 (by kernel_rfl) rfl,Cj b n _ _ _ O1 T0 s K E x _ cO W1 hr HX.out (((h1.later f2 (Ext.refl _ _)).later f3 (Ext.refl _ _)).later hf he) ((h2.later f3 (Ext.refl _ _)).later hf he) (h3.later hf he) (A7.later hf he) hk⟩
theorem bj.app {T:List Nd} :∀{xs ys:List Ast} {ks ls:List Int} {js is:List Nat},bj T xs ks js→bj T ys ls is→bj T (xs++ys) (ks++ls) (js++is)
 | [],ys,ks,ls,js,is,h1,h2=>by
  unfold bj at h1;obtain⟨rfl,rfl⟩:=h1;exact h2
 | a::xs,ys,ks,ls,js,is,h1,h2=>by
  unfold bj at h1;obtain⟨k,gX,j1,j2,rfl,e1,e2,rfl⟩:=h1;show bj T (a::(xs++ys)) (k::(gX++ls)) (j1++j2++is)
  unfold bj;exact⟨k,gX++ls,j1,j2++is,rfl,e1,bj.app e2 h2,by rw[cP]⟩
theorem range_split (a b c:Nat) (h1:a≤b) (h2:b≤c):List.range' a (c-a)=List.range' a (b-a)++List.range' b (c-b):=by
 rw[show c-a=(b-a)+(c-b) by omega,←List.range'_append_1,show a+(b-a)=b by omega]
theorem eA.nil (T:List Nd):eA T T [] []:=⟨List.prefix_refl _,[],by unfold bj;exact⟨rfl,rfl⟩,by simp⟩
theorem vo {T T':List Nd} (h:T <+: T') :∀(i:Nat) x,T[i]? = some x→T'[i]? = some x:=by
 obtain⟨r,rfl⟩:=h;intro i x hi;rw[kI (aK.1 hi).1];exact hi
theorem eA.app {T0 T T':List Nd} {xs ys:List Ast} {ks ls:List Int} (h:eA T0 T xs ks) (k:eA T T' ys ls):eA T0 T' (xs++ys) (ks++ls):=by
 obtain⟨p1,js,r1,q1⟩:=h;obtain⟨p2,is,r2,q2⟩:=k;refine⟨p1.trans p2,js++is,(bj.more (vo p2) xs ks js r1).app r2,?_⟩;rw[range_split T0.length T.length T'.length p1.length_le p2.length_le];exact q1.append q2
theorem eA.len {T0 T:List Nd} {xs:List Ast} {ks:List Int} (h:eA T0 T xs ks):T.length=T0.length+Ast.al xs:=by
 obtain⟨p1,js,r1,q1⟩:=h;have h1:=bj.len xs ks js r1;have h2:=q1.length_eq;rw[Lj] at h2;have:=p1.length_le;omega
theorem eA.num {T0 T:List Nd} {xs:List Ast} {ks:List Int} (h:eA T0 T xs ks):ks.length=xs.length:=by
 obtain⟨_,js,r1,_⟩:=h;exact r1.count
def RK (K:Ast→List ak→Prop) (E:Int→Prop):Except Int (Ast×List ak)→Prop
 | .ok (a,ts)=>K a ts
 | .error l=>E l
abbrev iQ:=List ak→Nat→(Ast→List ak→Prop)→(Int→Prop)→Prop
def One (W:World) (b:Nat) (O:Nat→Prop) (v:Value) (wp:iQ):Prop :=
 ∀W1 O1 T ts K E,ax O W W1→Ext O O1 W→PS W1 b O1 ts T→wp ts T.length K E→Gs v #[] W1 (aF b O1 T (RK K E) W1)
theorem One.later {W W':World} {b:Nat} {O O':Nat→Prop} {v:Value} {wp:iQ} (h:One W b O v wp) (hf:ax O W W') (he:Ext O O' W):One W' b O' v wp :=
 fun W1 O1 T ts K E h1 h2 h3 h4=>h W1 O1 T ts K E (hf.trans h1 he) (he.trans h2 hf.size) h3 h4
def ze (W:World) (b:Nat) (O:Nat→Prop) (v:Value) (mf:List ak→Bool×List ak):Prop :=
 ∀W1 O1 T ts,ax O W W1→Ext O O1 W→PS W1 b O1 ts T→Gs v #[] W1 (lB b O1 (mf ts).2 T (mf ts).1 W1)
theorem ze.later {W W':World} {b:Nat} {O O':Nat→Prop} {v:Value} {mf:List ak→Bool×List ak} (h:ze W b O v mf) (hf:ax O W W') (he:Ext O O' W):ze W' b O' v mf :=
 fun W1 O1 T ts h1 h2 h3=>h W1 O1 T ts (hf.trans h1 he) (he.trans h2 hf.size) h3
def sQ (wp:iQ) (mf:List ak→Bool×List ak):Nat→List ak→Nat→List Ast→(List Ast→List ak→Prop)→(Int→Prop)→Prop
 | 0,_,_,_,_,_=>False
 | k+1,ts,n,acc,K,E=>wp ts n (fun a fK=>((mf fK).1=true→sQ wp mf k (mf fK).2 (n+a.size) (acc++[a]) K E)∧((mf fK).1=false→K (acc++[a]) (mf fK).2)) E
abbrev rV (W:World) (b:Nat) (v:Value) (ks:List Int):Prop:=W.ownsRow (b+1) 3 1 v ks.length (ks.map (Value.int .i64))
def Ut (b:Nat) (O:Nat→Prop) (T0:List Nd) (K:List Ast→List ak→Prop) (E:Int→Prop) (w:World) (e:Ending) (w':World):Prop :=
 ax O w w'∧((∃v xs ks ts O' T,e=.returned (.tuple #[v,.nilIface])∧PS w' b O' ts T∧Ext O O' w∧eA T0 T xs ks∧rV w' b v ks∧(∀g,v.ownBlock=some g→¬ O' g∧w.heap.size≤g)∧ks≠[]∧ks.length≤100000∧K xs ts) ∨
  (∃l er,e=.returned (.tuple #[.slice none 0 0,er])∧Uj w.heap.size w' er l∧E l))
theorem Ef:(Tryz.prog.info? 3).map (fun i=>(i.zero,i.size,i.bytes))=some (some (.int .i64 0),1,8):=by kernel_rfl
theorem ax.vp {w w':World} {v:Value} {B e s n:Nat} {xs:List Value} (h:w.grownBy w' v.ownBlock) (hown:w.ownsRow B e s v n xs) (he:e≠9):ax (fun k=>v.ownBlock=some k) w w' :=
 ⟨h.os,h.tape,h.output,h.size,fun k hk hO=>h.block k hk (fun e=>hO e.symm),fun k hk=>h.block k hk.lt (fun e1=>by
  obtain⟨c1,f1,h1⟩:=hk;obtain⟨c2,h2⟩:=fh hown e1.symm;rw[h1] at h2;injection h2 with h2;injection h2 with _ h2;exact he h2.symm)⟩
theorem Z3 {ops:Array Oper} {rest:List Oper} {o:Oper} {a:Act} {Q:Exit→Act→World→Prop} (w:World) (p:Int) (hgd:o.guard=none) (sl y:Operand)
  (ho:o.op=.call { callee:=.builtin .append,args:=#[sl,y],argTypes:=#[27,27]}) (b:Nat) (v:Value) (ks:List Int) (hs:a.eval sl=v) (hown:rV w b v ks) (hy:a.eval y=.slice (some ⟨w.heap.size,0,none⟩) 1 1)
  (hlen:ks.length≤1000000) (hB:b+1≤w.heap.size)
  (h :∀v' w',rV w' b v' (ks++[p])→ax (fun k=>v.ownBlock=some k) w w'→(∀g,v'.ownBlock=some g→v.ownBlock=some g∨w.heap.size≤g)→wpList Tryz.prog ops Q rest (a.put o.dst v') w'):wpList Tryz.prog ops Q (o::rest) a (w.alloc (.cells #[.int .i64 p] 3)):=by
 obtain⟨i0,mJ,hz0,hz1,hz2⟩:=info_parts Ef;have hc:=cell_of_row (w.alloc (.cells #[.int .i64 p] 3)) w.heap.size 0 _ 3 (0,0) (heap_alloc_new w _);refine wpList_append_lies (P:=Tryz.prog) _ hgd sl y 27 ho (b+1) 3 i0 (.int .i64 0) 1 8 Tryz.underlying27 mJ hz0 hz1 hz2 rfl (by omega) v ks.length (ks.map (Value.int .i64)) hs (World.ownsRow.alloc hown _) ⟨w.heap.size,0,none⟩ 1 1 [.int .i64 p] hy rfl
  (fun j u hj=>by
   cases j with
   | zero=>obtain rfl:=gW hj;exact hc
   | succ j=>simp at hj) (fun u hu=>by obtain rfl:=bK.1 hu;rfl) (by omega) (by unfold maxLen;omega) (by omega) (by simp;omega) (w.heap.size+1) (by simp) ?_
 intro g cap w' h1 h2 h3 _;refine h _ w' ?_ ?_ ?_
 ·unfold rV
  rw[bY,kN];exact h1
 ·exact((ax.refl (fun k=>v.ownBlock=some k) w).alloc _).trans (ax.vp h2 (World.ownsRow.alloc hown _) (by decide)) (Ext.refl _ _)
 ·intro g' vL
  simp[Value.ownBlock] at vL;subst vL;rcases h3 with h3|h3
  ·exact .inl h3
  ·exact .inr (by omega)
theorem abX (b:Nat) (O:Nat→Prop) (ts:List ak) (T0:List Nd) (one more:Value) (wp:iQ) (mf:List ak→Bool×List ak) (K:List Ast→List ak→Prop) (E:Int→Prop) (m:Nat) (hm:m≤100000) (w:World) (hp:PS w b O ts T0) (h1:One w b O one wp) (h2:ze w b O more mf) (hk:sQ wp mf m ts T0.length [] K E) :
  Calls Tryz.prog 134 #[one,more] w (Ut b O T0 K E w):=by
 have HP:=aa hp;have H1:=aa h1;have H2:=aa h2;have HK:=aa hk;have pj:=(hp.own b hp.at_).2;clear hp h1 h2 hk;go_enter Tryz.func134,Tryz.ntmps134
 go_wp2_with fail
 go_loopg [6] m (fun z tv wr=>∃(O1:Nat→Prop) (T:List Nd) (xs:List Ast) (ks:List Int) (tr:List ak),PS wr b O1 tr T∧ax O w wr∧Ext O O1 w∧eA T0 T xs ks∧rV wr b tv ks∧(∀g,tv.ownBlock=some g→¬ O1 g∧w.heap.size≤g)∧ks.length+z≤m∧sQ wp mf z tr T.length xs K E)
 case atStart=>exact⟨O,T0,[],[],ts,HP.out,ax.refl _ _,Ext.refl _ _,eA.nil T0,World.ownsRow_nil _ _ _ _,fun g hg=>by simp[Value.ownBlock] at hg,by simp,HK.out⟩
 case round =>
  obtain⟨O1,T,xs,ks,tr,lH,kQ,qp,qn,hr1,xc,hz,iR⟩:=hrel;have Bl:=aa lH;have fB:=aa kQ;have oY:=aa qp;have HL1:=aa qn;have nm:=aa hr1;have KK:=aa xc;cases gk with
  | zero=>exact iR.elim
  | succ z =>
   obtain⟨f,first,cap,rfl,pE,bs⟩:=H1.out wr O1 T tr _ E kQ qp lH iR
   rw[show first++(#[]:Array Value)=first by simp] at bs
   have dY:=aa bs;obtain⟨f2,kE,Dd,rfl,Z4,_⟩:=H2.out wr O1 T tr kQ qp lH;clear lH kQ qp qn hr1 xc iR bs;unfold Enters at pE Z4;go_wp2_with fail
   refine dY.out.mono ?_;rintro e w2 ⟨fr2,h2⟩;have F2:=aa (fB.out.trans fr2 oY.out);rcases h2 with ⟨p,a,ir,O2,T2,rfl,p2,x2,l2,k2⟩ | ⟨l,v,er,rfl,m2,k2⟩
   ·have hrow2:rV w2 b u6 ks:=dk nm.out fun g hg=>fr2.block g (nm.out.lt g hg).2 (KK.out g hg).1
    have uP :∀g,u6.ownBlock=some g→¬ O2 g∧w.heap.size≤g:=fun g hg=>⟨fun h=>by
     rcases x2 g h with h|h
     ·exact(KK.out g hg).1 h
     ·have:=(nm.out.lt g hg).2
      omega,(KK.out g hg).2⟩
    have v8:=aa hrow2;have SZ:=aa uP;have P2:=aa p2;have X2:=aa (oY.out.trans x2 fB.out.size);have L2:=aa (HL1.out.app l2);have LA:=aa l2.len;have K2:=aa k2;have yo:b+1≤w2.heap.size:=by have:=(p2.own b p2.at_).2;omega
    have hsw:w.heap.size≤w2.heap.size:=F2.out.size;clear fr2 hrow2 uP p2 x2 l2 k2;go_wp2_with (at_builtin;refine Z3 _ (p:Int) rfl _ _ rfl b _ ks rfl v8.out rfl (by omega) yo ?_;intro v4 w4 h4 f4 o4;have H4:=aa h4;have F4:=aa f4;have O4:=aa o4;clear h4 f4 o4)
    have p4:PS w4 b O2 ir T2:=P2.out.kept F4.out (fun k hk e=>(SZ.out k e).1 hk) fun k e=>by have:=(v8.out.lt k e).1;omega
    have F5:=aa (F2.out.trans (F4.out.mono (O1:=fun k=>u6.ownBlock=some k) fun _ h=>h) (fun k hk=>.inr (SZ.out k hk).2))
    have P4:=aa p4;obtain⟨_,_,_,e2,_,pF⟩:=H2.out w4 O2 T2 ir F5.out X2.out p4;injection e2 with e3 e4 e5;injection e3 with e3;subst e3 e4 e5;rw[show kE++(#[]:Array Value)=kE by simp] at pF
    have rW:=aa pF;obtain⟨br,hbr⟩ :∃br,br=(mf ir).1:=⟨_,rfl⟩;rw[←hbr] at rW;have pP:=aa hbr;clear p4 pF hbr;refine rW.out.mono ?_;rintro e w5 ⟨rfl,p5,Z5⟩;have hn5 :∀g,v4.ownBlock=some g→¬ O2 g∧w.heap.size≤g:=fun g hg=>by
     rcases O4.out g hg with h|h
     ·exact SZ.out g h
     ·exact⟨fun h'=>by have:=(P2.out.own g h').2;omega,by omega⟩
    have zA :∀g,v4.ownBlock=some g→g≠b:=fun g hg e=>(hn5 g hg).1 (e▸P4.out.at_)
    have Nh:=aa (show rV w5 b v4 (ks++[(p:Int)]) from dk H4.out fun g hg=>Z5.block g (H4.out.lt g hg).2 (zA g hg))
    have HN5:=aa hn5;have P5:=aa p5;have F6:=aa (F5.out.trans Z5 (fun k hk=>X2.out k (hk▸P4.out.at_)))
    clear p5 Z5 hn5 zA;cases br with
    | true =>
     go_wp2_with fail
     go_roundg z
     case measure=>omega
     case rel=>exact⟨O2,T2,xs++[a],ks++[(p:Int)],_,P5.out,F6.out,X2.out,L2.out,Nh.out,HN5.out,by simp;omega,by
      have:=K2.out.1 pP.out.symm;rw[LA.out,Ast.al,Ast.al];exact this⟩
    | false =>
     go_wp2_with fail
     go_ret2
     exact⟨F6.out,.inl ⟨_,xs++[a],ks++[(p:Int)],_,O2,T2,rfl,P5.out,X2.out,L2.out,Nh.out,HN5.out,by simp,by simp;omega,K2.out.2 pP.out.symm⟩⟩
   ·obtain⟨g',rfl,hg1,hg2⟩:=m2
    have M2:=aa hg2;have HG:=aa (aL fB.out.size hg1);have K2:=aa k2;clear fr2 hg1 hg2 k2;go_wp2_with fail
    go_ret2
    exact⟨F2.out,.inr ⟨l,_,rfl,⟨g',rfl,HG.out,M2.out⟩,K2.out⟩⟩
def mj (wp:iQ) (mf:List ak→Bool×List ak):bW:=fun s K E=>s.xs.length≤100000∧∃m,m≤100000∧sQ wp mf m s.ts s.n [] (fun xs ts=>K { s with xs:=s.xs++xs,ts:=ts,n:=s.n+Ast.al xs}) E
theorem Uu {ops:Array Oper} {rest:List Oper} {o:Oper} {a:Act} {Q:Exit→Act→World→Prop} (w:World) (hgd:o.guard=none) (sl y:Operand)
  (ho:o.op=.call { callee:=.builtin .append,args:=#[sl,y],argTypes:=#[27,27]}) (b:Nat) (kv v:Value) (ks ls:List Int) (hs:a.eval sl=kv) (hown:rV w b kv ks) (hy:a.eval y=v) (hl:rV w b v ls) (hne:ls≠[])
  (h1:ks.length≤1000000) (h2:ls.length≤1000000) (hB:b+1≤w.heap.size)
  (h :∀g c w',rV w' b (.slice (some ⟨g,0,none⟩) (ks.length+ls.length) c) (ks++ls)→ax (fun k=>kv.ownBlock=some k) w w'→(kv.ownBlock=some g∨w.heap.size≤g)→g<w'.heap.size→wpList Tryz.prog ops Q rest (a.put o.dst (.slice (some ⟨g,0,none⟩) (ks.length+ls.length) c)) w'):wpList Tryz.prog ops Q (o::rest) a w:=by
 obtain⟨i0,mJ,hz0,hz1,hz2⟩:=info_parts Ef;have h0:0<ls.length:=wE.2 hne;obtain⟨g,cap,rfl,_,_⟩:=hl.form h0;refine wpList_append_lies (P:=Tryz.prog) _ hgd sl y 27 ho (b+1) 3 i0 (.int .i64 0) 1 8 Tryz.underlying27 mJ hz0 hz1 hz2 rfl (by omega) kv ks.length (ks.map (Value.int .i64)) hs hown ⟨g,0,none⟩ ls.length cap (ls.map (Value.int .i64)) hy (by simp)
  (fun j u hj=>hl.cells (g:=g) rfl j u hj) (fun u hu=>by obtain⟨z,_,rfl⟩:=jB.1 hu;rfl) h0 (by unfold maxLen;omega) (by omega) hB w.heap.size rfl ?_
 intro g cap w' h1 h2 h3 h5;refine h g cap w' ?_ ?_ (h3.imp id fun e=>by omega) h5
 ·unfold rV
  rw[bY,kN];exact h1
 ·exact ax.vp h2 hown (by decide)
theorem GB {W W4:World} {b n:Nat} {On:Nat→Prop} {x:Nd} {nv kv:Value} (ha:W.heap[n]? = some (.cells (aP (x,nv,kv)).toArray 54 (0,0))) (hi:jO W b On x nv kv) (hat:On n) (hown :∀k,On k→b<k∧k<W.heap.size)
  (hf:ax (fun k=>kv.ownBlock=some k) W W4) :
  W4.cell? ⟨n,6,none⟩=some kv∧W4.frozen? ⟨n,6,none⟩=false∧n<W4.heap.size∧(∀v,ax (· = n) W4 (W4.setCell ⟨n,6,none⟩ v))∧∀(g m c:Nat) (ks:List Int),rV W4 b (.slice (some ⟨g,0,none⟩) m c) ks→kv.ownBlock=some g∨W.heap.size≤g →
   NU (W4.setCell ⟨n,6,none⟩ (.slice (some ⟨g,0,none⟩) m c)) b n (fun k=>On k∨k=g) { x with kids:=ks}:=by
 have hne:¬ kv.ownBlock=some n:=fun e=>by
  obtain⟨cur,hc⟩:=fh hi.kids e;rw[ha] at hc;simp at hc
 have qQ:W4.heap[n]? = some (.cells (aP (x,nv,kv)).toArray 54 (0,0)):=(hf.block n (hown n hat).2 hne).trans ha;refine⟨by simp[World.cell?,qQ,aP],by simp[World.frozen?,qQ],(aO.1 qQ).1,fun v=>ax.wo qQ (by decide) 6 v,fun g m c ks hr hg=>?_⟩
 have dJ:jO W4 b (fun k=>On k∨k=g) { x with kids:=ks} nv (.slice (some ⟨g,0,none⟩) m c):=⟨dk hi.names fun k hk=>(hf.block k (hi.names.lt k hk).2 (fun e=>by
  obtain⟨c1,h1⟩:=fh hi.names hk;obtain⟨c2,h2⟩:=fh hi.kids e;rw[h1] at h2;simp at h2)),hr,fun k hk=>(hi.on k hk).imp .inl hf.keeps,hi.nz,fun k hk=>.inr (by simpa[Value.ownBlock] using hk.symm)⟩
 have re:=hr.lt g rfl;refine⟨⟨nv,_,il qQ _,dJ.set qQ 6 _⟩,.inl hat,fun k hk=>?_⟩
 rcases hk with hk|rfl
 ·exact⟨(hown k hk).1,by have:=(hown k hk).2;have:=hf.size;simp[World.setCell];omega⟩
 ·exact⟨by omega,by simp[World.setCell];omega⟩
theorem Uv (b n g1 g2:Nat) (O:Nat→Prop) (T0:List Nd) (s:St) (K:St→Prop) (E:Int→Prop) (one more:Value) (wp:iQ) (mf:List ak→Bool×List ak) (w:World) (hr:Real w b n O T0 s)
  (b1:eI w O g1 #[one] 127) (b2:eI w O g2 #[more] 25) (h1:One w b O one wp) (h2:ze w b O more mf) (hk:mj wp mf s K E) :
  Calls Tryz.prog 133 #[.pointer (some ⟨n,0,none⟩),.pointer (some ⟨g1,0,none⟩),.pointer (some ⟨g2,0,none⟩)] w (bB b n O T0 K E w):=by
 obtain⟨Op,On,T,ks,hO,hd,hp,hn,hl,hc⟩:=hr.ex;have c1:=b1.cell 0;have c2:=b2.cell 0;obtain⟨hx,m,hm,hk⟩:=hk;have eOp:Ext O Op w:=fun k hk=>.inl ((hO k).2 (.inl hk))
 rw[←hc] at hk;have HR:=aa (abX b Op s.ts T one more wp mf _ E m hm w hp (h1.later (ax.refl _ _) eOp) (h2.later (ax.refl _ _) eOp) hk);have KF:ks.length=s.xs.length:=hl.num;have HO:=aa hO;have HD:=aa hd;have HP:=aa hp;have HN:=aa hn;have HL:=aa hl;have HKS:=aa KF;have HC:=aa hc;have wU:ks.length≤100000:=by omega
 clear hr hO hd hp hn hl hc b1 b2 h1 h2 hk eOp KF hx;go_enter Tryz.func133,Tryz.ntmps133
 go_wp2_with fail
 refine HR.out.mono ?_;rintro e w1 ⟨f1,h1⟩;have F1:=aa f1;have n1:=HN.out.kept f1 fun k hk h=>HD.out k h hk
 have N1:=aa n1;have jd:=n1.own n n1.at_;have Xa:=n1.own;have C0:=aa n1.at_;obtain⟨nv,kv,ha,nV⟩:=n1.ex;obtain⟨A6,k6,rfl,_⟩:=bC nV.kids;have c6:w1.cell? ⟨n,6,none⟩=some (.slice A6 ks.length k6):=by simp[World.cell?,ha,aP]
 have z6:w1.frozen? ⟨n,6,none⟩=false:=by simp[World.frozen?,ha]
 have HI:=aa nV;have HK:=aa (fun W4 hf=>GB (W4:=W4) ha nV n1.at_ Xa hf)
 have N1:=aa n1;clear Xa ha nV n1 c1 c2;rcases h1 with ⟨v,ys,ls,aA,Op',T',rfl,p1,x1,l1,r1,o1,ne1,adM,k1⟩ | ⟨l,er,rfl,m1,k1⟩
 ·have P1:=aa p1
  have X1:=aa x1;have L1:=aa l1;have R1:=aa r1;have O1:=aa o1;have NE:=aa ne1;have K1:=aa k1;obtain⟨Av,cv,rfl,_⟩:=bC r1;clear p1 x1 l1 r1 o1 ne1 k1 f1;go_wp2_with (at_builtin;refine Uu _ rfl _ _ rfl b (.slice A6 ks.length k6) (.slice Av ls.length cv) ks ls rfl HI.out.kids rfl R1.out NE.out (by omega) (by omega) (by omega) ?_;intro g4 c4 w4 h4 f4 o4 l4;obtain⟨c64,z64,qQ,abY,Bm⟩:=HK.out w4 f4;have RI:=aa abY;have HU:=aa (Bm g4 _ c4 _ h4 o4);have F4:=aa f4;have O4:=aa o4;have L4:=aa l4;clear h4 f4 o4 l4 Bm abY)
  go_ret
  have hkO :∀k,(Value.slice A6 ks.length k6).ownBlock=some k→On k:=fun k hk=>HI.out.ok k hk
  have f4':ax On w1 w4:=F4.out.mono hkO;have fO:ax O w w1:=F1.out.mono fun k hk=>(HO.out k).2 (.inl hk)
  have JD :∀k,On k→k<w.heap.size:=fun k hk=>(HN.out.own k hk).2
  have hg4:On g4∨w1.heap.size≤g4:=O4.out.imp (fun h=>hkO g4 h) id
  have hsz:w.heap.size≤w1.heap.size:=F1.out.size;have f5:ax O w w4:=fO.trans f4' fun k hk=>.inl ((HO.out k).2 (.inr hk))
  have Z6 :∀k,Op' k→¬ On k:=fun k hk h=>by
   rcases X1.out k hk with h1|h1
   ·exact HD.out k h1 h
   ·have:=JD k h;omega
  have p5:PS w4 b Op' aA T':=P1.out.kept f4' Z6 fun k hk=>fu (HN.out.own k hk).1
  have RE:¬ Op' g4:=fun h=>by
   rcases hg4 with h1|h1
   ·exact Z6 g4 h h1
   ·have:=(P1.out.own g4 h).2;omega
  refine⟨f5.trans (RI.out _) (fun k hk=>.inl (hk▸(HO.out n).2 (.inr C0.out))),.inl ⟨{ s with xs:=s.xs++ys,ts:=aA,n:=T.length+Ast.al ys},fun k=>Op' k∨(On k∨k=g4),rfl,⟨Op',fun k=>On k∨k=g4,T',ks++ls,fun k=>Iff.rfl,fun k hk h=>?_,?_,HU.out,HL.out.app L1.out,?_⟩,fun k hk=>?_,K1.out⟩⟩
  ·rcases h with h|rfl
   ·exact Z6 k hk h
   ·exact RE hk
  ·exact p5.kept (O1:=(· = n)) (RI.out _) (fun k hk e=>Z6 k hk (e▸C0.out)) fun k e=>by omega
  ·exact L1.out.len
  ·rcases hk with hk|hk|rfl
   ·rcases X1.out k hk with h1|h1
    ·exact .inl ((HO.out k).2 (.inl h1))
    ·exact .inr h1
   ·exact .inl ((HO.out k).2 (.inr hk))
   ·rcases hg4 with h1|h1
    ·exact .inl ((HO.out k).2 (.inr h1))
    ·exact .inr (by omega)
 ·obtain⟨g',rfl,hg1,hg2⟩:=m1
  have M2:=aa hg2;have K2:=aa k1;have Uw:g'≠n:=by have:=(HN.out.own n C0.out).2;omega
  clear f1 hg2 k1;go_wp2_with (at_builtin;refine wpList_append_own_none rfl _ _ 27 rfl (b+1) 3 _ 1 Tryz.underlying27 (info_parts Ef).choose_spec.1 _ ks.length _ rfl HI.out.kids rfl ?_)
  go_ret
  refine⟨(F1.out.mono (O1:=O) fun k hk=>(HO.out k).2 (.inl hk)).trans (N1.out.fr 6 _) (fun k hk=>.inl (hk▸(HO.out n).2 (.inr C0.out))),.inr ⟨l,_,rfl,⟨g',rfl,hg1,?_⟩,K2.out⟩⟩
  exact(Below.heap_setCell _ _ _ g' Uw).trans M2.out
theorem Ux:(Tryz.prog.info? 54).map (fun i=>(i.zero,i.size,i.bytes))=some (some (.agg #[.int .i64 0,.int .i64 0,.int .i64 0,.int .i64 0,.string ⟨#[]⟩,.slice none 0 0,.slice none 0 0]),7,96):=by kernel_rfl
theorem fj (t:KS):(aP t).length=7:=rfl
theorem xN {ops:Array Oper} {o:Oper} {a:Act} {K:Act→World→Prop} {Q:Exit→Act→World→Prop} {E:Prop} (w0 w1:World) (t:KS) (hgd:o.guard=none) (sl y:Operand)
  (ho:o.op=.call { callee:=.builtin .append,args:=#[sl,y],argTypes:=#[22,22]}) (b:Nat) (v:Value) (L:List KS) (hs:a.eval sl=v) (hown:w0.ownsRow (b+1) 54 7 v L.length (L.flatMap aP)) (ec :∀(i:Nat),i<w0.heap.size→w1.heap[i]? = w0.heap[i]?) (g:Nat) (hg:g=w0.heap.size) (hy:a.eval y=.slice (some ⟨g,0,none⟩) 1 1)
  (hz:w1.heap[g]? = some (.cells (aP t).toArray 54 (0,0))) (h1c :∀u∈aP t,u.oneCell'=true)
  (hlen:L.length≤1000000) (hB:b+1≤w0.heap.size) (hb1:Below w0.heap.size w0 w1)
  (h :∀g' c' w',w'.ownsRow (b+1) 54 7 (.slice (some ⟨g',0,none⟩) (L.length+1) c') (L.length+1) ((L++[t]).flatMap aP)→ax (fun k=>v.ownBlock=some k) w0 w'→(v.ownBlock=some g'∨w0.heap.size≤g')→g' < w'.heap.size→K (a.put o.dst (.slice (some ⟨g',0,none⟩) (L.length+1) c')) w') :
  if Region.wanted o (yielded ops a.tmps)=true then Oper.wp Tryz.prog o a w1 K Q else E:=by
 subst hg;obtain⟨i0,mJ,hz0,hz1,hz2⟩:=info_parts Ux;have hown1:w1.ownsRow (b+1) 54 7 v L.length (L.flatMap aP):=dk hown fun k hk=>ec k (hown.lt k hk).2
 have hpl :∀j:Nat,(⟨w0.heap.size,0,none⟩:Addr).add j=⟨w0.heap.size,j,none⟩:=fun j=>by unfold Addr.add;split<;>simp_all
 refine step_append_lies (P:=Tryz.prog) w1 hgd sl y 22 ho (b+1) 54 i0 _ 7 96 Tryz.underlying22 mJ hz0 hz1 hz2 rfl (by omega) v L.length (L.flatMap aP) hs hown1 ⟨w0.heap.size,0,none⟩ 1 1 (aP t) hy (fj t)
  (fun j u hj=>by rw[hpl];simpa[World.cell?,hz] using hj) h1c (by omega) (by unfold maxLen;omega) (by omega) (by have:=hb1.size;omega) w1.heap.size rfl ?_
 intro g' c' w' r1 r2 r3 r4;refine h g' c' w' ?_ ?_ (r3.imp id fun e=>by have:=hb1.size;omega) r4
 ·rw[pT]
  simpa using r1
 ·exact(ax.af (O:=fun k=>v.ownBlock=some k) hb1).trans (ax.vp r2 hown1 (by decide)) (Ext.refl _ _)
theorem eA.node {T0 T:List Nd} {xs:List Ast} {ks:List Int} (h:eA T0 T xs ks) (x:Nd):eA T0 (T++[{ x with kids:=ks}]) [.mk x xs] [(T.length:Int)]:=by
 obtain⟨p1,js,r1,q1⟩:=h;refine⟨p1.trans (List.prefix_append _ _),T.length::js,?_,?_⟩
 ·unfold bj
  refine⟨T.length,[],T.length::js,[],rfl,?_,by unfold bj;exact⟨rfl,rfl⟩,by simp⟩
  unfold gC;exact⟨{ x with kids:=ks},js,by simp,rfl,bj.more (vo (List.prefix_append _ _)) xs ks js r1,rfl⟩
 ·have h1:=p1.length_le
  rw[bY,mT,range_split T0.length T.length (T.length+1) h1 (by omega),show T.length+1-T.length=1 by omega]
  exact(List.Perm.cons _ q1).trans (List.perm_append_comm (l₁:=[T.length]))
theorem PS.more {W:World} {b:Nat} {O On:Nat→Prop} {ts:List ak} {T:List Nd} {x:Nd} {nv kv:Value} (h:PS W b O ts T) (hi:jO W b On x nv kv) (JD :∀k,On k→b<k∧k<W.heap.size) :
  ∃(v:Value) (L:List KS),L.length=T.length∧W.cell? ⟨b,2,none⟩=some v∧W.frozen? ⟨b,2,none⟩=false∧W.ownsRow (b+1) 54 7 v L.length (L.flatMap aP)∧(∀k,v.ownBlock=some k→O k∧k≠b)∧b+1≤W.heap.size ∧
   ∀(W6:World) (g c:Nat),W6.ownsRow (b+1) 54 7 (.slice (some ⟨g,0,none⟩) (L.length+1) c) (L.length+1) ((L++[(x,nv,kv)]).flatMap aP)→ax (fun k=>v.ownBlock=some k) W W6→(v.ownBlock=some g∨W.heap.size≤g)→g<W6.heap.size →
    W6.cell? ⟨b,2,none⟩=some v∧W6.frozen? ⟨b,2,none⟩=false∧ax (· = b) W6 (W6.setCell ⟨b,2,none⟩ (.slice (some ⟨g,0,none⟩) (L.length+1) c))∧PS (W6.setCell ⟨b,2,none⟩ (.slice (some ⟨g,0,none⟩) (L.length+1) c)) b (fun k=>O k∨On k∨k=g) ts (T++[x]):=by
 obtain⟨TS,i,g0,c0,v,L,a1,a2,a3,a4,a5,a6,a7⟩:=h.ex;have hlt:=(aO.1 a1).1;have hvb :∀k,v.ownBlock=some k→k≠b:=fun k hk e=>by have:=(a6.row.lt k hk).1;omega
 refine⟨v,L,by rw[←a7,bU],by simp[World.cell?,a1],by simp[World.frozen?,a1],a6.row,fun k hk=>⟨a6.own k hk,hvb k hk⟩,hlt,fun W6 g c hr hf hg re=>?_⟩
 have CY:W6.heap[b]? = some (.cells #[.slice (some ⟨g0,0,none⟩) TS.length c0,.int .i64 (i:Int),v] 78 (0,0)):=(hf.block b hlt (fun e=>hvb b e rfl)).trans a1
 have hgb:g≠b:=by
  rcases hg with hg|hg
  ·exact hvb g hg
  ·omega
 have hne :∀k,k≠b→(W6.setCell ⟨b,2,none⟩ (.slice (some ⟨g,0,none⟩) (L.length+1) c)).heap[k]? = W6.heap[k]?:=fun k hk=>Below.heap_setCell _ _ _ k hk
 have hst :∀{k},Gr W k→Gr (W6.setCell ⟨b,2,none⟩ (.slice (some ⟨g,0,none⟩) (L.length+1) c)) k:=fun hk=>(ax.wo CY (show(78:Nat)≠9 by decide) 2 (.slice (some ⟨g,0,none⟩) (L.length+1) c)).keeps (hf.keeps hk)
 have hsz:(W6.setCell ⟨b,2,none⟩ (.slice (some ⟨g,0,none⟩) (L.length+1) c)).heap.size=W6.heap.size:=by simp[World.setCell]
 have Ig :∀k,v.ownBlock=some k→∃cur,W.heap[k]? = some (.cells cur 54 (0,0)):=fun k hk=>fh a6.row hk
 have hrow :∀{e:TypeId} {s n:Nat} {u:Value} {xs:List Value},W.ownsRow (b+1) e s u n xs→e≠54→(W6.setCell ⟨b,2,none⟩ (.slice (some ⟨g,0,none⟩) (L.length+1) c)).ownsRow (b+1) e s u n xs:=fun{e s n u xs} h he=>dk h fun k hk=>by
  rw[hne k (by have:=(h.lt k hk).1;omega)]
  refine hf.block k (h.lt k hk).2 (fun e'=>?_)
  obtain⟨c1,h1⟩:=Ig k e';obtain⟨c2,h2⟩:=fh h hk;rw[h1] at h2;injection h2 with h2;injection h2 with _ h2;exact he h2.symm
 refine⟨by simp[World.cell?,CY],by simp[World.frozen?,CY],ax.wo CY (by decide) 2 _,⟨⟨TS,i,g0,c0,_,L++[(x,nv,kv)],(il CY _),?_,a3,a4,a5,⟨?_,fun k hk=>.inr (.inr (by simpa[Value.ownBlock] using hk.symm)),fun t ht=>?_⟩,by rw[kN,a7];rfl⟩,h.fin,.inl h.at_,fun k hk=>?_⟩⟩
 ·exact a2.kept ((hne g0 (by omega)).trans (hf.block g0 (by omega) (fun e=>by have:=(a6.row.lt g0 e).1;omega))) (by rw[hsz];exact hf.size)
 ·have:(L++[(x,nv,kv)]).length=L.length+1:=by simp
  rw[this];exact dk hr fun k hk=>hne k (by
   have:k=g:=by simpa[Value.ownBlock] using hk.symm
   rw[this];exact hgb)
 ·rcases dd.1 ht with ht|ht
  ·have hn:=a6.each t ht
   exact⟨hrow hn.names (by decide),hrow hn.kids (by decide),fun k hk=>(hn.on k hk).imp .inl hst,hn.nz,fun k hk=>.inl (hn.ok k hk)⟩
  ·obtain rfl:=bK.1 ht
   exact⟨hrow hi.names (by decide),hrow hi.kids (by decide),fun k hk=>(hi.on k hk).imp (fun h=>.inr (.inl h)) hst,hi.nz,fun k hk=>.inr (.inl (hi.ok k hk))⟩
 ·rw[hsz]
  have:=hf.size;rcases hk with hk|hk|rfl
  ·have:=h.own k hk;omega
  ·have:=JD k hk;omega
  ·have:=(hr.lt k rfl).1;omega
theorem Z7 {w:World} {b:Nat} {On:Nat→Prop} {x:Nd} {nv kv:Value} (hi:jO w b On x nv kv) (JD :∀k,On k→b<k∧k<w.heap.size) (hb:b<w.heap.size) :
  NU (w.alloc (.cells (aP (x,nv,kv)).toArray 54)) b w.heap.size (fun k=>On k∨k=w.heap.size) x :=
 ⟨⟨nv,kv,World.alloc_heap_new w _,hi.kept (O1:=fun _=>False) ((ax.refl _ _).alloc _) (fun _ _ h=>h) (fun g hg=>.inl hg)⟩,.inr rfl,fun k hk=>by
  rcases hk with hk|rfl
  ·have:=JD k hk;simp;omega
  ·simp;exact hb⟩
theorem GC {W:World} {b n:Nat} {Op On:Nat→Prop} {T0 T:List Nd} {h:Nd} {xs:List Ast} {ks:List Int} {ts:List ak} (hp:PS W b Op ts T) (hn:NU W b n On { h with kids:=ks}) (hd :∀k,Op k→¬ On k) (hl:eA T0 T xs ks):Real W b n (fun k=>Op k∨On k) T0 ⟨h,xs,ts,T.length⟩ :=
 ⟨Op,On,T,ks,fun _=>Iff.rfl,hd,hp,hn,hl,rfl⟩
theorem xO {a b:Int} {v:Value} (h:a=b):Ending.returned (.tuple #[.int .i64 a,v])=.returned (.tuple #[.int .i64 b,v]):=by rw[h]
theorem zf (b:Nat) (Op On:Nat→Prop) (t:ak) (ts:List ak) (T0 T:List Nd) (x:Nd) (l:Int) (xs:List Ast) (ks:List Int) (nv kv pv:Value) (cO:List bW) (R:Except Int (Ast×List ak)→Prop) (w:World)
  (hp:PS w b Op (t::ts) T) (hi:jO w b On { x with kids:=ks} nv kv) (hd :∀k,Op k→¬ On k) (JD :∀k,On k→b<k∧k<w.heap.size) (hl:eA T0 T xs ks) (GD:aM w b (fun k=>Op k∨On k) pv cO) (h0:(x.line=0∧l=t.2.1)∨(x.line≠0∧l=x.line))
  (hk:aJ cO ⟨{ x with line:=l},xs,t::ts,T.length⟩ (fun s=>s.n≤200000∧R (.ok (.mk s.h s.xs,s.ts))) (fun l=>R (.error l))) :
  Calls Tryz.prog 23 #[.pointer (some ⟨b,0,none⟩),da x nv kv,pv] w (aF b (fun k=>Op k∨On k) T0 R w):=by
 obtain⟨Av,mv,rfl⟩:=GD.form;obtain⟨An,cn,rfl,_⟩:=bC hi.names;obtain⟨Ak,ck,rfl,_⟩:=bC hi.kids;obtain⟨t0,t1,t2,t3⟩:=t;obtain⟨x0,x1,x2,x3,x4,x5,x6⟩:=x;have HP:=aa hp;have HI:=aa hi;have hbl:b<w.heap.size:=(hp.own b hp.at_).2;have HU:=aa (Z7 (x:=⟨x0,x1,x2,x3,x4,x5,ks⟩) hi JD hbl);have HA:=aa (fun W hW=>cC b Op (t0,t1,t2,t3) ts T W hW)
 unfold gb at HA;dsimp only at HA
 have F1:=Pe t0 t1 t2 (bx t3);generalize bx t3=S at *;have HPT:=aa GD;have HK:=aa hk;have HL:=aa hl;have HD:=aa hd;have HON:=aa JD;have rX :∀k,Op k→k<w.heap.size:=fun k hk=>(hp.own k hk).2
 have Uy:=aa rX;have hEx:Ext (fun k=>Op k∨On k) (fun k=>Op k∨(On k∨k=w.heap.size)) w:=fun k hk=>by
  rcases hk with hk|hk|rfl
  ·exact .inl (.inl hk)
  ·exact .inl (.inr hk)
  ·exact .inr (ah _)
 have HEX:=aa hEx;have hd3 :∀k,Op k→¬ (On k∨k=w.heap.size):=fun k hk h=>by
  rcases h with h|rfl
  ·exact hd k hk h
  ·have:=rX _ hk;omega
 have HD3:=aa hd3;clear hp hi GD hk hl hd JD rX hEx hd3;unfold da;dsimp only at h0 ⊢
 rcases h0 with ⟨h1,h2⟩ | ⟨h1,h2⟩
 ·subst h1 h2
  have fa:ax (fun k=>Op k∨On k) w (w.alloc (.cells #[.int .i64 x0,.int .i64 0,.int .i64 x2,.int .i64 x3,.string x4,.slice An x5.length cn,.slice Ak ks.length ck] 54)):=(ax.refl _ _).alloc _
  have HFA:=aa fa;have P1:=aa (HP.out.below ((Below.refl _ _).alloc (ah _) (.cells #[.int .i64 x0,.int .i64 0,.int .i64 x2,.int .i64 x3,.string x4,.slice An x5.length cn,.slice Ak ks.length ck] 54)));clear fa;go_enter Tryz.func23,Tryz.ntmps23
  go_wp2_with fail
  refine(HA.out _ P1.out).mono ?_;rintro e w2 ⟨rfl,b2⟩;have U2:=aa (HU.out.below b2);have P2:=aa (P1.out.below b2);obtain⟨nv2,kv2,hc2,_,hz2⟩:=U2.out.cells;have c1:=hc2.c1;have z1:=hz2 1;have FR2:=aa (HFA.out.trans (ax.af (O:=fun k=>Op k∨On k) b2) (Ext.refl _ _))
  have jd:w.heap.size<w2.heap.size:=by have:=b2.size;simp at this;omega
  clear b2 hc2 hz2;go_wp2_with fail
  have RL:=aa (GC (h:=⟨x0,l,x2,x3,x4,x5,x6⟩) (P2.out.kept (O1:=(· = w.heap.size)) (U2.out.fr 1 (.int .i64 l)) (fun k hk e=>by have:=Uy.out k hk;omega) fun k e=>by omega)
   (U2.out.qO (y:=⟨x0,l,x2,x3,x4,x5,ks⟩) 1 (.int .i64 l) rfl rfl fun _ _=>rfl) HD3.out HL.out)
  have Uz:=aa (FR2.out.trans (U2.out.fr 1 (.int .i64 l)) (fun k hk=>.inr (Nat.le_of_eq hk.symm)))
  clear P2 U2 FR2 c1 z1;generalize w2.setCell ⟨w.heap.size,1,none⟩ (.int .i64 l)=w3 at *;refine(vn b w.heap.size _ T0 _ _ _ _ cO w3 RL.out (HPT.out.later Uz.out HEX.out) HK.out).mono ?_;rintro e w4 ⟨f4,h4⟩;have RI:=aa (Uz.out.trans f4 HEX.out);rcases h4 with ⟨s4,O4,rfl,r4,e4,k4,kR⟩ | ⟨l4,v4,rfl,⟨g',rfl,hg1,hg2⟩,k4⟩
  ·obtain⟨Op4,On4,T4,JE,Xb,hd4,fZ,qQ,hl4,ZV⟩:=r4.ex
   have E4:=aa (HEX.out.trans e4 Uz.out.size);obtain⟨nv4,kv4,zg,Pl⟩:=qQ.ex;obtain⟨Pm,Pn,rfl,_⟩:=bC Pl.names;obtain⟨UB,UC,rfl,_⟩:=bC Pl.kids;obtain⟨s0,s1,s2,s3⟩:=s4;obtain⟨y0,y1,y2,y3,y4,y5,y6⟩:=s0;dsimp only at fZ qQ zg Pl hl4 ZV kR k4 Pm Pn
   have adN:w.heap.size<w4.heap.size:=(qQ.own _ qQ.at_).2;have q0:w4.cell? ⟨w.heap.size,0,none⟩=some (.int .i64 y0):=by simp[World.cell?,zg,aP]
   have q1:w4.cell? ⟨w.heap.size,1,none⟩=some (.int .i64 y1):=by simp[World.cell?,zg,aP]
   have q2:w4.cell? ⟨w.heap.size,2,none⟩=some (.int .i64 y2):=by simp[World.cell?,zg,aP]
   have q3:w4.cell? ⟨w.heap.size,3,none⟩=some (.int .i64 y3):=by simp[World.cell?,zg,aP]
   have q4:w4.cell? ⟨w.heap.size,4,none⟩=some (.string y4):=by simp[World.cell?,zg,aP]
   have q5:w4.cell? ⟨w.heap.size,5,none⟩=some (.slice Pm y5.length Pn):=by simp[World.cell?,zg,aP]
   have q6:w4.cell? ⟨w.heap.size,6,none⟩=some (.slice UB JE.length UC):=by simp[World.cell?,zg,aP]
   obtain⟨v5,L5,sE,cb2,fb2,hrow,hvo,hB,gu⟩:=fZ.more Pl qQ.own;obtain⟨Av5,cv5,rfl,_⟩:=bC hrow;have adO:b<w4.heap.size:=by omega
   have Nh:=aa hrow;have HV5:=aa hvo;have HM5:=aa gu;have HLL:=aa sE;have HL4:=aa hl4;have HO4:=aa Xb;have OB:=aa fZ.at_;have KR:=aa kR;have hL5:L5.length≤200000:=by omega
   clear f4 r4 e4 Xb hd4 fZ qQ hl4 zg Pl hrow hvo gu sE kR k4 ZV;go_wp2_with fail
   have HZ:Hid ((w4.alloc (.cells #[.int .i64 y0,.int .i64 y1,.int .i64 y2,.int .i64 y3,.string y4,.slice Pm y5.length Pn,.slice UB JE.length UC] 54)).drew.heap[w4.heap.size]? = some (.cells #[.int .i64 y0,.int .i64 y1,.int .i64 y2,.int .i64 y3,.string y4,.slice Pm y5.length Pn,.slice UB JE.length UC] 54 (0,0))):=aa (World.alloc_heap_new w4 _);go_region_law ((refine xN w4 _ (⟨y0,y1,y2,y3,y4,y5,JE⟩,.slice Pm y5.length Pn,.slice UB JE.length UC) (by rfl) _ _ (by rfl) b (.slice Av5 L5.length cv5) L5 (by rfl) Nh.out (fun i hi=>Below.heap_alloc w4 _ i hi) w4.heap.size rfl (by rfl) HZ.out (by intro u hu;simp[aP] at hu;rcases hu with rfl|rfl|rfl|rfl|rfl|rfl|rfl<;>rfl) (by omega) hB ⟨rfl,rfl,rfl,by simp[World.drew],fun k hk=>Below.heap_alloc w4 _ k hk⟩ ?_;intro g6 c6 w6 r6 f6 o6 l6;have Po:=HM5.out w6 g6 c6 r6 f6 o6 l6;have cb6:=Po.1;have fb6:=Po.2.1;have R6:=aa Po.2.2.1;have P6:=aa Po.2.2.2;have F6:=aa f6;have O6:=aa o6;clear r6 f6 o6 l6 Po))
   all_goals
    have Z8:w4.heap.size≤w6.heap.size:=F6.out.size;have adP:b<w6.heap.size:=by omega
    go_wp2
    go_ret2
    have hop :∀k,Op4 k→O4 k:=fun k hk=>(HO4.out k).2 (.inl hk)
    have UD :∀k,On4 k→O4 k:=fun k hk=>(HO4.out k).2 (.inr hk)
    have f7:ax O4 w4 (w6.setCell ⟨b,2,none⟩ (.slice (some ⟨g6,0,none⟩) (L5.length+1) c6)):=(F6.out.mono (O1:=O4) fun k hk=>hop k (HV5.out k hk).1).trans R6.out (fun k hk=>.inl (hk▸hop b OB.out))
    refine⟨RI.out.trans f7 E4.out,.inl ⟨T4.length,.mk ⟨y0,y1,y2,y3,y4,y5,y6⟩ s1,s2,fun k=>Op4 k∨On4 k∨k=g6,T4++[⟨y0,y1,y2,y3,y4,y5,JE⟩],xO (by have:=HLL.out;omega),P6.out,fun k hk=>?_,HL4.out.node ⟨y0,y1,y2,y3,y4,y5,y6⟩,KR.out⟩⟩
    rcases hk with hk|hk|rfl
    ·exact E4.out k (hop k hk)
    ·exact E4.out k (UD k hk)
    ·rcases O6.out with h|h
     ·exact E4.out _ (hop _ (HV5.out _ h).1)
     ·exact .inr (by have:=RI.out.size;omega)
  ·have M2:=aa hg2
   have HG:=aa (aL Uz.out.size hg1);have K4:=aa k4;clear f4 hg1 hg2 k4;go_wp2_with fail
   go_ret2
   exact⟨RI.out,.inr ⟨l4,_,_,rfl,⟨g',rfl,HG.out,M2.out⟩,K4.out⟩⟩
 ·subst h2
  have g1:(l == 0)=false:=aC.2 h1;have fa:ax (fun k=>Op k∨On k) w (w.alloc (.cells #[.int .i64 x0,.int .i64 l,.int .i64 x2,.int .i64 x3,.string x4,.slice An x5.length cn,.slice Ak ks.length ck] 54)):=(ax.refl _ _).alloc _
  have Uz:=aa fa;have P1:=aa (HP.out.below ((Below.refl _ _).alloc (ah _) (.cells #[.int .i64 x0,.int .i64 l,.int .i64 x2,.int .i64 x3,.string x4,.slice An x5.length cn,.slice Ak ks.length ck] 54)));have RL:=aa (GC (h:=⟨x0,l,x2,x3,x4,x5,x6⟩) P1.out HU.out HD3.out HL.out);clear fa h1 P1 HU;go_enter Tryz.func23,Tryz.ntmps23
  go_wp2_with fail
  generalize w.alloc (.cells #[.int .i64 x0,.int .i64 l,.int .i64 x2,.int .i64 x3,.string x4,.slice An x5.length cn,.slice Ak ks.length ck] 54)=w3 at *;refine(vn b w.heap.size _ T0 _ _ _ _ cO w3 RL.out (HPT.out.later Uz.out HEX.out) HK.out).mono ?_;rintro e w4 ⟨f4,h4⟩;have RI:=aa (Uz.out.trans f4 HEX.out);rcases h4 with ⟨s4,O4,rfl,r4,e4,k4,kR⟩ | ⟨l4,v4,rfl,⟨g',rfl,hg1,hg2⟩,k4⟩
  ·obtain⟨Op4,On4,T4,JE,Xb,hd4,fZ,qQ,hl4,ZV⟩:=r4.ex
   have E4:=aa (HEX.out.trans e4 Uz.out.size);obtain⟨nv4,kv4,zg,Pl⟩:=qQ.ex;obtain⟨Pm,Pn,rfl,_⟩:=bC Pl.names;obtain⟨UB,UC,rfl,_⟩:=bC Pl.kids;obtain⟨s0,s1,s2,s3⟩:=s4;obtain⟨y0,y1,y2,y3,y4,y5,y6⟩:=s0;dsimp only at fZ qQ zg Pl hl4 ZV kR k4 Pm Pn
   have adN:w.heap.size<w4.heap.size:=(qQ.own _ qQ.at_).2;have q0:w4.cell? ⟨w.heap.size,0,none⟩=some (.int .i64 y0):=by simp[World.cell?,zg,aP]
   have q1:w4.cell? ⟨w.heap.size,1,none⟩=some (.int .i64 y1):=by simp[World.cell?,zg,aP]
   have q2:w4.cell? ⟨w.heap.size,2,none⟩=some (.int .i64 y2):=by simp[World.cell?,zg,aP]
   have q3:w4.cell? ⟨w.heap.size,3,none⟩=some (.int .i64 y3):=by simp[World.cell?,zg,aP]
   have q4:w4.cell? ⟨w.heap.size,4,none⟩=some (.string y4):=by simp[World.cell?,zg,aP]
   have q5:w4.cell? ⟨w.heap.size,5,none⟩=some (.slice Pm y5.length Pn):=by simp[World.cell?,zg,aP]
   have q6:w4.cell? ⟨w.heap.size,6,none⟩=some (.slice UB JE.length UC):=by simp[World.cell?,zg,aP]
   obtain⟨v5,L5,sE,cb2,fb2,hrow,hvo,hB,gu⟩:=fZ.more Pl qQ.own;obtain⟨Av5,cv5,rfl,_⟩:=bC hrow;have adO:b<w4.heap.size:=by omega
   have Nh:=aa hrow;have HV5:=aa hvo;have HM5:=aa gu;have HLL:=aa sE;have HL4:=aa hl4;have HO4:=aa Xb;have OB:=aa fZ.at_;have KR:=aa kR;have hL5:L5.length≤200000:=by omega
   clear f4 r4 e4 Xb hd4 fZ qQ hl4 zg Pl hrow hvo gu sE kR k4 ZV;go_wp2_with fail
   have HZ:Hid ((w4.alloc (.cells #[.int .i64 y0,.int .i64 y1,.int .i64 y2,.int .i64 y3,.string y4,.slice Pm y5.length Pn,.slice UB JE.length UC] 54)).drew.heap[w4.heap.size]? = some (.cells #[.int .i64 y0,.int .i64 y1,.int .i64 y2,.int .i64 y3,.string y4,.slice Pm y5.length Pn,.slice UB JE.length UC] 54 (0,0))):=aa (World.alloc_heap_new w4 _);go_region_law ((refine xN w4 _ (⟨y0,y1,y2,y3,y4,y5,JE⟩,.slice Pm y5.length Pn,.slice UB JE.length UC) (by rfl) _ _ (by rfl) b (.slice Av5 L5.length cv5) L5 (by rfl) Nh.out (fun i hi=>Below.heap_alloc w4 _ i hi) w4.heap.size rfl (by rfl) HZ.out (by intro u hu;simp[aP] at hu;rcases hu with rfl|rfl|rfl|rfl|rfl|rfl|rfl<;>rfl) (by omega) hB ⟨rfl,rfl,rfl,by simp[World.drew],fun k hk=>Below.heap_alloc w4 _ k hk⟩ ?_;intro g6 c6 w6 r6 f6 o6 l6;have Po:=HM5.out w6 g6 c6 r6 f6 o6 l6;have cb6:=Po.1;have fb6:=Po.2.1;have R6:=aa Po.2.2.1;have P6:=aa Po.2.2.2;have F6:=aa f6;have O6:=aa o6;clear r6 f6 o6 l6 Po))
   all_goals
    have Z8:w4.heap.size≤w6.heap.size:=F6.out.size;have adP:b<w6.heap.size:=by omega
    go_wp2
    go_ret2
    have hop :∀k,Op4 k→O4 k:=fun k hk=>(HO4.out k).2 (.inl hk)
    have UD :∀k,On4 k→O4 k:=fun k hk=>(HO4.out k).2 (.inr hk)
    have f7:ax O4 w4 (w6.setCell ⟨b,2,none⟩ (.slice (some ⟨g6,0,none⟩) (L5.length+1) c6)):=(F6.out.mono (O1:=O4) fun k hk=>hop k (HV5.out k hk).1).trans R6.out (fun k hk=>.inl (hk▸hop b OB.out))
    refine⟨RI.out.trans f7 E4.out,.inl ⟨T4.length,.mk ⟨y0,y1,y2,y3,y4,y5,y6⟩ s1,s2,fun k=>Op4 k∨On4 k∨k=g6,T4++[⟨y0,y1,y2,y3,y4,y5,JE⟩],xO (by have:=HLL.out;omega),P6.out,fun k hk=>?_,HL4.out.node ⟨y0,y1,y2,y3,y4,y5,y6⟩,KR.out⟩⟩
    rcases hk with hk|hk|rfl
    ·exact E4.out k (hop k hk)
    ·exact E4.out k (UD k hk)
    ·rcases O6.out with h|h
     ·exact E4.out _ (hop _ (HV5.out _ h).1)
     ·exact .inr (by have:=RI.out.size;omega)
  ·have M2:=aa hg2
   have HG:=aa (aL Uz.out.size hg1);have K4:=aa k4;clear f4 hg1 hg2 k4;go_wp2_with fail
   go_ret2
   exact⟨RI.out,.inr ⟨l4,_,_,rfl,⟨g',rfl,HG.out,M2.out⟩,K4.out⟩⟩
theorem aF.sub {b:Nat} {O O':Nat→Prop} {T0:List Nd} {R:Except Int (Ast×List ak)→Prop} {w:World} {e:Ending} {w':World} (h:aF b O T0 R w e w') (hO :∀k,O k→O' k):aF b O' T0 R w e w':=by
 obtain⟨h1,h2⟩:=h;refine⟨h1.mono hO,h2.imp ?_ id⟩;rintro⟨p,a,ts,O2,T,e1,p1,x1,l1,k1⟩;exact⟨p,a,ts,O2,T,e1,p1,fun k hk=>(x1 k hk).imp (hO k) id,l1,k1⟩
theorem aF.after {b:Nat} {O:Nat→Prop} {T0:List Nd} {R:Except Int (Ast×List ak)→Prop} {w w1:World} {e:Ending} {w':World} (h:aF b O T0 R w1 e w') (hf:ax O w w1):aF b O T0 R w e w':=by
 obtain⟨h1,h2⟩:=h;refine⟨hf.trans h1 (Ext.refl _ _),h2.imp ?_ ?_⟩
 ·rintro⟨p,a,ts,O2,T,e1,p1,x1,l1,k1⟩
  exact⟨p,a,ts,O2,T,e1,p1,(Ext.refl O w).trans x1 hf.size,l1,k1⟩
 ·rintro⟨l,v,er,e1,⟨g,m1,m2,m3⟩,k⟩
  exact⟨l,v,er,e1,⟨g,m1,aL hf.size m2,m3⟩,k⟩
theorem aF.ret {b:Nat} {O:Nat→Prop} {T0:List Nd} {R:Except Int (Ast×List ak)→Prop} {w:World} {e:Ending} {w':World} (h:aF b O T0 R w e w') :∃v er,e=.returned (.tuple #[v,er]):=by
 rcases h.2 with ⟨p,_,_,_,_,e1,_⟩ | ⟨_,v,er,e1,_⟩
 ·exact⟨_,_,e1⟩
 ·exact⟨v,er,e1⟩
theorem zh (b:Nat) (O:Nat→Prop) (f1 f2:FuncId) (kF wu kE Dd:Array Value) (wp:iQ) (mf:List ak→Bool×List ak) (w:World) (h1:One w b O (.func (.func f1) kF wu) wp) (h2:ze w b O (.func (.func f2) kE Dd) mf) (hO :∀k,O k→k<w.heap.size) :
  Calls Tryz.prog 100 #[.func (.func f1) kF wu,.func (.func f2) kE Dd] w (iq b O (mj wp mf) w):=by
 have H1:=aa h1;have H2:=aa h2;have HO:=aa hO;clear h1 h2 hO;go_enter Tryz.func100,Tryz.ntmps100
 go_wp2
 go_ret
 refine⟨_,rfl,((Below.refl _ _).alloc (ah _) _).alloc (by simp) _,?_,_,_,_,rfl⟩
 intro W1 O1 T0 s n K E hf he hr hk;have fa:ax O w (w.alloc (.cells #[.func (.func f1) kF wu] 127)):=(ax.refl _ _).alloc _;have fb:=(ax.refl O (w.alloc (.cells #[.func (.func f1) kF wu] 127))).alloc (.cells #[.func (.func f2) kE Dd] 25);have e1:=eI.new w O HO.out #[.func (.func f1) kF wu] 127;have e2:=eI.new (w.alloc (.cells #[.func (.func f1) kF wu] 127)) O (fun k hk=>by have:=HO.out k hk;simp;omega) #[.func (.func f2) kE Dd] 25
 rw[aq] at e2;have o1:=(H1.out.later fa (Ext.refl _ _)).later fb (Ext.refl _ _);have o2:=(H2.out.later fa (Ext.refl _ _)).later fb (Ext.refl _ _);exact⟨133,_,_,rfl,enters_of Tryz.func133 (by kernel_rfl) rfl,Uv b n _ _ O1 T0 s K E _ _ wp mf W1 hr ((e1.later fb (Ext.refl _ _)).later hf he) (e2.later hf he) (o1.later hf he) (o2.later hf he) hk⟩
def nP:List ak→Bool×List ak:=fun ts=>(false,ts)
def dx (wp:iQ):bW:=mj wp nP
theorem UE (w:World) (b:Nat) (O:Nat→Prop):ze w b O (.func (.func 101) #[] #[]) nP:=by
 intro W1 O1 T ts _ _ hp;refine⟨101,_,_,rfl,enters_of Tryz.func101 (by kernel_rfl) rfl,?_⟩
 show Calls Tryz.prog 101 #[] W1 _
 have HP:=aa hp;clear hp;go_enter Tryz.func101,Tryz.ntmps101
 go_wp2
 go_ret
 exact⟨rfl,HP.out,ax.refl _ _⟩
theorem Ck (b:Nat) (O:Nat→Prop) (f1:FuncId) (kF wu:Array Value) (wp:iQ) (w:World) (h1:One w b O (.func (.func f1) kF wu) wp) (hO :∀k,O k→k<w.heap.size) :
  Calls Tryz.prog 58 #[.func (.func f1) kF wu] w (iq b O (dx wp) w):=by
 have HC:=aa (zh b O f1 101 kF wu #[] #[] wp nP w h1 (UE w b O) hO);clear h1 hO;go_enter Tryz.func58,Tryz.ntmps58
 go_wp2_with fail
 refine HC.out.mono ?_;rintro e w1 ⟨v,rfl,h2⟩;have H2:=aa h2;clear h2;go_wp2_with fail
 go_ret
 exact⟨_,rfl,H2.out⟩
def dR (x:Nd) (cO:List bW):iQ:=fun ts n K E=>∃t r l,ts=t::r∧((x.line=0∧l=t.2.1)∨(x.line≠0∧l=x.line))∧aJ cO ⟨{ x with line:=l},[],ts,n⟩ (fun s=>s.n≤200000∧K (.mk s.h s.xs) s.ts) E
def zE (W:World) (b:Nat) (xs:List ByteArray) (nv:Value):Prop:=W.ownsRow (b+1) 9 1 nv xs.length (xs.map Value.string)∧∀g,nv.ownBlock=some g→Gr W g∧xs≠[]
theorem zE.later {W W':World} {b:Nat} {O:Nat→Prop} {xs:List ByteArray} {nv:Value} (h:zE W b xs nv) (hf:ax O W W'):zE W' b xs nv:=⟨dk h.1 fun g hg=>hf.str g (h.2 g hg).1,fun g hg=>⟨hf.keeps (h.2 g hg).1,(h.2 g hg).2⟩⟩
theorem zE.nil (W:World) (b:Nat):zE W b [] (.slice none 0 0):=⟨World.ownsRow_nil _ _ _ _,fun g hg=>by simp[Value.ownBlock] at hg⟩
theorem zE.nd {W:World} {b:Nat} {x:Nd} {nv:Value} (h:zE W b x.names nv):jO W b (fun _=>False) { x with kids:=[]} nv (.slice none 0 0):=⟨h.1,World.ownsRow_nil _ _ _ _,fun g hg=>.inr (h.2 g hg).1,fun g hg=>(h.2 g hg).2,fun g hg=>by simp[Value.ownBlock] at hg⟩
theorem UF (b g1 g2 g3:Nat) (O:Nat→Prop) (ts:List ak) (T:List Nd) (x:Nd) (nv pv:Value) (cO:List bW) (K:Ast→List ak→Prop) (E:Int→Prop) (w:World) (hp:PS w b O ts T) (hn:zE w b x.names nv)
  (b1:eI w O g1 #[.pointer (some ⟨b,0,none⟩)] 117) (b2:eI w O g2 (aP (x,nv,.slice none 0 0)).toArray 54) (b3:eI w O g3 #[pv] 118) (GD:aM w b O pv cO) (hk:dR x cO ts T.length K E) :
  Calls Tryz.prog 97 #[.pointer (some ⟨g1,0,none⟩),.pointer (some ⟨g2,0,none⟩),.pointer (some ⟨g3,0,none⟩)] w (aF b O T (RK K E) w):=by
 obtain⟨t,r,l,rfl,hl,hk⟩:=hk;obtain⟨An,cn,rfl,_⟩:=bC hn.1;have HN:=aa (zf b O (fun _=>False) t r T T x l [] [] _ (.slice none 0 0) pv cO (RK K E) w hp hn.nd (fun _ _ h=>h) (fun _ h=>h.elim) (eA.nil T) (GD.later (ax.refl _ _) (fun k hk=>.inl (hk.elim id False.elim))) hl hk)
 have c1:=b1.cell 0;have c3:=b3.cell 0;obtain⟨x0,x1,x2,x3,x4,x5,x6⟩:=x;have q0:w.cell? ⟨g2,0,none⟩=some (.int .i64 x0):=b2.cell 0;have q1:w.cell? ⟨g2,1,none⟩=some (.int .i64 x1):=b2.cell 1;have q2:w.cell? ⟨g2,2,none⟩=some (.int .i64 x2):=b2.cell 2;have q3:w.cell? ⟨g2,3,none⟩=some (.int .i64 x3):=b2.cell 3;have q4:w.cell? ⟨g2,4,none⟩=some (.string x4):=b2.cell 4;have q5:w.cell? ⟨g2,5,none⟩=some (.slice An x5.length cn):=b2.cell 5;have q6:w.cell? ⟨g2,6,none⟩=some (.slice none 0 0):=b2.cell 6;unfold da at HN;dsimp only at HN
 clear hp hn b1 b2 b3 GD hl hk;go_enter Tryz.func97,Tryz.ntmps97
 go_wp2_with fail
 refine HN.out.mono ?_;intro e w1 h1;obtain⟨v,er,rfl⟩:=h1.ret;have H1:=aa (h1.sub (O':=O) fun k hk=>hk.elim id False.elim)
 clear h1 c1 c3 q0 q1 q2 q3 q4 q5 q6;go_wp2_with fail
 go_ret2
 exact H1.out
theorem rY (b:Nat) (O:Nat→Prop) (x:Nd) (nv pv:Value) (cO:List bW) (w:World) (hn:zE w b x.names nv) (GD:aM w b O pv cO) (hO :∀k,O k→k<w.heap.size) :
  Calls Tryz.prog 54 #[.pointer (some ⟨b,0,none⟩),da x nv (.slice none 0 0),pv] w (iq b O (dx (dR x cO)) w):=by
 obtain⟨An,cn,rfl,_⟩:=bC hn.1;obtain⟨A,m,rfl⟩:=GD.form;obtain⟨x0,x1,x2,x3,x4,x5,x6⟩:=x;dsimp only at hn ⊢
 obtain⟨NV,hNV⟩ :∃NV,NV=(.slice An x5.length cn:Value):=⟨_,rfl⟩;obtain⟨w1,ec⟩ :∃w1,w1=w.alloc (.cells #[.pointer (some ⟨b,0,none⟩)] 117):=⟨_,rfl⟩;obtain⟨w2,hw2⟩ :∃w2,w2=w1.alloc (.cells #[.int .i64 x0,.int .i64 x1,.int .i64 x2,.int .i64 x3,.string x4,.slice An x5.length cn,.slice none 0 0] 54):=⟨_,rfl⟩;obtain⟨w3,hw3⟩ :∃w3,w3=w2.alloc (.cells #[.slice A m m] 118):=⟨_,rfl⟩;have f1:ax O w w1:=by rw[ec];exact(ax.refl _ _).alloc _
 have f2:ax O w1 w2:=by rw[hw2];exact(ax.refl _ _).alloc _
 have f3:ax O w2 w3:=by rw[hw3];exact(ax.refl _ _).alloc _
 have z1:w1.heap.size=w.heap.size+1:=by rw[ec,aq]
 have z2:w2.heap.size=w.heap.size+1+1:=by rw[hw2,aq,z1]
 have b1:eI w1 O w.heap.size #[.pointer (some ⟨b,0,none⟩)] 117:=by rw[ec];exact eI.new w O hO _ _
 have b2:eI w2 O (w.heap.size+1) #[.int .i64 x0,.int .i64 x1,.int .i64 x2,.int .i64 x3,.string x4,.slice An x5.length cn,.slice none 0 0] 54:=by rw[hw2,←z1];exact eI.new w1 O (fun k hk=>by have:=hO k hk;omega) _ _
 have b3:eI w3 O (w.heap.size+1+1) #[.slice A m m] 118:=by rw[hw3,←z2];exact eI.new w2 O (fun k hk=>by have:=hO k hk;omega) _ _
 have f12:=f1.trans f2 (Ext.refl _ _);have f13:=f12.trans f3 (Ext.refl _ _);have Cl:One w3 b O (.func (.func 97) #[] #[.pointer (some ⟨w.heap.size,0,none⟩),.pointer (some ⟨w.heap.size+1,0,none⟩),.pointer (some ⟨w.heap.size+1+1,0,none⟩)]) (dR ⟨x0,x1,x2,x3,x4,x5,x6⟩ cO):=by
  intro W1 O1 T ts K E hf he hp hk;refine⟨97,_,_,rfl,enters_of Tryz.func97 (by kernel_rfl) rfl,?_⟩
  exact UF b _ _ _ O1 ts T ⟨x0,x1,x2,x3,x4,x5,x6⟩ _ _ cO K E W1 hp ((hn.later f13).later hf) (((b1.later f2 (Ext.refl _ _)).later f3 (Ext.refl _ _)).later hf he) ((b2.later f3 (Ext.refl _ _)).later hf he) (b3.later hf he) ((GD.later f13 (Ext.refl _ _)).later hf he) hk
 have HK:=aa (Ck b O 97 _ _ _ w3 Cl fun k hk=>by have:=hO k hk;have:=f13.size;omega)
 have HF:=aa f13;have HB:Hid (Below w.heap.size w w3):=aa (by
  rw[hw3,hw2,ec];exact(((Below.refl _ _).alloc (ah _) _).alloc (by simp) _).alloc (by simp;omega) _)
 rw[hw3,hw2,ec] at HK HB;clear hn GD hO hNV ec hw2 hw3 f1 f2 f3 z1 z2 b1 b2 b3 f12 f13 Cl HF;unfold da;dsimp only
 go_enter Tryz.func54,Tryz.ntmps54
 go_wp2_with fail
 refine HK.out.mono ?_;rintro e w1 ⟨v,rfl,b1,h2⟩;have H2:=aa h2;have B1:=aa (ay HB.out b1);clear h2 b1;go_wp2_with fail
 go_ret
 exact⟨_,rfl,B1.out,H2.out⟩
abbrev jR (W:World) (b:Nat) (v:Value) (xs:List ByteArray):Prop:=W.ownsRow (b+1) 9 1 v xs.length (xs.map Value.string)
theorem Pp:(Tryz.prog.info? 9).map (fun i=>(i.zero,i.size,i.bytes))=some (some (.string ⟨#[]⟩),1,16):=by kernel_rfl
theorem Pq {W:World} {B B' e s n:Nat} {v:Value} {xs:List Value} (h:W.ownsRow B e s v n xs) (hB:B'≤B):W.ownsRow B' e s v n xs:=by
 refine⟨h.1,?_⟩;rcases h.2 with h2 | ⟨g,cap,cur,e1,h2,rest⟩
 ·exact .inl h2
 ·exact .inr ⟨g,cap,cur,e1,aL hB h2,rest⟩
theorem ax.GF {O:Nat→Prop} {w w':World} (h:w.grownBy w' none):ax O w w':=ax.af ⟨h.os,h.tape,h.output,h.size,fun k hk=>h.block k hk (by simp)⟩
theorem Pr (ty:TypeId) (w:World) (b:Nat) (v xv:Value) (ls ns:List ByteArray) (hown:jR w b v ls) (hnz :∀g,v.ownBlock=some g→ls≠[]) (hx:jR w b xv ns) (hne:ns≠[]) (h1:ls.length≤1000000) (h2:ns.length≤1000000) (hB:b+1≤w.heap.size) :
  ∃g c w',(Builtin.append_ #[52,52] ty #[v,xv]).run Tryz.prog w=.ok (.slice (some ⟨g,0,none⟩) (ls.length+ns.length) c) w'∧jR w' b (.slice (some ⟨g,0,none⟩) (ls.length+ns.length) c) (ls++ns)∧ax (fun k=>v.ownBlock=some k) w w'∧((v.ownBlock=some g∧¬ Gr w g)∨w.heap.size≤g)∧g<w'.heap.size:=by
 obtain⟨i0,mJ,hz0,hz1,hz2⟩:=info_parts Pp;have hm:0<ns.length:=wE.2 hne;obtain⟨gx,cx,rfl,_,_⟩:=hx.form hm;have vP :∀j u,(ns.map Value.string)[j]? = some u→w.cell? ((⟨gx,0,none⟩:Addr).add j)=some u:=fun j u hj=>hx.cells (g:=gx) rfl j u hj
 have hoc :∀u∈ns.map Value.string,u.oneCell'=true:=fun u hu=>by obtain⟨z,_,rfl⟩:=jB.1 hu;rfl
 have key :∀v' w',w'.ownsRow w.heap.size 9 1 v' (ls.length+ns.length) (ls.map Value.string++ns.map Value.string)→w.grownBy w' none→∃g c,v'=.slice (some ⟨g,0,none⟩) (ls.length+ns.length) c∧jR w' b (.slice (some ⟨g,0,none⟩) (ls.length+ns.length) c) (ls++ns)∧w.heap.size≤g∧g<w'.heap.size:=fun v' w' r1 r2=>by
  obtain⟨g,c,rfl,h3,h4⟩:=r1.form (by omega)
  refine⟨g,c,rfl,?_,h3,h4⟩;unfold jR;rw[bY,kN];exact Pq r1 (by omega)
 rcases hown.2 with ⟨rfl,hn⟩ | ⟨g0,cap,cur,rfl,hg0,hh,hnc,_,hcs,_⟩
 ·have SD:ls=[]:=oG hn
  subst SD;obtain⟨v',w',hrun,r1,r2,_⟩:=run_append_own (P:=Tryz.prog) w w.heap.size 52 ty 9 i0 (.string ⟨#[]⟩) 1 16 Tryz.underlying52 mJ hz0 hz1 hz2 rfl (by omega) (.slice none 0 0) 0 [] (World.ownsRow_nil w _ 9 1) ⟨gx,0,none⟩ ns.length cx (ns.map Value.string) (by simp) vP hoc (by unfold maxLen;omega) (by omega) (ah _)
  obtain⟨g,c,rfl,h3,h4,h5⟩:=key v' w' (by simpa using r1) (by simpa[Value.ownBlock] using r2)
  exact⟨g,c,w',hrun,h3,ax.GF (by simpa[Value.ownBlock] using r2),.inr h4,h5⟩
 ·by_cases hroom:ls.length+ns.length≤cap
  ·have hl0:0<ls.length:=wE.2 (hnz g0 rfl)
   have NI:¬ Gr w g0:=fun⟨s,f,hs⟩=>by
    rw[hh] at hs;injection hs with hs;injection hs with hs;rw[hs] at hcs;simp at hcs;omega
   obtain⟨g,c,w',hrun,r1,r2,r3,r4⟩:=run_append_lies (P:=Tryz.prog) w 52 ty (b+1) 9 i0 (.string ⟨#[]⟩) 1 16 Tryz.underlying52 mJ hz0 hz1 hz2 rfl (by omega) _ ls.length (ls.map Value.string) hown ⟨gx,0,none⟩ ns.length cx (ns.map Value.string) (by simp) vP hoc hm (by unfold maxLen;omega) (by omega) hB w.heap.size rfl
   refine⟨g,c,w',hrun,?_,⟨r2.os,r2.tape,r2.output,r2.size,fun k hk hO=>r2.block k hk (fun e=>hO e.symm),fun k hk=>r2.block k hk.lt (fun e=>by
    have:k=g0:=by simpa[Value.ownBlock] using e
    exact NI (this▸hk))⟩,?_,r4⟩
   ·unfold jR
    rw[bY,kN];exact r1
   ·rcases r3 with r3|r3
    ·have:g0=g:=by simpa[Value.ownBlock] using r3
     exact .inl ⟨r3,this▸NI⟩
    ·exact .inr (by omega)
  ·obtain⟨v',w',hrun,r1,r2⟩:=run_append_arg_grows (P:=Tryz.prog) w 52 ty 9 i0 (.string ⟨#[]⟩) 1 16 Tryz.underlying52 mJ hz0 hz1 hz2 rfl (by omega) ⟨g0,0,none⟩ ls.length cap (ls.map Value.string) (by simp) (fun j u hj=>hown.cells (g:=g0) rfl j u hj) ⟨gx,0,none⟩ ns.length cx (ns.map Value.string) (by simp) vP (by omega) (by unfold maxLen;omega) (by omega)
   obtain⟨g,c,rfl,h3,h4,h5⟩:=key v' w' r1 r2;exact⟨g,c,w',hrun,h3,ax.GF r2,.inr h4,h5⟩
theorem GG {o:Oper} {a:Act} {K:Act→World→Prop} {Q:Exit→Act→World→Prop} (w:World) (s x:Operand)
  (ho:o.op=.call { callee:=.builtin .append,args:=#[s,x],argTypes:=#[52,52]}) (b:Nat) (v xv:Value) (ls ns:List ByteArray) (hs:a.eval s=v) (hown:jR w b v ls) (hnz :∀g,v.ownBlock=some g→ls≠[]) (hx:a.eval x=xv) (hxr:jR w b xv ns) (hne:ns≠[]) (h1:ls.length≤1000000) (h2:ns.length≤1000000) (hB:b+1≤w.heap.size)
  (h :∀g c w',jR w' b (.slice (some ⟨g,0,none⟩) (ls.length+ns.length) c) (ls++ns)→ax (fun k=>v.ownBlock=some k) w w'→((v.ownBlock=some g∧¬ Gr w g)∨w.heap.size≤g)→g<w'.heap.size→K (a.put o.dst (.slice (some ⟨g,0,none⟩) (ls.length+ns.length) c)) w'):o.wp Tryz.prog a w K Q:=by
 obtain⟨g,c,w',hr,r1,r2,r3,r4⟩:=Pr o.type w b v xv ls ns hown hnz hxr hne h1 h2 hB;unfold Oper.wp execOp;simp only[ho,resolve,invoke,builtin,Sem.run_bind,Sem.run_pure,Result.andThen_ok,Ln,dV,EZ,hs,hx,hr];exact h g c w' r1 r2 r3 r4
theorem Cm {ops:Array Oper} {rest:List Oper} {o:Oper} {a:Act} {Q:Exit→Act→World→Prop} (w:World) (hgd:o.guard=none) (s x:Operand)
  (ho:o.op=.call { callee:=.builtin .append,args:=#[s,x],argTypes:=#[52,52]}) (b:Nat) (v xv:Value) (ls ns:List ByteArray) (hs:a.eval s=v) (hown:jR w b v ls) (hnz :∀g,v.ownBlock=some g→ls≠[]) (hx:a.eval x=xv) (hxr:jR w b xv ns) (hne:ns≠[]) (h1:ls.length≤1000000) (h2:ns.length≤1000000) (hB:b+1≤w.heap.size)
  (h :∀g c w',jR w' b (.slice (some ⟨g,0,none⟩) (ls.length+ns.length) c) (ls++ns)→ax (fun k=>v.ownBlock=some k) w w'→((v.ownBlock=some g∧¬ Gr w g)∨w.heap.size≤g)→g<w'.heap.size→wpList Tryz.prog ops Q rest (a.put o.dst (.slice (some ⟨g,0,none⟩) (ls.length+ns.length) c)) w'):wpList Tryz.prog ops Q (o::rest) a w :=
 wpList_plain hgd fun _ hK=>GG w s x ho b v xv ls ns hs hown hnz hx hxr hne h1 h2 hB fun g c w' r1 r2 r3 r4=>hK _ _ (h g c w' r1 r2 r3 r4)
theorem JF {ops:Array Oper} {o:Oper} {a:Act} {K:Act→World→Prop} {Q:Exit→Act→World→Prop} {E:Prop} (w:World) (hgd:o.guard=none) (s x:Operand)
  (ho:o.op=.call { callee:=.builtin .append,args:=#[s,x],argTypes:=#[52,52]}) (b:Nat) (v xv:Value) (ls ns:List ByteArray) (hs:a.eval s=v) (hown:jR w b v ls) (hnz :∀g,v.ownBlock=some g→ls≠[]) (hx:a.eval x=xv) (hxr:jR w b xv ns) (hne:ns≠[]) (h1:ls.length≤1000000) (h2:ns.length≤1000000) (hB:b+1≤w.heap.size)
  (h :∀g c w',jR w' b (.slice (some ⟨g,0,none⟩) (ls.length+ns.length) c) (ls++ns)→ax (fun k=>v.ownBlock=some k) w w'→((v.ownBlock=some g∧¬ Gr w g)∨w.heap.size≤g)→g<w'.heap.size→K (a.put o.dst (.slice (some ⟨g,0,none⟩) (ls.length+ns.length) c)) w') :
  if Region.wanted o (yielded ops a.tmps)=true then Oper.wp Tryz.prog o a w K Q else E:=by
 have hw:Region.wanted o (yielded ops a.tmps)=true:=by simp[Region.wanted,hgd]
 rw[ai hw];exact GG w s x ho b v xv ls ns hs hown hnz hx hxr hne h1 h2 hB h
abbrev NmF:=Int×List ak→Bool×Int×List ak
def Ps (W:World) (b n:Nat) (Op On:Nat→Prop) (v:Value) (mf:NmF):Prop :=
 ∀W1 x ts T,ax (fun k=>k=b∨k=n) W W1→PS W1 b Op ts T→NU W1 b n On x →
  Gs v #[] W1 fun e w'=>e=.returned (.bool (mf (x.num,ts)).1)∧PS w' b Op (mf (x.num,ts)).2.2 T∧NU w' b n On { x with num:=(mf (x.num,ts)).2.1}∧ax (fun k=>k=b∨k=n) W1 w'
def vq (mf:NmF):Nat→Int→List ak→List ByteArray→(Int→List ByteArray→List ak→Prop)→(Int→Prop)→Prop
 | 0,_,_,_,_,_=>False
 | k+1,m,ts,acc,K,E=>∃t r,ts=t::r∧(t.1≠1→E t.2.1)∧(t.1=1→((mf (m,r)).1=true→vq mf k (mf (m,r)).2.1 (mf (m,r)).2.2 (acc++[bx t.2.2.2]) K E)∧((mf (m,r)).1=false→K (mf (m,r)).2.1 (acc++[bx t.2.2.2]) (mf (m,r)).2.2))
def UG (b n:Nat) (Op On:Nat→Prop) (x:Nd) (T:List Nd) (K:Int→List ByteArray→List ak→Prop) (E:Int→Prop) (w:World) (e:Ending) (w':World):Prop :=
 ax (fun k=>k=b∨k=n) w w'∧∃m,NU w' b n On { x with num:=m}∧((∃v xs ts,e=.returned (.tuple #[v,.nilIface])∧PS w' b Op ts T∧jR w' b v xs∧(∀g,v.ownBlock=some g→w.heap.size≤g)∧xs≠[]∧xs.length≤100000∧K m xs ts) ∨
  (∃l er,e=.returned (.tuple #[.slice none 0 0,er])∧Uj w.heap.size w' er l∧E l))
theorem xP (b n:Nat) (Op On:Nat→Prop) (x:Nd) (ts:List ak) (T:List Nd) (more:Value) (mf:NmF) (K:Int→List ByteArray→List ak→Prop) (E:Int→Prop) (m:Nat) (hm:m≤100000) (w:World) (hp:PS w b Op ts T) (hn:NU w b n On x) (hd :∀k,Op k→¬ On k) (h2:Ps w b n Op On more mf) (hk:vq mf m x.num ts [] K E) :
  Calls Tryz.prog 138 #[.func (.func 135) #[.pointer (some ⟨b,0,none⟩)] #[],more] w (UG b n Op On x T K E w):=by
 have HP:=aa hp;have HN:=aa hn;have H2:=aa h2;have HK:=aa hk;have HD:=aa hd;have pj:=(hp.own b hp.at_).2;have Ds:=hn.own n hn.at_;clear hp hn h2 hk hd;go_enter Tryz.func138,Tryz.ntmps138
 go_wp2_with fail
 go_loopg [6] m (fun z tv wr=>∃(nu:Int) (xs:List ByteArray) (tr:List ak),PS wr b Op tr T∧NU wr b n On { x with num:=nu}∧ax (fun k=>k=b∨k=n) w wr∧jR wr b tv xs∧(∀g,tv.ownBlock=some g→w.heap.size≤g∧¬ Op g∧¬ On g∧xs≠[])∧xs.length+z≤m∧vq mf z nu tr xs K E)
 case atStart=>exact⟨x.num,[],ts,HP.out,HN.out,ax.refl _ _,World.ownsRow_nil _ _ _ _,fun g hg=>by simp[Value.ownBlock] at hg,by simp,HK.out⟩
 case round =>
  obtain⟨nu,xs,tr,lH,xc,kQ,hr1,ho1,hz,iR⟩:=hrel;have KK:=aa xc;have fB:=aa kQ;have nm:=aa hr1;have Uy:=aa ho1;cases gk with
  | zero=>exact iR.elim
  | succ z =>
   obtain⟨t,r,rfl,pn,ri⟩:=iR;have HC:=aa (Ea b Op t r T wr lH);obtain⟨f2,kE,Dd,rfl,Z4,_⟩:=H2.out wr _ _ T kQ lH xc;have adQ:=aa pn;have Ih:=aa ri;have hbo :∀g,u6.ownBlock=some g→g≠b:=fun g hg e=>by have:=(hr1.lt g hg).1;omega
   have Bl:=aa lH;clear lH xc kQ hr1 ho1 pn ri;unfold Enters at Z4;go_wp2_with fail
   refine HC.out.mono ?_;rintro e w2 ⟨mC,h2⟩;have rL:ax (fun k=>k=b∨k=n) w w2:=fB.out.trans mC (fun k hk=>.inl (.inl hk))
   have F2:=aa rL;have N2:=aa (KK.out.kept mC fun k hk e=>HD.out b HP.out.at_ (e▸hk))
   rcases h2 with ⟨g1,rfl,p2⟩ | ⟨g1,er,rfl,mis⟩
   ·have hrow2:jR w2 b u6 xs:=dk nm.out fun g hg=>mC.block g (nm.out.lt g hg).2 (hbo g hg)
    have v8:=aa hrow2;have P2:=aa p2;have ri:=Ih.out g1;have abZ:=aa ri;have yo:b+1≤w2.heap.size:=by have:=(p2.own b p2.at_).2;omega
    have hsw:w.heap.size≤w2.heap.size:=rL.size;obtain⟨S,hS⟩ :∃S,S=bx t.2.2.2:=⟨_,rfl⟩;rw[←hS];have HS:=aa hS;clear mC hrow2 p2 ri rL hS hbo;go_wp2_with (at_builtin;refine Cm _ rfl _ _ rfl b u6 (.slice (some ⟨w2.heap.size,0,none⟩) 1 1) xs [S] rfl (v8.out.alloc _) (fun g hg=>(Uy.out g hg).2.2.2) rfl ⟨rfl,.inr ⟨w2.heap.size,1,#[.string S],rfl,yo,World.alloc_heap_new w2 _,by simp,by unfold maxLen;omega,rfl,rfl⟩⟩ (by simp) (by omega) (by simp) (by simp;omega) ?_;intro g4 c4 w4 h4 f4 o4 l4;have H4:=aa h4;have F4:=aa f4;have O4:=aa o4;have L4:=aa l4;clear h4 f4 o4 l4)
    have fw4:ax (fun k=>u6.ownBlock=some k) w2 w4:=((ax.refl _ w2).alloc (.cells #[.string S] 9)).trans F4.out (Ext.refl _ _)
    have p4:PS w4 b Op r T:=P2.out.kept fw4 (fun k hk e=>(Uy.out k e).2.1 hk) fun k e=>by have:=(v8.out.lt k e).1;omega
    have n4:NU w4 b n On { x with num:=nu}:=N2.out.kept fw4 fun k hk e=>(Uy.out k e).2.2.1 hk
    have f5:ax (fun k=>k=b∨k=n) w w4:=F2.out.trans (O1:=fun k=>u6.ownBlock=some k) fw4 fun k hk=>.inr (Uy.out k hk).1
    have P4:=aa p4;have N4:=aa n4;have F5:=aa f5;obtain⟨_,_,_,e2,_,pF⟩:=H2.out w4 _ _ T f5 p4 n4;injection e2 with e3 e4 e5;injection e3 with e3;subst e3 e4 e5;rw[show kE++(#[]:Array Value)=kE by simp] at pF
    have rW:=aa pF;obtain⟨br,hbr⟩ :∃br,br=(mf (nu,r)).1:=⟨_,rfl⟩;dsimp only at rW
    rw[←hbr] at rW;have pP:=aa hbr;clear p4 n4 f5 pF hbr fw4;refine rW.out.mono ?_;rintro e w5 ⟨rfl,p5,n5,Z5⟩;have ho5:w.heap.size≤g4∧¬ Op g4∧¬ On g4:=by
     rcases O4.out with ⟨h,_⟩|h
     ·exact⟨(Uy.out g4 h).1,(Uy.out g4 h).2.1,(Uy.out g4 h).2.2.1⟩
     ·have h':w2.heap.size≤g4:=by simp at h;omega
      exact⟨by omega,fun h2=>by have:=(P2.out.own g4 h2).2;omega,fun h2=>by have:=(N2.out.own g4 h2).2;omega⟩
    have HO5:=aa ho5;have Nh:=aa (show jR w5 b (.slice (some ⟨g4,0,none⟩) (xs.length+1) c4) (xs++[S]) from dk H4.out fun g hg=>by
     have vL:g=g4:=by simpa[Value.ownBlock] using hg.symm
     subst vL;refine Z5.block g L4.out (fun e=>?_)
     rcases e with e|e
     ·exact ho5.2.1 (e▸HP.out.at_)
     ·exact ho5.2.2 (e▸HN.out.at_))
    have P5:=aa p5;have N5:=aa n5;have F6:=aa (F5.out.trans Z5 (Ext.refl _ _));clear p5 n5 Z5 ho5;cases br with
    | true =>
     go_wp2_with fail
     go_roundg z
     case measure=>omega
     case rel=>exact⟨_,xs++[S],_,P5.out,N5.out,F6.out,Nh.out,fun g hg=>by
      have vL:g=g4:=by simpa[Value.ownBlock] using hg.symm
      subst vL;exact⟨HO5.out.1,HO5.out.2.1,HO5.out.2.2,by simp⟩,by simp;omega,by
      have:=abZ.out.1 pP.out.symm;rw[←HS.out] at this;exact this⟩
    | false =>
     go_wp2_with fail
     go_ret2
     refine⟨F6.out,_,N5.out,.inl ⟨_,xs++[S],_,rfl,P5.out,Nh.out,fun g hg=>?_,by simp,by simp;omega,?_⟩⟩
     ·have vL:g=g4:=by simpa[Value.ownBlock] using hg.symm
      subst vL;exact HO5.out.1
     ·have:=abZ.out.2 pP.out.symm
      rw[←HS.out] at this;exact this
   ·obtain⟨g',rfl,hg1,hg2⟩:=mis
    have M2:=aa hg2;have HG:=aa (aL fB.out.size hg1);have HE:=aa (adQ.out g1);clear mC hg1 hg2 rL hbo;go_wp2_with fail
    go_ret2
    exact⟨F2.out,nu,N2.out,.inr ⟨_,_,rfl,⟨g',rfl,HG.out,M2.out⟩,HE.out⟩⟩
end Go.Proofs.YtodmcdfeldkocaaGreatDoor
namespace Go.Proofs.YtodmcdfeldkocaaGreatDoor
open Go.RowKit
def Gw {α:Type} (g:GL α) (ts:List ak) (K:α→List ak→Prop) (E:Int→Prop):Prop:=(∀a aA,PL g ts (.ok (a,aA))→K a aA)∧(∀l,PL g ts (.error l)→E l)
section
variable {α:Type} {K:α→List ak→Prop} {E:Int→Prop}
theorem Gw.tok {f:ak→GL α} {t:ak} {ts:List ak} (h:Gw (.tok f) (t::ts) K E):Gw (f t) ts K E:=⟨fun a aA p=>h.1 a aA (.tok p),fun l p=>h.2 l (.tok p)⟩
theorem Gw.look {f:ak→GL α} {t:ak} {ts:List ak} (h:Gw (.look f) (t::ts) K E):Gw (f t) (t::ts) K E:=⟨fun a aA p=>h.1 a aA (.look p),fun l p=>h.2 l (.look p)⟩
theorem Gw.ret {a:α} {ts:List ak} (h:Gw (.ret a) ts K E):K a ts:=h.1 a ts .ret
theorem Gw.bad {t:ak} {ts:List ak} (h:Gw (.bad:GL α) (t::ts) K E):E t.2.1:=h.2 _ .bad
theorem Gw.call {n:NT} {k:VT n→GL α} {ts:List ak} (h:Gw (.call n k) ts K E):Gw (aT n) ts (fun v aA=>za n ts.length v aA.length∧Gw (k v) aA K E) E :=
 ⟨fun _ _ p=>⟨p.holds abV,fun a ir q=>h.1 a ir (.call p q),fun l q=>h.2 l (.call p q)⟩,fun l p=>h.2 l (.iB p)⟩
theorem Gw.mono {g:GL α} {ts:List ak} {K':α→List ak→Prop} (h:Gw g ts K E) (hk :∀a aA,PL g ts (.ok (a,aA))→K a aA→K' a aA):Gw g ts K' E:=⟨fun a aA p=>hk a aA p (h.1 a aA p),h.2⟩
theorem Gw.pos {c:Prop} [Decidable c] {g g':GL α} {ts:List ak} (h:Gw (if c then g else g') ts K E) (hc:c):Gw g ts K E:=by rwa[ai hc] at h
theorem Gw.neg {c:Prop} [Decidable c] {g g':GL α} {ts:List ak} (h:Gw (if c then g else g') ts K E) (hc:¬ c):Gw g' ts K E:=by rwa[ab hc] at h
theorem Gw.want {x:List UInt8} {k:ak→GL α} {t:ak} {ts:List ak} (h:Gw (want x k) (t::ts) K E):(av x t=true→Gw (k t) ts K E)∧(av x t=false→E t.2.1) :=
 ⟨fun hw=>(h.look.pos hw).tok,fun hw=>(h.look.neg (by simp[hw])).bad⟩
theorem Gw.name {k:ak→GL α} {t:ak} {ts:List ak} (h:Gw (name k) (t::ts) K E):(t.1=1→Gw (k t) ts K E)∧(t.1≠1→E t.2.1) :=
 ⟨fun hw=>(h.look.pos hw).tok,fun hw=>(h.look.neg hw).bad⟩
theorem Gw.take {x:List UInt8} {a b:GL α} {t:ak} {ts:List ak} (h:Gw (take x a b) (t::ts) K E):(av x t=true→Gw a ts K E)∧(av x t=false→Gw b (t::ts) K E) :=
 ⟨fun hw=>(h.look.pos hw).tok,fun hw=>h.look.neg (by simp[hw])⟩
theorem Gw.self (g:GL α) (ts:List ak):Gw g ts (fun a aA=>PL g ts (.ok (a,aA))) (fun l=>PL g ts (.error l)):=⟨fun _ _ h=>h,fun _ h=>h⟩
end
def Lin (ts:List ak):Prop:=∀t∈ts,t.2.1≠0∧(t.1=2→t.2.2.2≠[61])
structure Wf (ts:List ak):Prop where
 fin:Fin ts
 zF:Lin ts
theorem Wf.tail {t:ak} {ts:List ak} (h:Wf (t::ts)) (ht:t.1≠0):Wf ts:=⟨h.fin.tail ht,fun u hu=>h.zF u (bO _ hu)⟩
theorem PL.wf {n:NT} {ts aA:List ak} {v:VT n} (h:PL (aT n) ts (.ok (v,aA))) (hf:Wf ts):Wf aA:=by
 refine⟨h.fin hf.fin,?_⟩;obtain⟨c,rfl⟩:=h.tail v aA rfl;exact fun u hu=>hf.zF u (iE _ hu)
def sR (N:Nat) (g:GL Ast):iQ:=fun ts n K E=>ts.length<N∧n+2*ts.length≤60000∧Lin ts∧Gw g ts K E
def cX:List ak→Bool×List ak
 | []=>(false,[])
 | t::r=>if av [44] t then (true,r) else (false,t::r)
def mN (k:Int):Nd:=⟨k,0,0,0,⟨#[]⟩,[],[]⟩
def dy (k l:Int):Nd:=⟨k,l,0,0,⟨#[]⟩,[],[]⟩
abbrev rZ (s:Nat):GL Ast:=aT (.exp s)
def oE (N:Nat):bW:=dx (sR N (rZ 1))
def nQ (N:Nat):bW:=mj (sR N (rZ 1)) cX
abbrev ab0 (l:List Ast):GL (List Ast):=aT (.uT l)
def Pt (N:Nat):bW:=fun s K E=>s.ts.length<N∧s.n+2*s.ts.length≤60000∧s.xs.length+2*s.ts.length≤60000∧Lin s.ts ∧
 Gw (ab0 s.xs) s.ts (fun l aA=>∀n',n'+Ast.al s.xs=s.n+Ast.al l→K ⟨s.h,l,aA,n'⟩) E
def pG (N:Nat):bW:=dx (dR (mN 18) [Pt N])
structure Rm (N k:Nat) (s:St):Prop where
 len:s.ts.length<N
 n:s.n+2*s.ts.length+k≤60000
 xs:s.xs.length+2*s.ts.length+k≤60000
 wf:Wf s.ts
theorem Rm.less {N k j:Nat} {s:St} (h:Rm N k s) (hj:j≤k):Rm N j s:=⟨h.len,by have:=h.n;omega,by have:=h.xs;omega,h.wf⟩
theorem vr (a:Ast):Ast.al [a]=a.size:=by rw[ik,cA,E5]
theorem size_pos :∀a:Ast,1≤a.size
 | .mk h ks=>by rw[Ast.size];omega
theorem vt :∀l:List Ast,l.length≤Ast.al l
 | []=>bo _
 | a::l=>by have:=vt l;have:=size_pos a;rw[ik,List.length_cons];omega
theorem Rm.tok {N k:Nat} {h h':Nd} {xs:List Ast} {t:ak} {ts:List ak} {n:Nat} (hI:Rm N k ⟨h,xs,t::ts,n⟩) (ht:t.1≠0):Rm N (k+2) ⟨h',xs,ts,n⟩ :=
 ⟨by have:=hI.len;simp at this ⊢;omega,by have:=hI.n;simp at this ⊢;omega,by have:=hI.xs;simp at this ⊢;omega,hI.wf.tail ht⟩
theorem Rm.Z9 {N k:Nat} {h h':Nd} {xs:List Ast} {t:ak} {ts:List ak} {n:Nat} (hI:Rm (N+1) k ⟨h,xs,t::ts,n⟩) (ht:t.1≠0):Rm N (k+2) ⟨h',xs,ts,n⟩ :=
 ⟨by have:=hI.len;simp at this ⊢;omega,by have:=hI.n;simp at this ⊢;omega,by have:=hI.xs;simp at this ⊢;omega,hI.wf.tail ht⟩
theorem Rm.cons {N k:Nat} {s:St} (hI:Rm N k s) :∃t ts,s.ts=t::ts:=hI.wf.fin.cons
theorem Rm.kids {N k j:Nat} {h h':Nd} {xs ys:List Ast} {ts aA:List ak} {n:Nat} (hI:Rm N k ⟨h,xs,ts,n⟩) (hz:Ast.al ys+2*aA.length+j≤2*ts.length+k) (hl:aA.length≤ts.length) (hf:Wf aA):Rm N j ⟨h',xs++ys,aA,n+Ast.al ys⟩ :=
 ⟨by have:=hI.len;dsimp only at this ⊢;omega,by have:=hI.n;dsimp only at this ⊢;omega,by have:=hI.xs;have:=vt ys;rw[bY];dsimp only at *;omega,hf⟩
theorem PL.short {n:NT} {ts aA:List ak} {v:VT n} (h:PL (aT n) ts (.ok (v,aA))):aA.length≤ts.length:=by
 obtain⟨c,rfl⟩:=h.tail v aA rfl;rw[bY];omega
def nR (wp:iQ) (s:St) (K:St→Prop) (E:Int→Prop) (a:Ast) (fK:List ak):Prop :=
 ((nP fK).1=true→sQ wp nP 0 (nP fK).2 (s.n+a.size) ([]++[a]) (fun xs ts=>K { s with xs:=s.xs++xs,ts:=ts,n:=s.n+Ast.al xs}) E)∧((nP fK).1=false→(fun xs ts=>K { s with xs:=s.xs++xs,ts:=ts,n:=s.n+Ast.al xs}) ([]++[a]) (nP fK).2)
theorem jS {wp:iQ} {s:St} {K:St→Prop} {E:Int→Prop} (hx:s.xs.length≤100000) (h:wp s.ts s.n (nR wp s K E) E):dx wp s K E:=⟨hx,1,by omega,h⟩
theorem nR.mk {wp:iQ} {s:St} {K:St→Prop} {E:Int→Prop} {a:Ast} {fK:List ak} (h:K ⟨s.h,s.xs++[a],fK,s.n+Ast.al [a]⟩):nR wp s K E a fK:=⟨fun h=>(gd h).elim,fun _=>h⟩
section
variable {α:Type} {K:α→List ak→Prop} {E:Int→Prop} {K':St→Prop} {N k n:Nat} {h:Nd} {xs:List Ast} {ts:List ak}
theorem fU {kk:Ast→GL α} (hI:Rm N k ⟨h,xs,ts,n⟩) (H:Gw (.call (.exp 1) kk) ts K E)
  (hk :∀(e:Ast) (aA:List ak),Rm N (k+1) ⟨h,xs++[e],aA,n+Ast.al [e]⟩→aA.length<ts.length→Gw (kk e) aA K E→K' ⟨h,xs++[e],aA,n+Ast.al [e]⟩):oE N ⟨h,xs,ts,n⟩ K' E:=by
 refine jS (by have:=hI.xs;dsimp only at *;omega) ⟨hI.len,by have:=hI.n;dsimp only at *;omega,hI.wf.zF,?_⟩
 refine(Gw.call H).mono fun(e:Ast) aA p hq=>?_
 have hz:e.size+2*aA.length+1≤2*ts.length:=hq.1;exact nR.mk (hk e aA (hI.kids (by rw[vr];omega) (PL.short p) (p.wf hI.wf)) (by omega) hq.2)
theorem fV {kk:Ast→GL α} (hI:Rm N (k+1) ⟨h,xs,ts,n⟩) (H:Gw (.call .blk kk) ts K E)
  (hk :∀(e:Ast) (aA:List ak),Rm N k ⟨h,xs++[e],aA,n+Ast.al [e]⟩→aA.length≤ts.length→Gw (kk e) aA K E→K' ⟨h,xs++[e],aA,n+Ast.al [e]⟩):pG N ⟨h,xs,ts,n⟩ K' E:=by
 obtain⟨t,r,jo⟩:=hI.cons;dsimp only at jo
 subst jo;refine jS (by have:=hI.xs;dsimp only at *;omega) ⟨t,r,t.2.1,rfl,.inl ⟨rfl,rfl⟩,⟨hI.len,by have:=hI.n;dsimp only at *;omega,by have:=hI.n;dsimp only[List.length_nil] at *;omega,hI.wf.zF,?_⟩⟩
 refine(Gw.call (Gw.look (Gw.call H))).mono fun(l:List Ast) aA p hq n' hn'=>?_
 have hz:Ast.al l+2*aA.length≤Ast.al []+2*(t::r).length:=hq.1;have pg:=hq.2.ret;have hn:=hI.n;dsimp only at hn hn'
 rw[cA] at hz hn';refine⟨by dsimp only;omega,nR.mk (hk _ aA (hI.kids (by rw[vr];show Ast.size (nd 18 t.2.1 l)+_+_≤_;rw[kl];omega) (PL.short p) (p.wf hI.wf)) (PL.short p) pg.2)⟩
theorem cW {t:ak} (hI:Rm (N+1) k ⟨h,xs,t::ts,n⟩) (ht:t.1≠0) (hk:Rm N (k+2) ⟨h,xs,ts,n⟩→K' ⟨h,xs,ts,n⟩):aB ⟨h,xs,t::ts,n⟩ K' E:=⟨t,ts,rfl,ht,hk (hI.Z9 ht)⟩
theorem bX {x:List UInt8} {kk:ak→GL α} (hI:Rm N k ⟨h,xs,ts,n⟩) (H:Gw (want x kk) ts K E) (hk :∀(t:ak) (r:List ak),Rm N (k+2) ⟨h,xs,r,n⟩→r.length<ts.length→Gw (kk t) r K E→K' ⟨h,xs,r,n⟩):au [x] ⟨h,xs,ts,n⟩ K' E:=by
 obtain⟨t,r,jo⟩:=hI.cons;dsimp only at jo
 subst jo;exact⟨t,r,rfl,fun hw=>hk t r (hI.tok (aV hw)) (by simp) (H.want.1 hw),H.want.2⟩
theorem Pu {x y:List UInt8} {kk:ak→GL α} (hI:Rm N k ⟨h,xs,ts,n⟩) (H:Gw (want x fun _=>want y kk) ts K E) (hk :∀(t:ak) (r:List ak),Rm N (k+4) ⟨h,xs,r,n⟩→r.length<ts.length→Gw (kk t) r K E→K' ⟨h,xs,r,n⟩):au [x,y] ⟨h,xs,ts,n⟩ K' E:=by
 obtain⟨t,r,jo⟩:=hI.cons;dsimp only at jo
 subst jo;refine⟨t,r,rfl,fun hw=>?_,H.want.2⟩
 have oF:=hI.tok (h':=h) (aV hw);obtain⟨t2,r2,jo⟩:=oF.cons;dsimp only at jo
 subst jo;exact⟨t2,r2,rfl,fun hw2=>hk t2 r2 (oF.tok (aV hw2)) (by simp;omega) ((H.want.1 hw).want.1 hw2),(H.want.1 hw).want.2⟩
theorem zi {kk:ak→GL α} (hI:Rm N k ⟨h,xs,ts,n⟩) (H:Gw (name kk) ts K E) (hk :∀(t:ak) (r:List ak),Rm N (k+2) ⟨{ h with s:=bx t.2.2.2},xs,r,n⟩→r.length<ts.length→Gw (kk t) r K E→K' ⟨{ h with s:=bx t.2.2.2},xs,r,n⟩):cV ⟨h,xs,ts,n⟩ K' E:=by
 obtain⟨t,r,jo⟩:=hI.cons;dsimp only at jo
 subst jo;exact⟨t,r,rfl,fun hw=>hk t r (hI.tok (by rw[hw];decide)) (by simp) (H.name.1 hw),H.name.2⟩
theorem GH (K2:List Ast→List ak→Prop) :∀(m:Nat) (ts:List ak) (n:Nat) (acc:List Ast),ts.length<m→ts.length<N→n+2*ts.length≤60000→Wf ts→Gw (.call (.exp 1) fun(e:Ast)=>.call (.SF (acc++[e])) fun(l:List Ast)=>.ret l) ts K2 E→sQ (sR N (rZ 1)) cX m ts n acc K2 E:=by
 intro m;induction m with
 | zero=>intro ts n acc h;omega
 | succ m ih =>
  intro ts n acc h1 h2 h3 hf H;refine⟨h2,h3,hf.zF,?_⟩;refine(Gw.call H).mono fun(e:Ast) aA p hq=>?_
  have hz:e.size+2*aA.length+1≤2*ts.length:=hq.1;have hf':=p.wf hf;obtain⟨t,r,rfl⟩:=hf'.fin.cons;have hg:=(Gw.call hq.2).look;cases hc:av [44] t with
  | true =>
   have e1:cX (t::r)=(true,r):=by simp[cX,hc]
   rw[e1];refine⟨fun _=>ih r (n+e.size) (acc++[e]) (by simp at hz;omega) (by simp at hz;omega) (by simp at hz;omega) (hf'.tail (aV hc)) ((hg.pos hc).tok.mono fun l ir _ hl=>hl.2.ret),fun hb=>(gd hb.symm).elim⟩
  | false =>
   have e1:cX (t::r)=(false,t::r):=by simp[cX,hc]
   rw[e1];exact⟨fun hb=>(gd hb).elim,fun _=>(hg.neg (by simp[hc])).ret.2.ret⟩
theorem tQ {kk:List Ast→GL α} (hI:Rm N k ⟨h,xs,ts,n⟩) (H:Gw (.call .AZ kk) ts K E)
  (hk :∀(l:List Ast) (aA:List ak),Rm N (k+1) ⟨h,xs++l,aA,n+Ast.al l⟩→aA.length<ts.length→Gw (kk l) aA K E→K' ⟨h,xs++l,aA,n+Ast.al l⟩):nQ N ⟨h,xs,ts,n⟩ K' E:=by
 have hn:=hI.n;have hx:=hI.xs;dsimp only at hn hx
 refine⟨by dsimp only;omega,ts.length+1,by omega,?_⟩
 refine GH _ (ts.length+1) ts n [] (by omega) hI.len (by omega) hI.wf ((Gw.call H).mono fun(l:List Ast) aA p hq=>?_)
 have hz:Ast.al l+2*aA.length+1≤2*ts.length:=hq.1;exact hk l aA (hI.kids (by omega) (PL.short (n:=.AZ) p) (PL.wf (n:=.AZ) p hI.wf)) (by omega) hq.2
end
end Go.Proofs.YtodmcdfeldkocaaGreatDoor
namespace Go.Proofs.YtodmcdfeldkocaaGreatDoor
open Go.RowKit
theorem aU {s s':List UInt8} {t:ak} (h:av s t=true) (hne:s'≠s):¬ av s' t=true:=by rw[bn h hne];decide
abbrev qR:GL Ast:=aT .AY
abbrev adR (at_:Int) (self:List ByteArray):GL Ast:=aT (.KL at_ self)
def bT (K:Ast→List ak→Prop):St→Prop:=fun s=>s.n≤200000∧K (.mk s.h s.xs) s.ts
theorem cy {N k:Nat} {s:St} {K:Ast→List ak→Prop} (hI:Rm N k s) (h:K (.mk s.h s.xs) s.ts):bT K s:=⟨by have:=hI.n;omega,h⟩
def tp:NmF:=fun p=>((cX p.2).1,p.1,(cX p.2).2)
def iD:bW:=fun s K E=>∃m,m≤100000∧vq tp m s.h.num s.ts [] (fun nu xs ts=>K { s with h:={ s.h with num:=nu,names:=xs},ts:=ts}) E
section
variable {α:Type} {K:α→List ak→Prop} {E:Int→Prop} {K':St→Prop} {N k n:Nat} {h:Nd} {xs:List Ast} {ts:List ak}
theorem UH (nu:Int) (K2:Int→List ByteArray→List ak→Prop) :∀(m:Nat) (ts:List ak) (acc:List ByteArray),ts.length<m→Wf ts→Gw (name fun n=>.call (.nmm (acc++[bx n.2.2.2])) fun(l:List ByteArray)=>.ret l) ts (K2 nu) E→vq tp m nu ts acc K2 E:=by
 intro m;induction m with
 | zero=>intro ts acc h;omega
 | succ m ih =>
  intro ts acc h1 hf H;obtain⟨t,r,rfl⟩:=hf.fin.cons;refine⟨t,r,rfl,H.name.2,fun ht=>?_⟩
  have kQ:=hf.tail (show t.1≠0 by rw[ht];decide)
  obtain⟨u,us,rfl⟩:=kQ.fin.cons;have hg:=(Gw.call (H.name.1 ht)).look;cases hc:av [44] u with
  | true =>
   have e1:tp (nu,u::us)=(true,nu,us):=by unfold tp cX;simp[hc]
   rw[e1];exact⟨fun _=>ih us (acc++[bx t.2.2.2]) (by simp at h1;omega) (kQ.tail (aV hc)) ((hg.pos hc).tok.mono fun l ir _ hl=>hl.2.ret),fun hb=>(gd hb.symm).elim⟩
  | false =>
   have e1:tp (nu,u::us)=(false,nu,u::us):=by unfold tp cX;simp[hc]
   rw[e1];exact⟨fun hb=>(gd hb).elim,fun _=>(hg.neg (by simp[hc])).ret.2.ret⟩
theorem Pv {kk:List ByteArray→GL α} (hI:Rm N k ⟨h,xs,ts,n⟩) (H:Gw (.call .Wr kk) ts K E)
  (hk :∀(l:List ByteArray) (aA:List ak),Rm N k ⟨{ h with names:=l},xs,aA,n⟩→Gw (kk l) aA K E→K' ⟨{ h with names:=l},xs,aA,n⟩):iD ⟨h,xs,ts,n⟩ K' E:=by
 have hn:=hI.n;dsimp only at hn
 refine⟨ts.length+1,by omega,UH h.num _ (ts.length+1) ts [] (by omega) hI.wf ((Gw.call H).mono fun(l:List ByteArray) aA p hq=>?_)⟩
 have hs:=PL.short (n:=.Wr) p;exact hk l aA ⟨by have:=hI.len;dsimp only at *;omega,by dsimp only;omega,by have:=hI.xs;dsimp only at *;omega,PL.wf (n:=.Wr) p hI.wf⟩ hq.2
end
def pH:NmF:=fun p=>match p.2 with
 | []=>(false,p.1,[])
 | t::r=>if av [44] t then (match r with
  | []=>(decide (p.1≠1),p.1,[])
  | u::r'=>if av [46,46,46] u then (false,1,r') else (decide (p.1≠1),p.1,u::r')) else (false,p.1,t::r)
def Cn:bW:=fun s K E=>∃t ts,s.ts=t::ts∧s.h.num=0∧(av [46,46,46] t=true→K { s with h:={ s.h with num:=1},ts:=ts}) ∧
 (av [46,46,46] t=false→s.h.names.length≤100000∧∃m,m≤100000∧vq pH m 0 s.ts [] (fun nu xs aA=>K { s with h:={ s.h with num:=nu,names:=s.h.names++xs},ts:=aA}) E)
def Xc (N:Nat):List bW:=[au [[40]],dF [41] Cn,au [[41]],pG N,au [jn]]
def xQ (N:Nat):bW:=fun s K E=>aJ (Xc N) s K E
section
variable {α:Type} {K:α→List ak→Prop} {E:Int→Prop} {K':St→Prop} {N k n:Nat} {h:Nd} {xs:List Ast} {ts:List ak}
theorem UI (l0:List ByteArray) (K2:Int→List ByteArray→List ak→Prop) :∀(m:Nat) (ts:List ak) (acc:List ByteArray),ts.length<m→Wf ts →
  Gw (name fun n=>.look fun t=>if av [44] t then .tok fun _=>.call (.Yy (l0++acc++[bx n.2.2.2])) fun(p:List ByteArray×Int)=>.ret p else .ret ((l0++acc++[bx n.2.2.2],0):List ByteArray×Int)) ts (fun p aA=>∀l,p.1=l0++l→K2 p.2 l aA) E→vq pH m 0 ts acc K2 E:=by
 intro m;induction m with
 | zero=>intro ts acc h;omega
 | succ m ih =>
  intro ts acc h1 hf H;obtain⟨t,r,rfl⟩:=hf.fin.cons;refine⟨t,r,rfl,H.name.2,fun ht=>?_⟩
  have kQ:=hf.tail (show t.1≠0 by rw[ht];decide)
  obtain⟨u,us,rfl⟩:=kQ.fin.cons;have hg:=(H.name.1 ht).look;cases hc:av [44] u with
  | true =>
   have hf2:=kQ.tail (aV hc);obtain⟨v,vs,rfl⟩:=hf2.fin.cons;have hg2:=(Gw.call (hg.pos hc).tok).look;cases hd:av [46,46,46] v with
   | true =>
    have e1:pH (0,u::v::vs)=(false,1,vs):=by unfold pH;simp[hc,hd]
    rw[e1];refine⟨fun hb=>(gd hb).elim,fun _=>?_⟩
    exact(hg2.pos hd).tok.ret.2.ret (acc++[bx t.2.2.2]) (by rw[cP])
   | false =>
    have e1:pH (0,u::v::vs)=(true,0,v::vs):=by unfold pH;simp[hc,hd]
    rw[e1];refine⟨fun _=>ih (v::vs) (acc++[bx t.2.2.2]) (by simp at h1 ⊢;omega) hf2 ?_,fun hb=>(gd hb.symm).elim⟩
    have:=hg2.neg (by simp[hd])
    rw[cP] at this;exact this.mono fun p ir _ hl=>hl.2.ret
  | false =>
   have e1:pH (0,u::us)=(false,0,u::us):=by unfold pH;simp[hc]
   rw[e1];exact⟨fun hb=>(gd hb).elim,fun _=>(hg.neg (by simp[hc])).ret (acc++[bx t.2.2.2]) (by rw[cP])⟩
theorem Pw {at_:Int} {self:List ByteArray} {K:Ast→List ak→Prop} (hI:Rm N k ⟨⟨11,at_,0,0,⟨#[]⟩,self,[]⟩,[],ts,n⟩) (hs:self.length≤100000) (H:Gw (adR at_ self) ts K E) :
  aJ (Xc N) ⟨⟨11,at_,0,0,⟨#[]⟩,self,[]⟩,[],ts,n⟩ (bT K) E:=by
 refine bX hI H fun _ r hI _ G=>?_
 obtain⟨t,us,rfl⟩:=hI.wf.fin.cons;have G:=G.look;refine⟨t,us,rfl,fun hw=>?_,fun hw=>?_⟩
 ·refine⟨t,us,rfl,fun hw=>?_,fun hw2=>?_⟩
  ·exact(show aJ [pG N,au [jn]] _ _ _ from fV (hI.tok (aV hw)) (G.pos hw).tok fun b r2 hI _ G=>bX hI G fun _ r3 hI _ G=>cy hI G.ret)
  ·rw[hw] at hw2
   exact(gd hw2.symm).elim
 ·have G:=Gw.call (G.neg (by simp[hw]))
  have G1:=Gw.look G;have hn:=hI.n;dsimp only[List.length_cons] at hn
  refine⟨t,us,rfl,rfl,fun hd=>?_,fun hd=>⟨hs,us.length+2,by omega,UI self _ (us.length+2) (t::us) [] (by simp) hI.wf ?_⟩⟩
  ·have G2:=(G1.pos hd).tok.ret.2
   exact bX (hI.tok (aV hd)) G2 fun _ r2 hI _ G=>fV hI G fun b r3 hI _ G=>bX hI G fun _ r4 hI _ G=>cy hI G.ret
  ·have G2:=G1.neg (by simp[hd])
   rw[gh];refine⟨fun p aA hp l hl=>?_,fun l hl=>G2.2 l hl⟩
   have hq:=G2.1 p aA hp;have hpp:PL (aT (.Yy self)) (t::us) (.ok (p,aA)):=.look (by rw[ab (by simp[hd])];exact hp)
   have hz:=PL.short hpp;have oF:Rm N (k+2) ⟨⟨11,at_,0,p.2,⟨#[]⟩,self++l,[]⟩,[],aA,n⟩:=⟨by have:=hI.len;dsimp only at *;omega,by dsimp only[List.length_cons] at *;omega,by have:=hI.xs;dsimp only[List.length_cons] at *;omega,hpp.wf hI.wf⟩
   refine bX oF hq.2 fun _ r2 hI _ G=>fV hI G fun b r3 hI _ G=>bX hI G fun _ r4 hI _ G=>cy hI ?_
   have:=G.ret;rw[hl] at this;exact this
end
section
variable {K:Ast→List ak→Prop} {E:Int→Prop} {K':St→Prop} {N k n:Nat} {h:Nd} {xs:List Ast} {t:ak} {ts:List ak}
theorem UJ (hI:Rm (N+1) k ⟨dy 32 t.2.1,[],t::ts,n⟩) (H:Gw qR (t::ts) K E) (hw:av [58,58] t=true):aJ [aB,cV,au [[58,58]]] ⟨dy 32 t.2.1,[],t::ts,n⟩ (bT K) E :=
 cW hI (aV hw) fun hI=>zi hI ((Gw.look H).pos hw).tok fun _ _ hI _ G=>bX hI G fun _ _ hI _ G=>cy hI G.ret
theorem UK (hI:Rm (N+1) k ⟨dy 30 t.2.1,[],t::ts,n⟩) (H:Gw qR (t::ts) K E) (hw:av pq t=true):aJ [aB] ⟨dy 30 t.2.1,[],t::ts,n⟩ (bT K) E :=
 cW hI (aV hw) fun hI=>cy hI (((Gw.look H).neg (aU hw (by decide))).pos hw).tok.ret
theorem aaa (hI:Rm (N+1) k ⟨dy 31 t.2.1,[],t::ts,n⟩) (H:Gw qR (t::ts) K E) (hw:av uS t=true):aJ [aB,cV] ⟨dy 31 t.2.1,[],t::ts,n⟩ (bT K) E :=
 cW hI (aV hw) fun hI=>zi hI ((((Gw.look H).neg (aU hw (by decide))).neg (aU hw (by decide))).pos hw).tok fun _ _ hI _ G=>cy hI G.ret
theorem adS (hI:Rm (N+1) k ⟨dy 22 t.2.1,[],t::ts,n⟩) (H:Gw qR (t::ts) K E) (hw:av Dw t=true):aJ [aB,pG N,au [jn]] ⟨dy 22 t.2.1,[],t::ts,n⟩ (bT K) E :=
 cW hI (aV hw) fun hI=>fV hI (((((Gw.look H).neg (aU hw (by decide))).neg (aU hw (by decide))).neg (aU hw (by decide))).pos hw).tok fun _ _ hI _ G=>bX hI G fun _ _ hI _ G=>cy hI G.ret
theorem UL (hI:Rm (N+1) k ⟨dy 23 t.2.1,[],t::ts,n⟩) (H:Gw qR (t::ts) K E) (hw:av pt t=true):aJ [aB,oE N,au [Dw],pG N,au [jn]] ⟨dy 23 t.2.1,[],t::ts,n⟩ (bT K) E :=
 cW hI (aV hw) fun hI=>fU hI ((((((Gw.look H).neg (aU hw (by decide))).neg (aU hw (by decide))).neg (aU hw (by decide))).neg (aU hw (by decide))).pos hw).tok fun _ _ hI _ G=>bX hI G fun _ _ hI _ G =>
  fV hI G fun _ _ hI _ G=>bX hI G fun _ _ hI _ G=>cy hI G.ret
theorem Px (hI:Rm (N+1) k ⟨dy 24 t.2.1,[],t::ts,n⟩) (H:Gw qR (t::ts) K E) (hw:av lZ t=true):aJ [aB,pG N,au [po],oE N] ⟨dy 24 t.2.1,[],t::ts,n⟩ (bT K) E :=
 cW hI (aV hw) fun hI=>fV hI (((((((Gw.look H).neg (aU hw (by decide))).neg (aU hw (by decide))).neg (aU hw (by decide))).neg (aU hw (by decide))).neg (aU hw (by decide))).pos hw).tok fun _ _ hI _ G=>bX hI G fun _ _ hI _ G =>
  fU hI G fun _ _ hI _ G=>cy hI G.ret
theorem aab {K2:List Ast→List ak→Prop} :∀(m:Nat) (ts:List ak) (xs:List Ast) (n k:Nat),ts.length<m→Rm N (k+1) ⟨h,xs,ts,n⟩→Gw (aT (.els xs):GL (List Ast)) ts K2 E→(∀xs' aA n',Rm N 0 ⟨h,xs',aA,n'⟩→K2 xs' aA→K' ⟨h,xs',aA,n'⟩) →
  qP kf [oE N,au [AW],pG N] m ⟨h,xs,ts,n⟩ (fun s'=>aJ [bw sH [pG N],au [jn]] s' K' E) E:=by
 intro m;induction m with
 | zero=>intro ts xs n k h;omega
 | succ m ih =>
  intro ts xs n k h1 hI H hk;obtain⟨t,r,rfl⟩:=hI.wf.fin.cons;have G:=Gw.look H;refine⟨t,r,rfl,fun hw=>?_,fun hw=>?_⟩
  ·refine fU (hI.tok (aV hw)) (G.pos hw).tok fun e fK hI hl G=>bX hI G fun _ r2 hI hl2 G=>fV hI G fun b C5 hI KJ G=>?_
   have G3:=(Gw.call G).mono (K':=K2) fun l aA _ hl=>hl.2.ret
   refine ih C5 _ _ _ (by simp at h1;omega) hI ?_ hk
   have e1:xs++[e,b]=xs++[e]++[b]:=by simp
   rw[←e1];exact G3
  ·have G:=G.neg (by simp[hw])
   exact⟨t,r,rfl,fun hw2=>fV (hI.tok (aV hw2)) (G.pos hw2).tok fun b fK hI _ G=>bX hI G fun _ r2 hI _ G=>hk _ _ _ (hI.less (bo _)) G.ret,fun hw2=>bX hI (G.neg (by simp[hw2])) fun _ r2 hI _ G=>hk _ _ _ (hI.less (bo _)) G.ret⟩
theorem adT (hI:Rm (N+1) k ⟨dy 25 t.2.1,[],t::ts,n⟩) (H:Gw qR (t::ts) K E) (hw:av Yx t=true):aJ [aB,oE N,au [AW],pG N,rU kf [oE N,au [AW],pG N],bw sH [pG N],au [jn]] ⟨dy 25 t.2.1,[],t::ts,n⟩ (bT K) E :=
 cW hI (aV hw) fun hI=>fU hI ((((((((Gw.look H).neg (aU hw (by decide))).neg (aU hw (by decide))).neg (aU hw (by decide))).neg (aU hw (by decide))).neg (aU hw (by decide))).neg (aU hw (by decide))).pos hw).tok fun e _ hI _ G=>bX hI G fun _ _ hI _ G =>
  fV hI G fun b r hI _ G=>⟨r.length+1,aab (r.length+1) r [e,b] _ _ (dz _) hI (Gw.call G) fun xs' aA n' hI hq=>cy hI hq.2.ret⟩
def Py (N:Nat):bW:=fun s K E=>aJ [au [wIn],nQ N,eo] { s with h:={ s.h with kind:=27}} K E
def UM (N:Nat):bW:=fun s K E=>(s.h.names.length=1→∃t ts,s.ts=t::ts∧(av [61] t=true→aJ [oE N,au [[44]],oE N,bw [44] [oE N]] { s with h:={ s.h with kind:=26},ts:=ts} K E)∧(av [61] t=false→Py N s K E))∧(s.h.names.length≠1→Py N s K E)
theorem GI {at_:Int} {ns:List ByteArray} (hI:Rm N k ⟨⟨0,at_,0,0,⟨#[]⟩,ns,[]⟩,[],ts,n⟩)
  (H:Gw (want wIn fun _=>.call .AZ fun(l:List Ast)=>want Dw fun _=>.call .blk fun(d:Ast)=>want jn fun _=>.ret (Dz 27 at_ (l.length:Int) ns (l++[d]))) ts K E) :
  Py N ⟨⟨0,at_,0,0,⟨#[]⟩,ns,[]⟩,[],ts,n⟩ (fun s=>aJ [au [Dw],pG N,au [jn]] s (bT K) E) E:=by
 have oF:Rm N k ⟨⟨27,at_,0,0,⟨#[]⟩,ns,[]⟩,[],ts,n⟩:=⟨hI.len,hI.n,hI.xs,hI.wf⟩;refine bX oF H fun _ r hI _ G=>tQ hI G fun l r2 hI _ G=>?_
 have UN:Rm N _ ⟨⟨27,at_,0,(l.length:Int),⟨#[]⟩,ns,[]⟩,[]++l,r2,_⟩:=⟨hI.len,hI.n,hI.xs,hI.wf⟩;exact bX UN G fun _ r3 hI _ G=>fV hI G fun d r4 hI _ G=>bX hI G fun _ r5 hI _ G=>cy hI G.ret
theorem ab1 (hI:Rm (N+1) k ⟨dy 0 t.2.1,[],t::ts,n⟩) (H:Gw qR (t::ts) K E) (hw:av Dx t=true):aJ [aB,iD,UM N,au [Dw],pG N,au [jn]] ⟨dy 0 t.2.1,[],t::ts,n⟩ (bT K) E:=by
 refine cW hI (aV hw) fun hI=>?_
 have G:=Gw.call (((((((((Gw.look H).neg (aU hw (by decide))).neg (aU hw (by decide))).neg (aU hw (by decide))).neg (aU hw (by decide))).neg (aU hw (by decide))).neg (aU hw (by decide))).neg (aU hw (by decide))).pos hw).tok
 have G1:Gw (aT (.loo t.2.1):GL Ast) ts K E:=G.mono fun l aA _ hl=>hl.2.ret
 refine Pv hI G1 fun ns r hI G=>?_
 obtain⟨u,us,rfl⟩:=hI.wf.fin.cons;have G:=G.look;refine⟨fun hl=>⟨u,us,rfl,fun hw=>?_,fun hw=>?_⟩,fun hl=>?_⟩
 ·have oF:Rm N _ ⟨⟨26,t.2.1,0,0,⟨#[]⟩,ns,[]⟩,[],us,n⟩:=hI.tok (aV hw)
  refine fU oF (G.pos ⟨hw,hl⟩).tok fun a r2 hI _ G=>bX hI G fun _ r3 hI _ G=>fU hI G fun b r4 hI _ G=>?_
  obtain⟨v,vs,rfl⟩:=hI.wf.fin.cons;have G:=G.look;refine⟨v,vs,rfl,fun hw=>?_,fun hw=>?_⟩
  ·exact fU (hI.tok (aV hw)) (G.pos hw).tok fun c r5 hI _ G=>bX hI G fun _ r6 hI _ G=>fV hI G fun d r7 hI _ G=>bX hI G fun _ r8 hI _ G=>cy hI G.ret
  ·exact bX hI (G.neg (by simp[hw])) fun _ r6 hI _ G=>fV hI G fun d r7 hI _ G=>bX hI G fun _ r8 hI _ G=>cy hI G.ret
 ·exact GI hI (G.neg (by simp[hw]))
 ·exact GI hI (G.neg (by simp[hl]))
end
end Go.Proofs.YtodmcdfeldkocaaGreatDoor
