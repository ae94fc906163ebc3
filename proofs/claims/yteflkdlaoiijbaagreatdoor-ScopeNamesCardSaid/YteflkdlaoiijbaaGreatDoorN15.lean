/- Parts of the proof. -/
import Derived.Test.YteflkdlaoiijbaaGreatDoorCards
import Derived.Test.YteflkdlaoiijbaaGreatDoorTie
import Derived.ProofKit
import Derived.LaidMore
import Derived.LaidHandle
import Derived.Lay
import Derived.OpenShut
import Derived.SizedLaws
import Derived.Stop.Joined
import Derived.Stop.LaidErr
import Derived.Lib.LaidTab
import Derived.Test.YteflkdlaoiijbaaGreatDoorN14
set_option maxHeartbeats 16000000
set_option maxRecDepth 20000
namespace Go.Proofs.YteflkdlaoiijbaaGreatDoor
structure Cw (c:UInt8):Prop where
 lt:si c=true
 nm:jZ c=true
 bl:oR c=false
 ne:c≠10
 da:c≠45
 w1:gA [c,49]=false
 w2:gA [c,50]=false
 w3:gA [c,51]=false
 w4:gA [c,52]=false
 f1:aM ⟨7,1,0,0,bb [c,49],[],[]⟩=true
 f2:aM ⟨28,1,0,0,⟨#[]⟩,[bb [c,50]],[]⟩=true
 f3:aM ⟨7,1,0,0,bb [c,51],[],[]⟩=true
 f4:aM ⟨11,1,0,1,⟨#[]⟩,[bb [c,51]],[]⟩=true
 f5:aM ⟨19,1,0,0,⟨#[]⟩,[bb [c,52]],[]⟩=true
theorem PU :∀k,k<26→Cw (UInt8.ofNat (97+k)):=fun k hk =>
 ⟨(by decide +kernel :∀k,k<26→si (UInt8.ofNat (97+k))=true) k hk,
  (by decide +kernel :∀k,k<26→jZ (UInt8.ofNat (97+k))=true) k hk,
  (by decide +kernel :∀k,k<26→oR (UInt8.ofNat (97+k))=false) k hk,
  (by decide +kernel :∀k,k<26→UInt8.ofNat (97+k)≠10) k hk,
  (by decide +kernel :∀k,k<26→UInt8.ofNat (97+k)≠45) k hk,
  (by decide +kernel :∀k,k<26→gA [UInt8.ofNat (97+k),49]=false) k hk,
  (by decide +kernel :∀k,k<26→gA [UInt8.ofNat (97+k),50]=false) k hk,
  (by decide +kernel :∀k,k<26→gA [UInt8.ofNat (97+k),51]=false) k hk,
  (by decide +kernel :∀k,k<26→gA [UInt8.ofNat (97+k),52]=false) k hk,
  (by decide +kernel :∀k,k<26→aM ⟨7,1,0,0,bb [UInt8.ofNat (97+k),49],[],[]⟩=true) k hk,
  (by decide +kernel :∀k,k<26→aM ⟨28,1,0,0,⟨#[]⟩,[bb [UInt8.ofNat (97+k),50]],[]⟩=true) k hk,
  (by decide +kernel :∀k,k<26→aM ⟨7,1,0,0,bb [UInt8.ofNat (97+k),51],[],[]⟩=true) k hk,
  (by decide +kernel :∀k,k<26→aM ⟨11,1,0,1,⟨#[]⟩,[bb [UInt8.ofNat (97+k),51]],[]⟩=true) k hk,
  (by decide +kernel :∀k,k<26→aM ⟨19,1,0,0,⟨#[]⟩,[bb [UInt8.ofNat (97+k),52]],[]⟩=true) k hk⟩
def hdB (x y:UInt8):List UInt8:=[108,111,99,97,108,32,x,49,44,32,y,49,32,61,32,49,44,32,50,32]
def fnB (x y:UInt8):List UInt8:=[108,111,99,97,108,32,102,117,110,99,116,105,111,110,32,x,50,40,y,51,44,32,46,46,46,41,32,x,49,32,61,32,y,51,32]
def doB (x y:UInt8):List UInt8:=[100,111,32,108,111,99,97,108,32,y,52,32,61,32,x,49,32]
def rtB (x y:UInt8):List UInt8:=[114,101,116,117,114,110,32,x,49,44,32,y,49]
def enB:List UInt8:=[32,101,110,100]
def txB (x y:UInt8):Nat→Bool→List UInt8→List UInt8
 | 0,_,t=>rtB x y++t
 | n+1,true,t=>fnB x y++txB x y n false (enB++t)
 | n+1,false,t=>doB x y++txB x y n true (enB++t)
def txT (x y:UInt8):Nat→Bool→List aj→List aj
 | 0,_,t=>[wd iv,dL [x,49],dF [44],dL [y,49]]++t
 | n+1,true,t=>[wd fP,wd aZ,dL [x,50],dF [40],dL [y,51],dF [44],dF [46,46,46],dF [41],dL [x,49],dF [61],dL [y,51]]++txT x y n false (wd gP::t)
 | n+1,false,t=>[wd zR,wd fP,dL [y,52],dF [61],dL [x,49]]++txT x y n true (wd gP::t)
def Uv (x y:UInt8) (n:Nat):List UInt8:=hdB x y++txB x y n true []
def Zt (x y:UInt8) (n:Nat):List aj:=[wd fP,dL [x,49],dF [44],dL [y,49],dF [61],nuT 1,dF [44],nuT 2]++txT x y n true [yw]
def preB (x y:UInt8):Nat→List UInt8
 | 0=>hdB x y
 | n+1=>preB x y n++if n % 2=0 then fnB x y else doB x y
def enN:Nat→List UInt8
 | 0=>[]
 | n+1=>enB++enN n
theorem Gk (x y:UInt8) :∀n,n≤8→preB x y n++(rtB x y++enN n)=Uv x y n:=fun n hn=>by
 match n,hn with
 | 0,_=>rfl
 | 1,_=>rfl
 | 2,_=>rfl
 | 3,_=>rfl
 | 4,_=>rfl
 | 5,_=>rfl
 | 6,_=>rfl
 | 7,_=>rfl
 | 8,_=>rfl
theorem vC (x y:UInt8) :∀n,(preB x y n).length≤20+35*n
 | 0=>by simp[preB,hdB]
 | n+1=>by
  rw[preB,bV];have h1:=vC x y n;have h2:(if n % 2=0 then fnB x y else doB x y).length≤35:=by
   split
   ·simp[fnB]
   ·simp[doB]
  omega
theorem zj :∀n,(enN n).length=4*n
 | 0=>rfl
 | n+1=>by
  rw[enN,bV,zj n];simp[enB];omega
def LN (l:List UInt8) (ts:List aj):Prop:=nl l=0∧∃f,Gg 1 f l=some ts
theorem fI {l:List UInt8} {ts:List aj} (h:LN l ts):LN (32::l) ts:=by
 obtain⟨h1,f,h2⟩:=h;exact⟨by show nl ([32]++l)=0;rw[yh,h1];rfl,f,by rw[Zs];exact h2⟩
theorem fJ {c:UInt8} {t r:List UInt8} {k m:Int} {s:List UInt8} {ts:List aj} (hb:oR c=false) (hp:Lib.hasPrefix (c::t) [45,45]=false) (ht:VW (c::t)=some (k,m,s,r)) (hn:nl (c::t)=nl r) (h:LN r ts):LN (c::t) ((k,1,m,s)::ts):=by
 obtain⟨h1,f,h2⟩:=h;refine⟨hn.trans h1,f+1,?_⟩;rw[Uu hb hp ht,h2,hn,h1];rfl
theorem o9 {c d n:UInt8} {r:List UInt8} {ts:List aj} (hc:Cw c) (hd:jZ d=true) (he:d≠10) (hw:gA [c,d]=false) (hn:jZ n=false) (h:LN (n::r) ts):LN (c::d::n::r) (dL [c,d]::ts):=by
 have e1:(c::d::n::r).takeWhile jZ=[c,d]:=by rw[zG,hc.nm,ak rfl,zG,hd,ak rfl,zG,hn,af (by decide)]
 have e2:(c::d::n::r).dropWhile jZ=n::r:=by rw[Eb,hc.nm,ak rfl,Eb,hd,ak rfl,Eb,hn,af (by decide)]
 refine fJ (k:=1) (m:=0) (s:=[c,d]) (r:=n::r) hc.bl ?_ ?_ ?_ h
 ·have e:((45:UInt8) == c)=false:=aE.2 fun e=>hc.da e.symm
  simp[Lib.hasPrefix,List.isPrefixOf,e]
 ·change(if si c then some (if gA ((c::d::n::r).takeWhile jZ) then 2 else 1,0,(c::d::n::r).takeWhile jZ,(c::d::n::r).dropWhile jZ) else _)=_
  rw[ak hc.lt,e1,e2,hw];rfl
 ·have:nl ([c,d]++(n::r))=nl (n::r):=by
   rw[yh];have:nl [c,d]=0:=by
    have h1:=hc.ne;simp[nl,Lib.countByte,List.count_cons,h1,he]
   omega
  exact this
def Bl (t:List UInt8):Prop:=t=[]∨∃u,t=32::u
theorem PV {t:List UInt8} {ts:List aj} (hb:Bl t) (h:LN t ts):LN (enB++t) (wd gP::ts):=by
 refine fI (l:=[101,110,100]++t) ?_;rcases hb with rfl | ⟨u,rfl⟩
 ·exact fJ (c:=101) (t:=[110,100]) (r:=[]) (k:=2) (m:=0) rfl rfl rfl rfl h
 ·exact fJ (c:=101) (t:=110::100::32::u) (r:=32::u) (k:=2) (m:=0) rfl rfl rfl rfl h
theorem VZ {d n:UInt8} {m:Int} (r:List UInt8) (h1:si d=false) (h2:fQ d=true) (h3:(d::n::r).takeWhile mJ=[d]) (h4:(d::n::r).dropWhile mJ=n::r) (h5:oB 9223372036854775807 [d]=true) (h6:wG (qY 9223372036854775807 [d]:Int)=m):VW (d::n::r)=some (3,m,[],n::r):=by
 change(if si d=true then _ else if fQ d=true then (if oB 9223372036854775807 ((d::n::r).takeWhile mJ)=true then some (3,wG (qY 9223372036854775807 ((d::n::r).takeWhile mJ):Int),[],(d::n::r).dropWhile mJ) else none) else _)=_
 rw[af (by rw[h1];decide),ak h2,h3,h4,ak h5,h6]
theorem adQ (r:List UInt8):VW (49::44::r)=some (3,1,[],44::r):=VZ r rfl rfl rfl rfl (by decide +kernel) (by decide +kernel)
theorem adR (r:List UInt8):VW (50::32::r)=some (3,2,[],32::r):=VZ r rfl rfl rfl rfl (by decide +kernel) (by decide +kernel)
theorem abS {x y:UInt8} {l:List UInt8} {ts:List aj} (hx:Cw x) (hy:Cw y) (h:LN l ts):LN (hdB x y++l) ([wd fP,dL [x,49],dF [44],dL [y,49],dF [61],nuT 1,dF [44],nuT 2]++ts):=by
 exact fJ rfl rfl rfl rfl (fI (o9 hx rfl (by decide) hx.w1 rfl (fJ rfl rfl rfl rfl (fI (o9 hy rfl (by decide) hy.w1 rfl (fI (fJ rfl rfl rfl rfl (fI (fJ rfl rfl (adQ _) rfl (fJ rfl rfl rfl rfl (fI (fJ rfl rfl (adR _) rfl (fI h)))))))))))))
theorem V6 {x y:UInt8} {l:List UInt8} {ts:List aj} (hx:Cw x) (hy:Cw y) (h:LN l ts):LN (fnB x y++l) ([wd fP,wd aZ,dL [x,50],dF [40],dL [y,51],dF [44],dF [46,46,46],dF [41],dL [x,49],dF [61],dL [y,51]]++ts):=by
 exact fJ rfl rfl rfl rfl (fI (fJ rfl rfl rfl rfl (fI (o9 hx rfl (by decide) hx.w2 rfl (fJ rfl rfl rfl rfl (o9 hy rfl (by decide) hy.w3 rfl (fJ rfl rfl rfl rfl (fI (fJ rfl rfl rfl rfl (fJ rfl rfl rfl rfl (fI (o9 hx rfl (by decide) hx.w1 rfl (fI (fJ rfl rfl rfl rfl (fI (o9 hy rfl (by decide) hy.w3 rfl (fI h)))))))))))))))))
theorem abT {x y:UInt8} {l:List UInt8} {ts:List aj} (hx:Cw x) (hy:Cw y) (h:LN l ts):LN (doB x y++l) ([wd zR,wd fP,dL [y,52],dF [61],dL [x,49]]++ts):=by
 exact fJ rfl rfl rfl rfl (fI (fJ rfl rfl rfl rfl (fI (o9 hy rfl (by decide) hy.w4 rfl (fI (fJ rfl rfl rfl rfl (fI (o9 hx rfl (by decide) hx.w1 rfl (fI h)))))))))
theorem abU {x y:UInt8} {u:List UInt8} {ts:List aj} (hx:Cw x) (hy:Cw y) (h:LN (32::u) ts):LN (rtB x y++32::u) ([wd iv,dL [x,49],dF [44],dL [y,49]]++ts):=by
 exact fJ rfl rfl rfl rfl (fI (o9 hx rfl (by decide) hx.w1 rfl (fJ rfl rfl rfl rfl (fI (o9 hy rfl (by decide) hy.w1 rfl h)))))
theorem PW {x y:UInt8} (hx:Cw x) (hy:Cw y) :∀(n:Nat) (b:Bool) {u:List UInt8} {ts:List aj},LN (32::u) ts→LN (txB x y n b (32::u)) (txT x y n b ts)
 | 0,_,_,_,h=>abU hx hy h
 | n+1,true,u,_,h=>V6 hx hy (PW hx hy n false (PV (.inr ⟨u,rfl⟩) h))
 | n+1,false,u,_,h=>abT hx hy (PW hx hy n true (PV (.inr ⟨u,rfl⟩) h))
theorem Zu {x y:UInt8} (hx:Cw x) (hy:Cw y) (n:Nat):LN (Uv x y (n+1)) (Zt x y (n+1)) :=
 abS hx hy (V6 hx hy (PW hx hy n false (PV (t:=[]) (.inl rfl) ⟨rfl,1,rfl⟩)))
def stA (x y:UInt8):Nat→Bool→Ast
 | 0,_=>nd 29 1 [zg [x,49],zg [y,49]]
 | n+1,true=>oA 28 1 0 [bb [x,50]] [oA 11 1 1 [bb [y,51]] [nd 18 1 [qS 20 1 1 [zg [x,49],zg [y,51]],stA x y n false]]]
 | n+1,false=>nd 22 1 [nd 18 1 [oA 19 1 0 [bb [y,52]] [zg [x,49]],stA x y n true]]
def lC (x y:UInt8) (n:Nat):Ast:=nd 18 1 [oA 19 1 0 [bb [x,49],bb [y,49]] [qS 4 1 1 [],qS 4 1 2 []],stA x y n true]
theorem PX (x y:UInt8) :∀n,1≤n→n≤8→PL pT (Zt x y n) (.ok (lC x y n,[yw])):=fun n h0 hn=>by
 match n,h0,hn with
 | 1,_,_=>exact dV 100 _ _ _ rfl
 | 2,_,_=>exact dV 100 _ _ _ rfl
 | 3,_,_=>exact dV 200 _ _ _ rfl
 | 4,_,_=>exact dV 200 _ _ _ rfl
 | 5,_,_=>exact dV 300 _ _ _ rfl
 | 6,_,_=>exact dV 300 _ _ _ rfl
 | 7,_,_=>exact dV 300 _ _ _ rfl
 | 8,_,_=>exact dV 300 _ _ _ rfl
def sw (p q c:UInt8):UInt8:=if c=p then q else if c=q then p else c
theorem Gl (p q c:UInt8):sw p q (sw p q c)=c:=by
 unfold sw;by_cases h1:c=p
 ·rw[ak h1]
  by_cases h2:q=p
  ·rw[ak h2,h1,h2]
  ·rw[af h2,ak rfl,h1]
 ·rw[af h1]
  by_cases h2:c=q
  ·rw[ak h2,ak rfl,h2]
  ·rw[af h2,af h1,af h2]
def rn (x y:UInt8) (c:UInt8):UInt8:=sw (sw 97 x 98) y (sw 97 x c)
theorem Zv {x y a b:UInt8} (h:rn x y a=rn x y b):a=b:=by
 have h1:=ax (sw (sw 97 x 98) y) h;unfold rn at h1;rw[Gl,Gl] at h1;have h2:=ax (sw 97 x) h1;rwa[Gl,Gl] at h2
def JJ (x y:UInt8) (s:ByteArray):ByteArray:=⟨(s.data.toList.map (rn x y)).toArray⟩
theorem Uw {x y:UInt8} (a b:ByteArray) (h:JJ x y a=JJ x y b):a=b:=by
 unfold JJ at h;have h1:(a.data.toList.map (rn x y)).toArray=(b.data.toList.map (rn x y)).toArray:=ax ByteArray.data h;have h2:a.data.toList.map (rn x y)=b.data.toList.map (rn x y):=by injection h1
 have h3:=(List.map_inj_right (f:=rn x y) fun _ _ e=>Zv e).1 h2
 cases a;cases b;congr
 exact Array.toList_inj.1 h3
structure Two (x y:UInt8):Prop where
 lx:Cw x
 ly:Cw y
 a:rn x y 97=x
 b:rn x y 98=y
 n1:rn x y 49=49
 n2:rn x y 50=50
 n3:rn x y 51=51
 n4:rn x y 52=52
 hd:aM ⟨19,1,0,0,⟨#[]⟩,[bb [x,49],bb [y,49]],[]⟩=true
theorem sO {j k:Nat} (hj:j<26) (hk:k<26) (h:j≠k):Two (UInt8.ofNat (97+j)) (UInt8.ofNat (97+k)):=by
 have h1 :∀j,j<26→∀k,k<26→j≠k→(rn (UInt8.ofNat (97+j)) (UInt8.ofNat (97+k)) 97=UInt8.ofNat (97+j)∧rn (UInt8.ofNat (97+j)) (UInt8.ofNat (97+k)) 98=UInt8.ofNat (97+k))∧(rn (UInt8.ofNat (97+j)) (UInt8.ofNat (97+k)) 49=49∧rn (UInt8.ofNat (97+j)) (UInt8.ofNat (97+k)) 50=50∧rn (UInt8.ofNat (97+j)) (UInt8.ofNat (97+k)) 51=51∧rn (UInt8.ofNat (97+j)) (UInt8.ofNat (97+k)) 52=52)∧aM ⟨19,1,0,0,⟨#[]⟩,[bb [UInt8.ofNat (97+j),49],bb [UInt8.ofNat (97+k),49]],[]⟩=true:=by decide +kernel
 obtain⟨⟨a,b⟩,⟨c,d,e,f⟩,g⟩:=h1 j hj k hk h;exact⟨PU j hj,PU k hk,a,b,c,d,e,f,g⟩
theorem oy (x y c d:UInt8):JJ x y (bb [c,d])=bb [rn x y c,rn x y d]:=rfl
theorem vD {x y:UInt8} {c d c':UInt8} (h:rn x y c=c') (k:rn x y d=d):mD (JJ x y) (zg [c,d]).lt (zg [c',d]).lt:=by
 subst h;have:bb [rn x y c,d]=JJ x y (bb [c,d]):=by rw[oy,k]
 unfold zg jh;rw[this,Ast.lt,Ast.lt];unfold mD;exact⟨rfl,rfl,rfl,rfl,rfl⟩
theorem lD {ρ:ByteArray→ByteArray} {a b c d:Lt} (h:mD ρ a c) (k:mD ρ b d):cW ρ [a,b] [c,d]:=by
 unfold cW;refine⟨_,_,rfl,h,?_⟩;unfold cW;refine⟨_,_,rfl,k,?_⟩;unfold cW;rfl
theorem qR {ρ:ByteArray→ByteArray} {a c:Lt} (h:mD ρ a c):cW ρ [a] [c]:=by
 unfold cW;refine⟨_,_,rfl,h,?_⟩;unfold cW;rfl
theorem D5 {x y:UInt8} (h:Two x y) :∀(n:Nat) (b:Bool),mD (JJ x y) (stA 97 98 n b).lt (stA x y n b).lt
 | 0,_=>by
  unfold stA nd;rw[Ast.lt,Ast.lt];unfold mD;exact⟨rfl,rfl,rfl,rfl,lD (vD h.a h.n1) (vD h.b h.n1)⟩
 | n+1,true=>by
  have e1:bb [x,50]=JJ x y (bb [97,50]):=by rw[oy,h.a,h.n2]
  have e2:bb [y,51]=JJ x y (bb [98,51]):=by rw[oy,h.b,h.n3]
  unfold stA oA nd qS;rw[e1,e2,Ast.lt,Ast.lt];unfold mD;refine⟨rfl,rfl,rfl,rfl,qR ?_⟩;rw[Ast.lt,Ast.lt];unfold mD;refine⟨rfl,rfl,rfl,rfl,qR ?_⟩;rw[Ast.lt,Ast.lt];unfold mD;refine⟨rfl,rfl,rfl,rfl,lD ?_ (D5 h n false)⟩;rw[Ast.lt,Ast.lt];unfold mD;exact⟨rfl,rfl,rfl,rfl,lD (vD h.a h.n1) (vD h.b h.n3)⟩
 | n+1,false=>by
  have e1:bb [y,52]=JJ x y (bb [98,52]):=by rw[oy,h.b,h.n4]
  unfold stA oA nd;rw[e1,Ast.lt,Ast.lt];unfold mD;refine⟨rfl,rfl,rfl,rfl,qR ?_⟩;rw[Ast.lt,Ast.lt];unfold mD;refine⟨rfl,rfl,rfl,rfl,lD ?_ (D5 h n true)⟩;rw[Ast.lt,Ast.lt];unfold mD;exact⟨rfl,rfl,rfl,rfl,qR (vD h.a h.n1)⟩
theorem PY {ρ:ByteArray→ByteArray} (h:ρ ⟨#[]⟩=⟨#[]⟩) (k:Int):mD ρ (qS 4 1 k []).lt (qS 4 1 k []).lt:=by
 unfold qS;rw[Ast.lt];unfold mD;exact⟨rfl,rfl,h.symm,rfl,rfl⟩
theorem Ux {x y:UInt8} (h:Two x y) (n:Nat):mD (JJ x y) (lC 97 98 n).lt (lC x y n).lt:=by
 have e1:bb [x,49]=JJ x y (bb [97,49]):=by rw[oy,h.a,h.n1]
 have e2:bb [y,49]=JJ x y (bb [98,49]):=by rw[oy,h.b,h.n1]
 unfold lC oA nd;rw[e1,e2,Ast.lt,Ast.lt];unfold mD;refine⟨rfl,rfl,rfl,rfl,lD ?_ (D5 h n true)⟩;rw[Ast.lt,Ast.lt];unfold mD;exact⟨rfl,rfl,rfl,rfl,lD (PY rfl 1) (PY rfl 2)⟩
theorem abV :∀n,n≤8→∃st,kX (lC 97 98 n).lt=.ok st∧0<st.fns.length∧st.fns.length≤9∧∀x∈st.fns,x.vars.length≤20∧x.bz.length≤20:=fun n hn=>by
 have h :∀n,n<9→((zh (lC 97 98 n)).1=0∧0<(zh (lC 97 98 n)).2.length∧(zh (lC 97 98 n)).2.length≤9∧(zh (lC 97 98 n)).2.all fun p=>decide (p.1.length≤20) && decide (p.2.length≤20)):=by decide +kernel
 obtain⟨h1,h2,h3,h4⟩:=h n (by omega)
 unfold zh at h1 h2 h3 h4;cases e:kX (lC 97 98 n).lt with
 | ok st =>
  rw[e] at h2 h3 h4;simp only[cN] at h2 h3;refine⟨st,rfl,h2,h3,fun x hx=>?_⟩
  have h5:=List.all_eq_true.1 h4 _ (jd.2 ⟨x,hx,rfl⟩);simpa using h5
 | error x =>
  rw[e] at h1;obtain⟨k,h2,h3⟩:=tz _ x e;have h1:x.1=0:=h1;omega
structure FQ (x y:cI):Prop where
 parent:y.parent=x.parent
 params:y.params=x.params
 bz:y.bz=x.bz
 zk:y.vars.map jn.cap=x.vars.map jn.cap
theorem FS.zk {ρ:ByteArray→ByteArray} {x y:cI} (h:FS ρ x y):y.vars.map jn.cap=x.vars.map jn.cap:=by
 have h3:=ax (List.map Prod.snd) h.vars;rw[tM,tM] at h3;exact h3
theorem FS.fq {ρ:ByteArray→ByteArray} {x y:cI} (h:FS ρ x y):FQ x y:=⟨h.parent,h.params,h.bz,h.zk⟩
theorem FQ.trans {x y z:cI} (h:FQ x y) (k:FQ y z):FQ x z:=⟨k.parent.trans h.parent,k.params.trans h.params,k.bz.trans h.bz,k.zk.trans h.zk⟩
def QE (a b:List cI):Prop:=b.length=a.length∧∀f,FQ (a.getD f ⟨0,0,0,false,[],[]⟩) (b.getD f ⟨0,0,0,false,[],[]⟩)
theorem FR.fq {ρ:ByteArray→ByteArray} {a b:List cI} (h:FR ρ a b):QE a b:=⟨h.1,fun f=>(h.2 f).fq⟩
theorem QE.trans {a b c:List cI} (h:QE a b) (k:QE b c):QE a c:=⟨k.1.trans h.1,fun f=>(h.2 f).trans (k.2 f)⟩
theorem QE.at {a b:List cI} (h:QE a b) {i:Nat} {x y:cI} (hx:a[i]? = some x) (hy:b[i]? = some y):FQ x y:=by
 have:=h.2 i;rwa[jU,jU,hx,hy] at this
theorem JK {x y:UInt8} (h:Two x y) {n:Nat} (hn:n≤8) {st:aG} (h0:kX (lC 97 98 n).lt=.ok st) :∃st',kX (lC x y n).lt=.ok st'∧QE st.fns st'.fns:=by
 have h1:=Fs (fun a b e=>Uw a b e) (Ux h n)
 rw[h0] at h1;cases e:kX (lC x y n).lt with
 | ok st'=>rw[e] at h1;exact⟨st',rfl,FR.fq h1⟩
 | error z=>rw[e] at h1;exact h1.elim
theorem nT {h:Nd} {ks:List Ast} (h1:decide (1≤h.line)=true) (h2:aM h=true) (h3:iP h.kind h.num (ks.map fun k=>dN k.hd.kind)=true) (h4:Ast.Et aM iP dN ks=true):Ast.ok aM iP dN (.mk h ks)=true:=by
 rw[Ast.ok,h1,h2,h3,h4];rfl
theorem Ch {c d:UInt8} (h:aM ⟨7,1,0,0,bb [c,d],[],[]⟩=true):Ast.ok aM iP dN (zg [c,d])=true :=
 nT rfl h (by show iP 7 0 []=true;decide +kernel) (by rw[Ast.Et])
theorem PZ (x y:UInt8) :∀(n:Nat) (b:Bool),iP 18 0 [dN 20,dN (stA x y n b).hd.kind]=true∧iP 18 0 [dN 19,dN (stA x y n b).hd.kind]=true
 | 0,b=>by have e:(stA x y 0 b).hd.kind=29:=rfl;rw[e];decide +kernel
 | n+1,true=>by have e:(stA x y (n+1) true).hd.kind=28:=rfl;rw[e];decide +kernel
 | n+1,false=>by have e:(stA x y (n+1) false).hd.kind=22:=rfl;rw[e];decide +kernel
theorem JL {a b:Ast} (h:Ast.ok aM iP dN a=true) (k:Ast.ok aM iP dN b=true):Ast.Et aM iP dN [a,b]=true:=by
 rw[Ast.Et,Ast.Et,Ast.Et,h,k];rfl
theorem Uy {a:Ast} (h:Ast.ok aM iP dN a=true):Ast.Et aM iP dN [a]=true:=by
 rw[Ast.Et,Ast.Et,h];rfl
theorem Qa {x y:UInt8} (h:Two x y) :∀(n:Nat) (b:Bool),Ast.ok aM iP dN (stA x y n b)=true
 | 0,_=>nT rfl (by decide +kernel) (by show iP 29 0 [dN 7,dN 7]=true;decide +kernel) (JL (Ch h.lx.f1) (Ch h.ly.f1))
 | n+1,true=>nT rfl h.lx.f2 (by show iP 28 0 [dN 11]=true;decide +kernel) (Uy (nT rfl h.ly.f4 (by show iP 11 1 [dN 18]=true;decide +kernel) (Uy (nT rfl (by decide +kernel) (PZ x y n false).1 (JL (nT rfl (by decide +kernel) (by show iP 20 1 [dN 7,dN 7]=true;decide +kernel) (JL (Ch h.lx.f1) (Ch h.ly.f3))) (Qa h n false))))))
 | n+1,false=>nT rfl (by decide +kernel) (by show iP 22 0 [dN 18]=true;decide +kernel) (Uy (nT rfl (by decide +kernel) (PZ x y n true).2 (JL (nT rfl h.ly.f5 (by show iP 19 0 [dN 7]=true;decide +kernel) (Uy (Ch h.lx.f1))) (Qa h n true))))
theorem iq {k:Int} {m:Int} {s:ByteArray} {ns:List ByteArray} (h1:0≤m∧m≤2) (h2:s.size≤2) (h3:ns.length≤2):Qh ⟨k,1,0,m,s,ns,[]⟩ :=
 ⟨by show _≤m;omega,by show m≤_;omega,by show s.size≤_;omega,by show ns.length≤_;omega,by show _≤(0:Int);omega,by show(0:Int)≤_;omega⟩
theorem lE {h:Nd} {ks:List Ast} (h1:Qh h) (h2:Hr ks):Hq (.mk h ks):=by unfold Hq;exact⟨h1,h2⟩
theorem Ci (c d:UInt8):Hq (zg [c,d]):=lE (iq ⟨by omega,by omega⟩ (ah 2) (aR _)) eW
theorem Qb (x y:UInt8) :∀(n:Nat) (b:Bool),Hq (stA x y n b)
 | 0,_=>lE (iq ⟨by omega,by omega⟩ (aR _) (aR _)) (dh (Ci _ _) (dh (Ci _ _) eW))
 | n+1,true=>lE (iq ⟨by omega,by omega⟩ (aR _) (by simp)) (dh (lE (iq ⟨by omega,by omega⟩ (aR _) (by simp)) (dh (lE (iq ⟨by omega,by omega⟩ (aR _) (aR _)) (dh (lE (iq ⟨by omega,by omega⟩ (aR _) (aR _)) (dh (Ci _ _) (dh (Ci _ _) eW))) (dh (Qb x y n false) eW))) eW)) eW)
 | n+1,false=>lE (iq ⟨by omega,by omega⟩ (aR _) (aR _)) (dh (lE (iq ⟨by omega,by omega⟩ (aR _) (aR _)) (dh (lE (iq ⟨by omega,by omega⟩ (aR _) (by simp)) (dh (Ci _ _) eW)) (dh (Qb x y n true) eW))) eW)
theorem zl (x y:UInt8) :∀(n:Nat) (b:Bool),(stA x y n b).size≤3+8*n
 | 0,_=>by
  simp only[stA,nd,zg,jh,Ast.size,Ast.al];omega
 | n+1,true=>by
  simp only[stA,nd,oA,qS,zg,jh,Ast.size,Ast.al];have:=zl x y n false;omega
 | n+1,false=>by
  simp only[stA,nd,oA,qS,zg,jh,Ast.size,Ast.al];have:=zl x y n true;omega
theorem Qc (x y:UInt8) :∀(n:Nat) (b:Bool),(stA x y n b).wt≤30+30*n
 | 0,_=>by
  simp only[stA,nd,zg,jh,Ast.wt,Ast.eY,List.length_cons,List.length_nil];omega
 | n+1,true=>by
  simp only[stA,nd,oA,qS,zg,jh,Ast.wt,Ast.eY,List.length_cons,List.length_nil];have:=Qc x y n false;omega
 | n+1,false=>by
  simp only[stA,nd,oA,qS,zg,jh,Ast.wt,Ast.eY,List.length_cons,List.length_nil];have:=Qc x y n true;omega
theorem vF (x y:UInt8) :∀(n:Nat) (b:Bool),(stA x y n b).depth≤3+5*n
 | 0,_=>by
  simp only[stA,nd,zg,jh,Ast.depth,Ast.iR];omega
 | n+1,true=>by
  simp only[stA,nd,oA,qS,zg,jh,Ast.depth,Ast.iR];have:=vF x y n false;omega
 | n+1,false=>by
  simp only[stA,nd,oA,qS,zg,jh,Ast.depth,Ast.iR];have:=vF x y n true;omega
theorem Gm {x y:UInt8} (h:Two x y) {n:Nat} (hn:n≤8):wi (lC x y n)∧(lC x y n).depth≤100:=by
 refine⟨⟨?_,rfl,?_,?_,?_⟩,?_⟩
 ·exact nT rfl (by decide +kernel) (PZ x y n true).2 (JL (nT rfl h.hd (by show iP 19 0 [dN 4,dN 4]=true;decide +kernel) (JL (by decide +kernel) (by decide +kernel))) (Qa h n true))
 ·exact lE (iq ⟨by omega,by omega⟩ (aR _) (aR _)) (dh (lE (iq ⟨by omega,by omega⟩ (aR _) (by simp)) (dh (lE (iq ⟨by omega,by omega⟩ (aR _) (aR _)) eW) (dh (lE (iq ⟨by omega,by omega⟩ (aR _) (aR _)) eW) eW))) (dh (Qb x y n true) eW))
 ·unfold lC
  simp only[nd,oA,qS,Ast.size,Ast.al];have:=zl x y n true;omega
 ·unfold lC
  simp only[nd,oA,qS,Ast.wt,Ast.eY,List.length_cons,List.length_nil];have:=Qc x y n true;omega
 ·unfold lC
  simp only[nd,oA,qS,Ast.depth,Ast.iR];have:=vF x y n true;omega
open Go.RowKit
theorem mG.later {W W':World} {B:Nat} {v:Value} {L:List mF} (h:mG W B v L) (hb:Below W.heap.size W W'):mG W' B v L :=
 have k:=Fr.ae (E:=[]) hb
 ⟨k.row h.row (by simp),fun t ht=>k.row (h.vars t ht) (by simp),fun t ht=>k.row (h.bz t ht) (by simp),h.pG,h.qA⟩
theorem Zw {s:ByteArray} {l:List UInt8} (h:s.data.toList=l):s=⟨l.toArray⟩:=by
 cases s with
 | mk d=>subst h;simp
theorem oz (a b:ByteArray):(a++b).data.toList=a.data.toList++b.data.toList:=by rw[ByteArray.data_append];simp
theorem vG {s:ByteArray} {l:List UInt8} (h:s.data.toList=l):s.size=l.length:=by rw[Zw h];simp[ByteArray.size]
theorem Qd (x y:UInt8) (n:Nat) (d:Addr) (w:World) (hn:n≤255) (hd:w.cell? d=some (.int .u8 (n:Int))):Calls Tryz.prog 17 #[.string ⟨#[x]⟩,.string ⟨#[y]⟩,.pointer (some d)] w fun e w'=>∃S:ByteArray,e=.returned (.string S)∧S.data.toList=Uv x y (n % 8+1)∧w'=w:=by
 go_enter Tryz.func17,Tryz.ntmps17
 have l6:(⟨#[108,111,99,97,108,32]⟩:ByteArray).size=6:=rfl;have lx:(⟨#[x]⟩:ByteArray).size=1:=rfl;have ly:(⟨#[y]⟩:ByteArray).size=1:=rfl;have l3:(⟨#[49,44,32]⟩:ByteArray).size=3:=rfl;have l9:(⟨#[49,32,61,32,49,44,32,50,32]⟩:ByteArray).size=9:=rfl;have l15:(⟨#[108,111,99,97,108,32,102,117,110,99,116,105,111,110,32]⟩:ByteArray).size=15:=rfl;have l2:(⟨#[50,40]⟩:ByteArray).size=2:=rfl;have l8:(⟨#[51,44,32,46,46,46,41,32]⟩:ByteArray).size=8:=rfl;have l4:(⟨#[49,32,61,32]⟩:ByteArray).size=4:=rfl;have l2a:(⟨#[51,32]⟩:ByteArray).size=2:=rfl;have l9a:(⟨#[100,111,32,108,111,99,97,108,32]⟩:ByteArray).size=9:=rfl;have l4a:(⟨#[52,32,61,32]⟩:ByteArray).size=4:=rfl;have l2b:(⟨#[49,32]⟩:ByteArray).size=2:=rfl;have l4b:(⟨#[32,101,110,100]⟩:ByteArray).size=4:=rfl;have l7:(⟨#[114,101,116,117,114,110,32]⟩:ByteArray).size=7:=rfl;have l1:(⟨#[49]⟩:ByteArray).size=1:=rfl;go_wp2_with fail
 obtain⟨m,hm⟩ :∃m,m=n % 8:=⟨_,rfl⟩;have hm8:m<8:=by omega
 have hmi:(n:Int) % 8=(m:Int):=by omega
 rw[hmi];have HM:=aa hm;clear hm hmi hn;go_loopw [6,7,19] (fun s t i wr=>∃(k:Nat) (X E:ByteArray),k≤m+1∧s=.string X∧t=.string E∧i=.int .i64 (k:Int)∧X.data.toList=preB x y k∧E.data.toList=enN k∧wr=w) (fun _ _ i _=>m+1-(intOf i).toNat)
 case atStart=>exact⟨0,_,_,aR _,rfl,rfl,rfl,by simp only[oz];rfl,rfl,rfl⟩
 case round =>
  obtain⟨k,X,E,hk,rfl,rfl,rfl,hX,hE,rfl⟩:=hrel;have ew:X.size≤400:=by
   rw[vG hX];have:=vC x y k;omega
  have hEs:E.size≤40:=by rw[vG hE,zj];omega
  have HX:=aa hX;have HE:=aa hE;clear hX hE;by_cases hlt:k<m+1
  ·have lo:=aa hlt
   have hki:decide ((k:Int)<(m:Int)+1)=true:=bM (by omega)
   by_cases h2:k % 2=0
   ·have h2i:((k:Int) % 2 == 0)=true:=by rw[tN];omega
    have H2:=aa h2;clear h2;go_wp2_with fail
    exact⟨⟨k+1,_,_,by have:=lo.out;omega,rfl,rfl,by go_num,by
     simp only[oz,HX.out];rw[preB,ak H2.out];simp only[fnB,fe,gU,mQ],by
     simp only[oz,HE.out];rfl,trivial⟩,by have:=lo.out;simp[intOf];omega⟩
   ·have h2i:((k:Int) % 2 == 0)=false:=by rw[aE];omega
    have H2:=aa h2;clear h2;go_wp2_with fail
    exact⟨⟨k+1,_,_,by have:=lo.out;omega,rfl,rfl,by go_num,by
     simp only[oz,HX.out];rw[preB,af H2.out];simp only[doB,fe,gU,mQ],by
     simp only[oz,HE.out];rfl,trivial⟩,by have:=lo.out;simp[intOf];omega⟩
  ·obtain rfl:k=m+1:=by omega
   have hki:decide (((m+1:Nat):Int)<(m:Int)+1)=false:=bL (by omega)
   go_wp2_with fail
   go_ret
   refine⟨_,rfl,?_,rfl⟩;rw[←HM.out,←Gk x y (m+1) (by omega)]
   simp only[oz,HX.out,HE.out,rtB,fe,gU,mQ]
structure V7 (W:World) (B g c:Nat) (L:List mF) (fs:List cI):Prop where
 fns:mG W B (.slice (some ⟨g,0,none⟩) L.length c) L
 are:L.map (·.1)=fs
theorem V7.later {W W':World} {B g c:Nat} {L:List mF} {fns:List cI} (h:V7 W B g c L fns) (hb:Below W.heap.size W W'):V7 W' B g c L fns:=⟨h.fns.later hb,h.are⟩
theorem V7.len {W:World} {B g c:Nat} {L:List mF} {fns:List cI} (h:V7 W B g c L fns):L.length=fns.length:=by rw[←h.are,cN]
theorem V7.fn {W:World} {B g c:Nat} {L:List mF} {fns:List cI} (h:V7 W B g c L fns) {f:Nat} {x:cI} (hx:fns[f]? = some x):f<L.length∧∃VA vc UA uc,(W.cell? ⟨g,f*6,none⟩=some (.int .i64 (x.node:Int))∧W.cell? ⟨g,f*6+1,none⟩=some (.int .i64 x.parent)∧W.cell? ⟨g,f*6+2,none⟩=some (.int .i64 (x.params:Int))∧W.cell? ⟨g,f*6+3,none⟩=some (.bool x.many)∧W.cell? ⟨g,f*6+4,none⟩=some (.slice VA x.vars.length vc)∧W.cell? ⟨g,f*6+5,none⟩=some (.slice UA x.bz.length uc)) ∧
  (∀(j:Nat) v,x.vars[j]? = some v→∃gv,VA=some ⟨gv,0,none⟩∧W.cell? ⟨gv,j*3+2,none⟩=some (.bool v.cap)) ∧
  (∀(j:Nat) v,x.bz[j]? = some v→∃gv,UA=some ⟨gv,0,none⟩∧W.cell? ⟨gv,j*2,none⟩=some (.bool v.loc)∧W.cell? ⟨gv,j*2+1,none⟩=some (.int .i64 (v.idx:Int))):=by
 rw[←h.are,gw] at hx;obtain⟨y,hy,rfl⟩:=Option.map_eq_some_iff.1 hx;have hl:=(aL.1 hy).1;obtain⟨g',c',e',_,_,vJ⟩:=h.fns.form hy;injection e' with e1 _ _;injection e1 with e1;injection e1 with e1;subst e1;have hv:=h.fns.vars y (ba hy);have hu:=h.fns.bz y (ba hy);obtain⟨VA,vc,hve,_,YD⟩:=dE hv;obtain⟨UA,uc,hue,_,J1⟩:=dE hu;refine⟨hl,VA,vc,UA,uc,⟨(vJ 0 (by omega)).1,(vJ 1 (by omega)).1,(vJ 2 (by omega)).1,(vJ 3 (by omega)).1,by rw[(vJ 4 (by omega)).1];show some y.2.1=_;rw[hve],by rw[(vJ 5 (by omega)).1];show some y.2.2=_;rw[hue]⟩,fun j v hj=>?_,fun j v hj=>?_⟩
 ·have hjl:=(aL.1 hj).1
  rcases YD with h0 | ⟨gv,rfl,_,_,YD⟩
  ·omega
  ·exact⟨gv,rfl,by rw[YD (j*3+2) (by omega),e7 uY _ j 2 v hj (by omega)];rfl⟩
 ·have hjl:=(aL.1 hj).1
  rcases J1 with h0 | ⟨gv,rfl,_,_,J1⟩
  ·omega
  ·exact⟨gv,rfl,by rw[J1 (j*2) (by omega),show j*2=j*2+0 by omega,e7 tB _ j 0 v hj (by omega)];rfl,by rw[J1 (j*2+1) (by omega),e7 tB _ j 1 v hj (by omega)];rfl⟩
theorem Qe {x y:UInt8} (h:Two x y) {n:Nat} (hn:n+1≤8) {st:aG} (hst:kX (lC 97 98 (n+1)).lt=.ok st) (mz:0<st.fns.length) (s:ByteArray) (hs:s.data.toList=Uv x y (n+1)) (w:World) (hE:nJ w):Calls Tryz.prog 16 #[.string s] w fun e w'=>Below w.heap.size w w'∧∃A m c q g cg L fns B' U U1 U2 O O1 O2,e=.returned (.tuple #[.agg #[.slice A m c,.int .i64 q],.agg #[.slice (some ⟨g,0,none⟩) L.length cg,.slice U U1 U2,.slice O O1 O2],.int .i64 0])∧V7 w' B' g cg L fns∧QE st.fns fns:=by
 obtain⟨vR,f,hl2⟩:=Zu h.lx h.ly n;have EL:cY s=1:=by unfold cY;rw[hs,vR];rfl
 have hsz:s.size≤4000:=by
  rw[vG hs,←Gk x y (n+1) hn];simp only[bV];have h1:=vC x y (n+1);have h2:=zj (n+1);have h3:(rtB x y).length=13:=by simp[rtB]
  omega
 obtain⟨st',e1,hq⟩:=JK h hn hst;refine(Gj (a:=lC x y (n+1)) (ts:=Zt x y (n+1)) (by rw[EL,hs];exact lB _ _ _ hl2) (PX x y (n+1) (by omega) hn) (Gm h hn).1 (Gm h hn).2 w hsz hE).mono ?_
 rintro e w' ⟨hb,A,m,c,q,r,hr,h1⟩;refine⟨hb,A,m,c,q,?_⟩;rw[e1] at hr;cases r with
 | error x=>exact hr.elim
 | ok st2 =>
  have oc:QE st.fns st2.fns:=hq.trans (FR.fq hr);obtain⟨sv,B',N,_,rfl,fv,ub,ob,L,rfl,hF,ha,_,_⟩:=h1;have hL:0<L.length:=by
   have h2:=ax List.length ha;rw[cN] at h2;have:=oc.1;omega
  obtain⟨g,cg,rfl,_,_,_⟩:=hF.form (f:=0) (t:=L[0]) (bE hL);exact⟨g,cg,L,st2.fns,B',_,_,_,_,_,_,rfl,⟨hF,ha⟩,oc⟩
theorem Gn :∀J,J<26→(⟨#[97,98,99,100,101,102,103,104,105,106,107,108,109,110,111,112,113,114,115,116,117,118,119,120,121,122]⟩:ByteArray).extract J (J+1)=⟨#[UInt8.ofNat (97+J)]⟩:=by decide +kernel
theorem Uz :∀J,J<26→∀K,K<26→J≠K→(UInt8.ofNat (97+J) == UInt8.ofNat (97+K))=false:=by decide +kernel
set_option maxRecDepth 100000 in
theorem zm (a b c:Int) (w:World) (a0:0≤a) (a1:a≤255) (b0:0≤b) (b1:b≤255) (c0:0≤c) (c1:c≤255) (hE:nJ w):Calls Tryz.prog 7 #[.int .u8 a,.int .u8 b,.int .u8 c] w fun e w'=>e=.returned (.bool true)∧Below w.heap.size w w':=by
 have HE:=aa hE;obtain⟨n,rfl⟩ :∃n:Nat,a=(n:Int):=⟨a.toNat,by omega⟩
 obtain⟨j,rfl⟩ :∃j:Nat,b=(j:Int):=⟨b.toNat,by omega⟩
 obtain⟨k,rfl⟩ :∃k:Nat,c=(k:Int):=⟨c.toNat,by omega⟩
 clear hE;go_enter Tryz.func7,Tryz.ntmps7
 go_wp2_with fail
 have gr:=heap_alloc_new w (.cells #[.int .u8 (n:Int)] 5);have hb0:Below w.heap.size w (w.alloc (.cells #[.int .u8 (n:Int)] 5)):=(Below.refl _ _).alloc (ah _) _;have hs0:(w.alloc (.cells #[.int .u8 (n:Int)] 5)).heap.size=w.heap.size+1:=ao _ _;generalize w.alloc (.cells #[.int .u8 (n:Int)] 5)=W0 at gr hb0 hs0 ⊢;have B0:=aa hb0;have X0:=aa gr;have S0:=aa hs0;clear gr hb0 hs0;refine(Ut W0 (HE.out.below B0.out)).mono ?_;rintro e w1 ⟨rfl,b1'⟩;have B1:=aa (B0.out.trans (b1'.mono B0.out.size));have X1:=aa ((b1'.block w.heap.size (by rw[S0.out];omega)).trans X0.out)
 clear b1';obtain⟨J,hJ,hj⟩ :∃J,J<26∧j % 26=J:=⟨_,Nat.mod_lt _ (by omega),rfl⟩
 obtain⟨K,hK,hk⟩ :∃K,K<26∧k % 26=K:=⟨_,Nat.mod_lt _ (by omega),rfl⟩
 have QD:(j:Int) % 26=(J:Int):=by omega
 have hki:(k:Int) % 26=(K:Int):=by omega
 go_wp2_with fail
 go_quiet (fail)
 rw[Gn J hJ,Gn K hK];obtain⟨w2,hw2⟩ :∃w2,w2=w1.drewN nq:=⟨_,rfl⟩;have hb2:Below w1.heap.size w1 w2:=by rw[hw2];exact below_drewN (Below.refl _ _) _
 rw[←hw2];have B2:=aa (B1.out.trans (hb2.mono B1.out.size));have X2:=aa ((hb2.block w.heap.size (aI.1 X1.out).1).trans X1.out);clear hw2 hb2;by_cases hne:J=K
 ·subst hne
  go_wp2_with fail
  go_ret
  exact⟨rfl,B2.out⟩
 ·have ZA:=sO hJ hK hne
  have hyx:=sO hK hJ (Ne.symm hne);have gne:(UInt8.ofNat (97+J) == UInt8.ofNat (97+K))=false:=Uz J hJ K hK hne;have HN:=aa a1;obtain⟨st,st1,st2,st3,st4⟩:=abV (n % 8+1) (by omega)
  generalize UInt8.ofNat (97+J)=x at ZA hyx gne ⊢;generalize UInt8.ofNat (97+K)=y at ZA hyx gne ⊢;have HM1:=aa (fun W (hd:W.cell? ⟨w.heap.size,0,none⟩=some (.int .u8 (n:Int)))=>Qd x y n ⟨w.heap.size,0,none⟩ W (by omega) hd)
  have HM2:=aa (fun W (hd:W.cell? ⟨w.heap.size,0,none⟩=some (.int .u8 (n:Int)))=>Qd y x n ⟨w.heap.size,0,none⟩ W (by omega) hd)
  have L7:=aa (fun s hs W hW=>Qe ZA (n:=n % 8) (by omega) st1 st2 s hs W hW)
  have HO2:=aa (fun s hs W hW=>Qe hyx (n:=n % 8) (by omega) st1 st2 s hs W hW)
  have H3:=aa st3;have H4:=aa st4;clear ZA hyx st1 st2 st3 st4 hne hJ hK hj hk QD hki a0 a1 b0 b1 c0 c1;go_wp2_with fail
  refine(HM1.out w2 (ab X2.out 0)).mono ?_;rintro e wm ⟨S,rfl,hS,rfl⟩;have HS:=aa hS;clear hS;go_wp2_with fail
  refine(L7.out S HS.out wm (HE.out.below B2.out)).mono ?_;rintro e w3 ⟨b3,A,m,c',q,g,cg,L,fs,B',U,U1,U2,O,O1,O2,rfl,hF,hQ⟩;have B3:=aa (B2.out.trans (b3.mono B2.out.size));have X3:=aa ((b3.block w.heap.size (aI.1 X2.out).1).trans X2.out);have HF:=aa hF;have HQ:=aa hQ;clear b3 hF hQ HS;go_wp2_with fail
  obtain⟨w4,hw4⟩ :∃w4,w4=(w3.alloc (.cells #[.slice A m c',.int .i64 q] 25)).alloc (.cells #[.slice (some ⟨g,0,none⟩) L.length cg,.slice U U1 U2,.slice O O1 O2] 35):=⟨_,rfl⟩;have hb4:Below w3.heap.size w3 w4:=by rw[hw4];exact Below.two _ _
  have hs4:w4.heap[w3.heap.size+1]? = some (.cells #[.slice (some ⟨g,0,none⟩) L.length cg,.slice U U1 U2,.slice O O1 O2] 35 (0,0)):=by
   rw[hw4];have:=heap_alloc_new (w3.alloc (.cells #[.slice A m c',.int .i64 q] 25)) (.cells #[.slice (some ⟨g,0,none⟩) L.length cg,.slice U U1 U2,.slice O O1 O2] 35);rwa[ao] at this
  rw[←hw4];have B4:=aa (B3.out.trans (hb4.mono B3.out.size));have X4:=aa ((hb4.block w.heap.size (aI.1 X3.out).1).trans X3.out);have Y4:=aa hs4;have F4:=aa (HF.out.later hb4);clear hw4 hb4 hs4 HF;refine(HM2.out w4 (ab X4.out 0)).mono ?_;rintro e wm2 ⟨S2,rfl,ZW,rfl⟩;have qd:=aa ZW;clear ZW;go_wp2_with fail
  refine(HO2.out S2 qd.out wm2 (HE.out.below B4.out)).mono ?_;rintro e w5 ⟨b5,A5,m5,c5,q5,g5,cg5,L5,fs5,B5',V,V1,V2,P,P1,P2,rfl,hF,hQ⟩;have B5:=aa (B4.out.trans (b5.mono B4.out.size));have Y5:=aa ((b5.block (w3.heap.size+1) (aI.1 Y4.out).1).trans Y4.out);have F5:=aa (F4.out.later b5);have e5:L5.length=L.length:=by
   have h1:=hF.len;have h2:=F5.out.len;have h3:=hQ.1;have h4:=HQ.out.1;omega
  have hL9:L.length≤9:=by
   have h2:=F5.out.len;have h4:=HQ.out.1;have:=H3.out;omega
  rw[e5];have E5:=aa e5;have HF:=aa hF;have HQ5:=aa hQ;have x0:w5.cell? ⟨w3.heap.size+1,0,none⟩=some (.slice (some ⟨g,0,none⟩) L.length cg):=ab Y5.out 0;have l0:w3.heap.size+1<w5.heap.size:=(aI.1 Y5.out).1;have l4:w3.heap.size<w5.heap.size:=by omega
  have l5:w3.heap.size+1<w5.heap.size+1:=by omega
  clear b5 hF hQ qd e5;go_wp2_with fail
  obtain⟨w6,Qp⟩ :∃w6,w6=(w5.alloc (.cells #[.slice A5 m5 c5,.int .i64 q5] 25)).alloc (.cells #[.slice (some ⟨g5,0,none⟩) L.length cg5,.slice V V1 V2,.slice P P1 P2] 35):=⟨_,rfl⟩;have Co:Below w5.heap.size w5 w6:=by rw[Qp];exact Below.two _ _
  have Ql:w6.heap[w5.heap.size+1]? = some (.cells #[.slice (some ⟨g5,0,none⟩) L.length cg5,.slice V V1 V2,.slice P P1 P2] 35 (0,0)):=by
   rw[Qp];have:=heap_alloc_new (w5.alloc (.cells #[.slice A5 m5 c5,.int .i64 q5] 25)) (.cells #[.slice (some ⟨g5,0,none⟩) L.length cg5,.slice V V1 V2,.slice P P1 P2] 35);rwa[ao] at this
  rw[←Qp];have B6:=aa (B5.out.trans (Co.mono B5.out.size));have Y6:=aa ((Co.block (w3.heap.size+1) (aI.1 Y5.out).1).trans Y5.out);have Z6:=aa Ql;have F6:=aa (F5.out.later Co);have G6:=aa (HF.out.later Co);clear Qp Co Ql HF x0 l0 l4 l5;go_loopw [75] (fun i wr=>∃k:Nat,k≤L.length∧i=.int .i64 (k:Int)∧Below w6.heap.size w6 wr) (fun i _=>L.length-(intOf i).toNat)
  case atStart=>exact⟨0,aR _,rfl,Below.refl ..⟩
  case round =>
   obtain⟨k,hk,rfl,hbr⟩:=hrel;have Dg:=aa hbr;by_cases hlt:k<L.length
   ·have lo:=aa hlt
    have h1:=(hbr.block (w3.heap.size+1) (aI.1 Y6.out).1).trans Y6.out;have h2:=(hbr.block (w5.heap.size+1) (aI.1 Z6.out).1).trans Z6.out;have s0:wr.cell? ⟨w3.heap.size+1,0,none⟩=some (.slice (some ⟨g,0,none⟩) L.length cg):=ab h1 0;have t0:wr.cell? ⟨w5.heap.size+1,0,none⟩=some (.slice (some ⟨g5,0,none⟩) L.length cg5):=ab h2 0;have ls:w3.heap.size+1<wr.heap.size:=(aI.1 h1).1;have lt:w5.heap.size+1<wr.heap.size:=(aI.1 h2).1;have hFr:=F6.out.later hbr;have hGr:=G6.out.later hbr;have h3:=hFr.len;have h4:=hGr.len;have h5:=E5.out;obtain⟨x,hx⟩ :∃x,fs[k]? = some x:=⟨fs[k]'(by omega),bE (by omega)⟩
    obtain⟨y,hy⟩ :∃y,fs5[k]? = some y:=⟨fs5[k]'(by omega),bE (by omega)⟩
    obtain⟨z,hz⟩ :∃z,st.fns[k]? = some z:=⟨st.fns[k]'(by have:=HQ.out.1;omega),bE (by have:=HQ.out.1;omega)⟩
    have q1:=HQ.out.at hz hx;have q2:=HQ5.out.at hz hy;have hzl:=H4.out z (ba hz);obtain⟨_,VA,vc,UA,uc,⟨c0,c1,c2,c3,c4,c5⟩,hva,hua⟩:=hFr.fn hx;obtain⟨_,VB,vd,UB,ud,⟨d0,d1,d2,d3,d4,d5⟩,ZL,hub⟩:=hGr.fn hy;have ev:y.vars.length=x.vars.length:=by have e1:=ax List.length q1.zk;have e2:=ax List.length q2.zk;simp only[cN] at e1 e2;omega
    have eu:y.bz=x.bz:=q2.bz.trans q1.bz.symm;have ec:y.vars.map jn.cap=x.vars.map jn.cap:=q2.zk.trans q1.zk.symm;have hxl:x.vars.length≤20:=by have e1:=ax List.length q1.zk;simp only[cN] at e1;omega
    have mH:x.bz.length≤20:=by rw[q1.bz];exact hzl.2
    rw[show y.parent=x.parent from q2.parent.trans q1.parent.symm] at d1
    rw[show y.params=x.params from q2.params.trans q1.params.symm] at d2
    rw[ev] at d4;rw[eu] at d5 hub;have lg:g<wr.heap.size:=block_lt_of_cell c0;have lg5:g5<wr.heap.size:=block_lt_of_cell d0;have lg':g<wr.heap.size+1:=by omega
    have adS:g5<wr.heap.size+1:=by omega
    have lt':w5.heap.size+1<wr.heap.size+1:=by omega
    have HVA:=aa hva;have HUA:=aa hua;have HVB:=aa ZL;have HUB:=aa hub;have EC:=aa ec;have EV:=aa ev;have HXL:=aa hxl;have HUL:=aa mH;clear hbr h1 h2 hFr hGr h3 h4 h5 hx hy hz q1 q2 hzl hva hua ZL hub ev eu ec hxl mH;generalize y.parent=yp at *;go_wp2_with fail
    obtain⟨W1,hW1⟩ :∃W1,W1=(wr.alloc (.cells #[.int .i64 (x.node:Int),.int .i64 x.parent,.int .i64 (x.params:Int),.bool x.many,.slice VA x.vars.length vc,.slice UA x.bz.length uc] 52)).alloc (.cells #[.int .i64 (y.node:Int),.int .i64 x.parent,.int .i64 (x.params:Int),.bool y.many,.slice VB x.vars.length vd,.slice UB x.bz.length ud] 52):=⟨_,rfl⟩;have hb1:Below wr.heap.size wr W1:=by rw[hW1];exact Below.two _ _
    have hg1:W1.heap[wr.heap.size]? = some (.cells #[.int .i64 (x.node:Int),.int .i64 x.parent,.int .i64 (x.params:Int),.bool x.many,.slice VA x.vars.length vc,.slice UA x.bz.length uc] 52 (0,0)):=by
     rw[hW1];exact(Below.heap_alloc (wr.alloc (.cells #[.int .i64 (x.node:Int),.int .i64 x.parent,.int .i64 (x.params:Int),.bool x.many,.slice VA x.vars.length vc,.slice UA x.bz.length uc] 52)) _ _ (by rw[ao];omega)).trans (heap_alloc_new wr _)
    have hh1:W1.heap[wr.heap.size+1]? = some (.cells #[.int .i64 (y.node:Int),.int .i64 x.parent,.int .i64 (x.params:Int),.bool y.many,.slice VB x.vars.length vd,.slice UB x.bz.length ud] 52 (0,0)):=by
     rw[hW1];have:=heap_alloc_new (wr.alloc (.cells #[.int .i64 (x.node:Int),.int .i64 x.parent,.int .i64 (x.params:Int),.bool x.many,.slice VA x.vars.length vc,.slice UA x.bz.length uc] 52)) (.cells #[.int .i64 (y.node:Int),.int .i64 x.parent,.int .i64 (x.params:Int),.bool y.many,.slice VB x.vars.length vd,.slice UB x.bz.length ud] 52);rwa[ao] at this
    rw[←hW1];have BW:=aa (Dg.out.trans (hb1.mono Dg.out.size));have BR:=aa hb1;have G1:=aa hg1;have K1:=aa hh1;clear hW1 hb1 hg1 hh1 s0 t0 ls lt c0 c1 c2 c3 c4 c5 d0 d1 d2 d3 d4 d5 lg lg5 lg' adS lt' hlt;go_loopw [118] (fun i wq=>∃u:Nat,u≤x.bz.length∧i=.int .i64 (u:Int)∧Below W1.heap.size W1 wq) (fun i _=>x.bz.length-(intOf i).toNat)
    case atStart=>exact⟨0,aR _,rfl,Below.refl ..⟩
    case round =>
     rename World=>wq
     obtain⟨u,hu,rfl,hbq⟩:=hrel;have g1:=(hbq.block _ (aI.1 G1.out).1).trans G1.out;have k1:=(hbq.block _ (aI.1 K1.out).1).trans K1.out;have m4:wq.cell? ⟨wr.heap.size,4,none⟩=some (.slice VA x.vars.length vc):=ab g1 4;have m5:wq.cell? ⟨wr.heap.size,5,none⟩=some (.slice UA x.bz.length uc):=ab g1 5;have n4:wq.cell? ⟨wr.heap.size+1,4,none⟩=some (.slice VB x.vars.length vd):=ab k1 4;have n5:wq.cell? ⟨wr.heap.size+1,5,none⟩=some (.slice UB x.bz.length ud):=ab k1 5;have Zg:=aa hbq;have mH:=HUL.out;by_cases ZX:u<x.bz.length
     ·have HLU:=aa ZX
      obtain⟨z,hz⟩ :∃z,x.bz[u]? = some z:=⟨x.bz[u],bE ZX⟩;obtain⟨ga,rfl,e0,e1⟩:=HUA.out u z hz;obtain⟨gb,rfl,f0,f1⟩:=HUB.out u z hz;have FM:=BR.out.trans (hbq.mono BR.out.size);have e0:=(FM.cell (block_lt_of_cell e0)).trans e0;have e1:=(FM.cell (block_lt_of_cell e1)).trans e1;have f0:=(FM.cell (block_lt_of_cell f0)).trans f0;have f1:=(FM.cell (block_lt_of_cell f1)).trans f1;clear hbq FM g1 k1 hz;generalize x.bz.length=un at *;have gul:(un≤u)=False:=eq_false (by omega)
      go_wp2_with fail
      go_quiet (fail)
      go_wp2_with fail
      exact⟨⟨u+1,by have:=HLU.out;omega,by go_num,below_drewN Zg.out _⟩,by have:=HLU.out;simp[intOf];omega⟩
     ·have XT:¬ ((u:Int)<(x.bz.length:Int)):=by omega
      have hlu2:decide ((u:Int)<(x.bz.length:Int))=false:=bL XT;clear hbq g1 k1 XT;have hxl:=HXL.out;go_wp2_with fail
      clear m4 m5 n4 n5;have BQ:=aa (BR.out.trans (Zg.out.mono BR.out.size));have BQW:=aa (BW.out.trans (Zg.out.mono BW.out.size));have G2:=aa ((Zg.out.block _ (aI.1 G1.out).1).trans G1.out);have K2:=aa ((Zg.out.block _ (aI.1 K1.out).1).trans K1.out);go_loopw [136] (fun i wz=>∃u:Nat,u≤x.vars.length∧i=.int .i64 (u:Int)∧Below wq.heap.size wq wz) (fun i _=>x.vars.length-(intOf i).toNat)
      case atStart=>exact⟨0,aR _,rfl,Below.refl ..⟩
      case round =>
       rename World=>wz
       obtain⟨v,hv,rfl,hbz⟩:=hrel;have g1:=(hbz.block _ (aI.1 G2.out).1).trans G2.out;have k1:=(hbz.block _ (aI.1 K2.out).1).trans K2.out;have m4:wz.cell? ⟨wr.heap.size,4,none⟩=some (.slice VA x.vars.length vc):=ab g1 4;have n4:wz.cell? ⟨wr.heap.size+1,4,none⟩=some (.slice VB x.vars.length vd):=ab k1 4;have HBZ:=aa hbz;by_cases hlv:v<x.vars.length
       ·have Pp:=aa hlv
        obtain⟨z,hz⟩ :∃z,x.vars[v]? = some z:=⟨x.vars[v],bE hlv⟩;obtain⟨z',hz'⟩ :∃z',y.vars[v]? = some z':=⟨y.vars[v]'(by have:=EV.out;omega),bE (by have:=EV.out;omega)⟩
        obtain⟨ga,rfl,e0⟩:=HVA.out v z hz;obtain⟨gb,rfl,f0⟩:=HVB.out v z' hz';have hzz:z'.cap=z.cap:=by
         have h1:=ax (·[v]?) EC.out
         simp only[gw,hz,hz',oN] at h1;exact gz h1
        rw[hzz] at f0;have FM:=BQ.out.trans (hbz.mono BQ.out.size);have e0:=(FM.cell (block_lt_of_cell e0)).trans e0;have f0:=(FM.cell (block_lt_of_cell f0)).trans f0;clear hbz FM g1 k1 hz hz' hzz;generalize x.vars.length=vn at *;have gul:(vn≤v)=False:=eq_false (by omega)
        go_wp2_with fail
        go_quiet (fail)
        go_wp2_with fail
        exact⟨⟨v+1,by have:=Pp.out;omega,by go_num,below_drewN HBZ.out _⟩,by have:=Pp.out;simp[intOf];omega⟩
       ·have hlv2:decide ((v:Int)<(x.vars.length:Int))=false:=bL (by omega)
        clear hbz g1 k1;go_wp2_with fail
        exact⟨⟨k+1,by have:=lo.out;omega,by go_num,Dg.out.trans ((BQ.out.trans (HBZ.out.mono BQ.out.size)).mono Dg.out.size)⟩,by have:=lo.out;simp[intOf];omega⟩
   ·have hlk2:decide ((k:Int)<(L.length:Int))=false:=bL (by omega)
    clear hbr;go_wp2_with fail
    go_ret
    exact⟨rfl,B6.out.trans (Dg.out.mono B6.out.size)⟩
end Go.Proofs.YteflkdlaoiijbaaGreatDoor
namespace Go.Proofs.YteflkdlaoiijbaaGreatDoor
open Go.ChangeShapes Go.WideShapes Go.ChangeAt Go.WideMaps Go.WideElems Go.RowKit Go.ChangeMaps
theorem own:ownKnob Tryz.prog.godebug=Option.none:=by kernel_rfl
theorem laidOut:laidOutB Tryz.prog=true:=by kernel_rfl
abbrev xX:List (String×DataW Unit):=[("unicode/utf8.acceptRanges",Rows.laid_unicode_utf8_acceptRanges),("errors.errorType",Rows.laid_errors_errorType),("unicode/utf8.first",Rows.laid_unicode_utf8_first)]
abbrev rX:List (String×DataW Unit):=[("unicode/utf8.acceptRanges",Rows.laid_unicode_utf8_acceptRanges),("unicode/utf8.first",Rows.laid_unicode_utf8_first)]
noncomputable def hand (os:Os):World :=
 { World.holding Tryz.prog os ⟨#[],#[],[]⟩ with heap:=(World.holding Tryz.prog os ⟨#[],#[],[]⟩).heap.modify 0 fun
   | .cells _ t frozen=>.cells #[.iface 165 (.agg #[.pointer (some ⟨4,27,Option.none⟩)])] t frozen
   | o=>o}
noncomputable def door (os:Os) (l:List (String×DataW Unit)):World:=(hand os).layVars Tryz.prog l
theorem UC (os:Os) (l:List (String×DataW Unit)):(door os l).os=os:=World.layVars_os _ _ _
theorem zn (os:Os):(door os rX).Shaped Tryz.prog:=World.shaped_of_ZipB (by kernel_rfl) (by kernel_rfl)
theorem JM (os:Os) (l:List (String×DataW Unit)) (hf:(hand os).layFits Tryz.prog l []=true) (hi:(hand os).layIfaces Tryz.prog l (door os l)=true):laidMet Tryz.prog l (door os l):=by
 have e1:(l.filter fun x=>(l.map (·.1)).contains x.1)=l:=List.filter_eq_self.2 fun x hx=>List.contains_iff_mem.2 (jd.2 ⟨x,hx,rfl⟩)
 have e2:(l.filter fun x=>!(l.map (·.1)).contains x.1)=[]:=List.filter_eq_nil_iff.2 fun x hx=>by rw[List.contains_iff_mem.2 (jd.2 ⟨x,hx,rfl⟩)];simp
 exact laidMet_layVars (w0:=hand os) (l.map (·.1)) [] (by rw[e1];rfl) (by rw[e1];exact hf) (by rw[e1];exact hi) (by rw[e2];exact LaidIn.none)
theorem JN (os:Os) (args:Array Value):laidMetH Tryz.prog xX ((door os rX).forCall (fun _ _=>0) ⟨#[],args,[]⟩).memory:=by
 have h:laidMetH Tryz.prog xX (door os rX):=laidMetH_of_parts (JM os rX (by kernel_rfl) (by kernel_rfl)) (by kernel_rfl)
 exact h.of_heap (by simp[World.memory,World.forCall,Input.heap])
theorem abW {W:World} (h:W.ShapedOpen Tryz.prog):Mx W:=Go.Proofs.cell_of_shapedOpen_int (zero:=#[.int .i64 0]) (t:=3) h (iG (by kernel_rfl)) (by kernel_rfl) rfl (by kernel_rfl) (by kernel_rfl) Tryz.underlying3
theorem Zx {W:World} (h:W.ShapedOpen Tryz.prog):4≤W.heap.size:=by
 have k:(((begin Tryz.prog (fun _ _=>0) default).world.heap[4-1]?).bind Obj.row?).isSome=true:=by kernel_rfl
 obtain⟨⟨zero,t⟩,hz⟩:=zD.1 k;obtain⟨cs,hc,_⟩:=h.1 (4-1) zero t (iG (by kernel_rfl)) hz
 have:=(aI.1 hc).1;omega
theorem Tryz.et:Tryz.prog.globalNamed "errors.errorType" = some 0:=by kernel_rfl
theorem Tryz.rt:(Tryz.prog.cutTypes.find? (·.1 == "internal/reflectlite.rtype")).map (·.2)=some 165:=by kernel_rfl
theorem Tryz.abX:Tryz.prog.types.size=(423-100):=by kernel_rfl
theorem Tryz.Zy:((List.range (423-100)).filter fun t=>Tryz.prog.rowNamed t [101,114,114,111,114])=[27]:=by kernel_rfl
theorem Cj {W:World} (h:handlesMet Tryz.prog [("errors.errorType",Rows.laid_errors_errorType)] W):W.cell? ⟨0,0,Option.none⟩=some (.iface 165 (.agg #[.pointer (some ⟨4,27,Option.none⟩)])):=by
 obtain⟨name,u,ty,e1,e2,e3,e4,e5⟩:=h _ (bP.2 rfl);have en:name=[101,114,114,111,114]:=(gz e1).symm;subst en;obtain rfl:=gz (Tryz.rt.symm.trans e2);have hm:ty∈(List.range (423-100)).filter fun t=>Tryz.prog.rowNamed t [101,114,114,111,114]:=wA.2 ⟨Ei.2 (by rw[←Tryz.abX];exact e3),e4⟩
 rw[Tryz.Zy] at hm;obtain rfl:=bP.1 hm;have hh:typeHandle Tryz.prog 27=.pointer (some ⟨4,27,Option.none⟩):=by kernel_rfl
 rw[hh] at e5;simpa using World.var?_cell Tryz.et e5 0
theorem adT {W:World} (hs:W.ShapedOpen Tryz.prog) (h:laidMetH Tryz.prog xX W):nJ W:=by
 have h':laidMet Tryz.prog rX W∧handlesMet Tryz.prog [("errors.errorType",Rows.laid_errors_errorType)] W:=h;exact⟨abW hs,Cj h'.2,Zx hs⟩
theorem handed {H:Type} {enc:TypeId×Value→H} {C:Checked} {os:Os} {f:FuncId} {fn:Func} {s:ChangeSpec} {X:World→Array Value→Prop}
  (hX :∀(w w':World) (args:Array Value),w.heap=w'.heap→X w args→X w' args) (own:ownKnob C.prog.godebug=Option.none) (started:os.Started) (Zz:C.prog.inits.idxOf? f=Option.none) (hfn:C.prog.funcs[f]? = some fn)
  (witness :∃(w:World) (tape:Tape) (i:Input),w.os=os∧(w.forCall tape i).Shaped C.prog∧i.vars=[]∧Input.okWide C.prog (w.forCall tape i) .any w.heap.size f i ∧
   ((s.pre enc C.prog fn [] false (w.forCall tape i).memory i.args∧X (w.forCall tape i).memory i.args)∧sizedMet enc C.prog fn (OpenSpec.ofChange s) false (w.forCall tape i).memory i.args)∧({}:Assume).holds C.prog (lone (Frame.enter C.prog f i.args .normal) [] (w.forCall tape i)))
  (contract :∀(W:World) (base:Nat) (args:Array Value) (ds gs:List (DataW H)) (before:List MemPlace),
   (∀(j:Nat) t v,fn.params[j]? = some t→args[j]? = some v→Value.okWide C.prog W .any base t v) →
   DataW.Whole enc C.prog fn.params.toList s.vars false W args.toList ds gs before→X W args→W.ShapedOpen C.prog →
   (DataW.weightsEach C.prog (fn.params.toList++(OpenSpec.ofChange s).bare.plain.varTypes C.prog) (ds++gs)).all (·≤reachBytes)=true →
   Calls C.prog f args W fun e W'=>∃v,e=.returned v∧s.post enc C.prog fn false true false false W args v W') :
  ReturnsInHanded {} C os f .any (fun w args=>(s.pre enc C.prog fn [] false w args∧X w args)∧sizedMet enc C.prog fn (OpenSpec.ofChange s) false w args) (s.post enc C.prog fn false true false false):=by
 refine returnsInHanded_of_calls own started Zz witness ?_;intro w tape i _ hsh _ CI uf _;obtain⟨_,_,_,fn',adU,_,_,_,_,hval⟩:=CI;obtain rfl:fn'=fn:=gz (adU.symm.trans hfn);obtain⟨⟨_,hx⟩,_,ds,gs,before,hw,hwt⟩:=uf;have hw':=DataW.Whole.of_heap (w':=w.forCall tape i) (by rfl) hw
 refine(contract (w.forCall tape i) w.heap.size i.args ds gs before hval hw' (hX _ _ _ (by rfl) hx) hsh hwt).mono fun e W' ⟨v,he,hp⟩=>?_
 subst he;exact ChangeSpec.post_blind hp
theorem Qf {n:Int} (h:(Lit.int .u8 n).wf=true):0≤n:=by
 have h':(decide (IntKind.u8.min≤n) && decide (n≤IntKind.u8.max))=true:=h;simp only[cX,iE] at h';exact h'.1
theorem Qg {n:Int} (h:(Lit.int .u8 n).wf=true):n≤255:=by
 have h':(decide (IntKind.u8.min≤n) && decide (n≤IntKind.u8.max))=true:=h;simp only[cX,iE] at h';exact h'.2
end Go.Proofs.YteflkdlaoiijbaaGreatDoor
