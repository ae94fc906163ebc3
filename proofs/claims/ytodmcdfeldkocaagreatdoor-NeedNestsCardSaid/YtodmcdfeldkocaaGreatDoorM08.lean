/- Parts of the proof. -/
import Derived.Lib.SlTrimSet
import Derived.Lib.ItoaNum
import Derived.Lib.IndexMore
import Derived.Lib.Replace
import Derived.Lib.Bytealg
import Derived.Shelf.Strings.Builder1
import Derived.Shelf.Strings.Builder2
import Derived.Shelf.Strings.Trim
import Derived.Shelf.Small.Utf8
import Derived.Shelf.Small.Strs
import Derived.Shelf.Small.Wraps
import Derived.Shelf.Strings.Search1
import Derived.Shelf.Strings.Search2
import Derived.Shelf.Strings.Search3
import Derived.Shelf.Strings.Cut
import Derived.Shelf.Strings.Count
import Derived.Shelf.LaysM
import Derived.Shelf.Strings.Shaped
import Derived.Shelf.Strings.Prefix
import Derived.Shelf.Strings.Split
import Derived.Shelf.Strings.Replace
import Derived.Shelf.Strings.SplitShaped
import Derived.Shelf.Strings.Runes
import Derived.Shelf.Strings.AsciiSet
import Derived.Shelf.Unicode.DecodeSlow
import Derived.Shelf.Strings.SlTrimAscii
import Derived.Lib.SplitLaws
import Derived.RangeFuncBox
import Derived.Maps.AppendAt
import Derived.Test.YtodmcdfeldkocaaGreatDoorM07
set_option maxHeartbeats 16000000
set_option maxRecDepth 20000
namespace Go.Proofs.YtodmcdfeldkocaaGreatDoor
def oV (c:Nat):Nat:=if 48≤c∧c≤57 then c-48 else if 97≤c∧c≤122 then c-87 else if 65≤c∧c≤90 then c-55 else 36
def val (b:Nat) (l:List UInt8):Nat:=l.foldl (fun n c=>n*b+oV c.toNat) 0
theorem Oe (b:Nat) (l:List UInt8) (c:UInt8):val b (l++[c])=val b l*b+oV c.toNat:=by simp[val]
def iM (b:Nat) (l:List UInt8):Bool:=l.all fun c=>decide (oV c.toNat<b)
def tl (b:Nat) (l:List UInt8):Bool:=!l.isEmpty && iM b l
theorem Jc (b:Nat) (l:List UInt8) (c:UInt8):iM b (l++[c])=(iM b l && decide (oV c.toNat<b)):=by simp[iM]
theorem BC {b:Nat} {l:List UInt8} {c:UInt8} (h:c∈l) (hc:b≤oV c.toNat):iM b l=false:=by
 unfold iM;rw[List.all_eq_false];exact⟨c,h,by simpa using hc⟩
def DT (b:Nat) (l:List UInt8):Nat:=if tl b l then val b l % 18446744073709551616 else 0
theorem yO {b:Nat} {l:List UInt8} (h:tl b l=false):DT b l=0:=by unfold DT;simp[h]
theorem DU {b:Nat} {l:List UInt8} (h:tl b l=true):DT b l=val b l % 18446744073709551616:=by unfold DT;simp[h]
theorem Jd (s:ByteArray) (k:Nat) (h:k<s.size):s.data.toList.take (k+1)=s.data.toList.take k++[s[k]]:=by
 rw[List.take_succ_eq_append_getElem (by simpa using h)];rfl
theorem get_mem (s:ByteArray) (k:Nat) (h:k<s.size):s[k]∈s.data.toList:=Lm (l:=s.data.toList) (n:=k) (by simpa using h)
def blanks:List UInt8:=[9,10,11,12,13,32]
def yP (c:Nat):Bool:=decide (9≤c∧c≤13) || decide (c=32)
theorem DV {P:UInt8→Prop} (h :∀i:Fin 256,P (UInt8.ofNat i.val)) (c:UInt8):P c:=by
 have:=h ⟨c.toNat,c.toNat_lt⟩;simpa using this
theorem l7 :∀c:UInt8,blanks.contains c=yP c.toNat:=DV (by decide +kernel)
def Gg (l:List UInt8):List UInt8:=Lib.trimS l blanks
theorem jL {p:UInt8→Bool} (l:List UInt8) (c:UInt8):(l++[c]).dropWhile p=if l.dropWhile p=[] then (if p c then [] else [c]) else l.dropWhile p++[c]:=by
 induction l with
 | nil=>simp[List.dropWhile];cases p c<;>simp
 | cons a t ih =>
  by_cases h:p a=true
  ·simp only[dT,List.dropWhile,h]
   exact ih
  ·simp[List.dropWhile,h]
theorem Zf {p:UInt8→Bool} (l:List UInt8):l.dropWhile p=[]↔∀x∈l,p x=true:=by
 induction l with
 | nil=>simp
 | cons a t ih =>
  cases h:p a
  ·simp[List.dropWhile,h]
  ·simp[List.dropWhile,h,ih]
theorem qB {p:UInt8→Bool} (l:List UInt8):l.reverse.dropWhile p=[]→l.dropWhile p=[]:=by
 intro h;rw[Zf] at h ⊢;intro x hx;exact h x (by simpa using hx)
theorem Je {p:UInt8→Bool} (l:List UInt8):(l.reverse.dropWhile p).reverse.dropWhile p=((l.dropWhile p).reverse.dropWhile p).reverse:=by
 induction l with
 | nil=>rfl
 | cons c t ih =>
  rw[ET,jL];by_cases h0:t.reverse.dropWhile p=[]
  ·rw[ai h0]
   have h1:=qB t h0;cases hc:p c
   ·simp[List.dropWhile,hc,jL,h0]
   ·simp[List.dropWhile,hc,h1]
  ·rw[ab h0]
   cases hc:p c
   ·simp[List.dropWhile,hc,jL,h0]
   ·simp[List.dropWhile,hc,ih]
theorem xE (l:List UInt8):Lib.trimRightS (Lib.trimLeftS l blanks) blanks=Gg l:=(Je l).symm
theorem Zg (l:List UInt8):(Gg l).length≤l.length:=by
 rw[←xE];unfold Lib.trimRightS Lib.trimLeftS;rw[List.length_reverse];have h1:=(EP (fun x=>blanks.contains x) (l:=(List.dropWhile (fun x=>blanks.contains x) l).reverse)).length_le
 have h2:=(EP (fun x=>blanks.contains x) (l:=l)).length_le
 rw[List.length_reverse] at h1;omega
def tm (l:List UInt8):Bool:=Lib.hasPrefix l [48,120] || Lib.hasPrefix l [48,88]
def qC (most:Int) (l:List UInt8):Bool:=tl 10 l && decide ((val 10 l:Int)≤most)
def DW (most:Int) (l:List UInt8):Nat:=if qC most l then val 10 l else 0
def qD (most:Int) (l:List UInt8):Bool:=if tm l then tl 16 (l.drop 2) else qC most l
def tn (most:Int) (l:List UInt8):Nat:=if tm l then DT 16 (l.drop 2) else DW most l
def yQ (n:Int):Int:=(n+9223372036854775808) % 18446744073709551616-9223372036854775808
def yR (l:List UInt8):Bool:=Lib.hasPrefix l [45]
def qE (b:Int) (l:List UInt8):Bool:=if 2≤b∧b≤36 then tl b.toNat (Lib.trimPrefix (Gg l) [45]) else false
def lq (b:Int) (l:List UInt8):Int:=if 2≤b∧b≤36 then (if yR (Gg l) then yQ (-(DT b.toNat (Lib.trimPrefix (Gg l) [45]):Int)) else yQ (DT b.toNat (Lib.trimPrefix (Gg l) [45]):Int)) else 0
theorem val_zero (l:List UInt8):val 10 (48::l)=val 10 l:=rfl
theorem yS (l:List UInt8) :∀n:Nat,n*10 ^ l.length≤l.foldl (fun n c=>n*10+oV c.toNat) n:=by
 induction l with
 | nil=>intro n;simp
 | cons c t ih =>
  intro n;have h:=ih (n*10+oV c.toNat);rw[List.foldl_cons,List.length_cons,E6];refine aL ?_ h;rw[wK,show n*(10 ^ t.length*10)=n*10*10 ^ t.length by rw[Nat.mul_assoc,E7 10]]
  exact gD _ _
theorem yT (l:List UInt8) (h:iM 10 l=true) :∀n m:Nat,n<m→l.foldl (fun n c=>n*10+oV c.toNat) n<m*10 ^ l.length:=by
 induction l with
 | nil=>intro n m h;simpa using h
 | cons c t ih =>
  intro n m hm;simp only[iM,sw,dp,iF] at h;have hh:=ih h.2 (n*10+oV c.toNat) (m*10) (by omega)
  rw[List.foldl_cons,List.length_cons,E6,E7 (10 ^ t.length),←Nat.mul_assoc];exact hh
theorem BD (l:List UInt8):val 10 (Lib.trimLeftB l 48)=val 10 l:=by
 unfold Lib.trimLeftB;induction l with
 | nil=>rfl
 | cons c t ih =>
  by_cases h:c=48
  ·subst h
   rw[val_zero,List.dropWhile,show((48:UInt8) == 48)=true from rfl]
   exact ih
  ·rw[List.dropWhile,show(c == 48)=false by simpa using h]
theorem xF {l:List UInt8} (h:iM 10 l=true):iM 10 (Lib.trimLeftB l 48)=true:=by
 unfold iM at *;rw[List.all_eq_true] at *;exact fun x hx=>h x ((EP _).subset hx)
theorem Jf {l:List UInt8} (h:iM 10 l=true) (hl:(Lib.trimLeftB l 48).length≤19):val 10 l<10000000000000000000:=by
 rw[←BD];have:=yT _ (xF h) 0 1 (by omega)
 rw[E8] at this;have h2:10 ^ (Lib.trimLeftB l 48).length≤10 ^ 19:=Ld (by omega) hl
 have h3:(10:Nat) ^ 19=10000000000000000000:=by decide
 unfold val;omega
theorem Jg (l:List UInt8) :∀c t,Lib.trimLeftB l 48=c::t→c≠48:=by
 unfold Lib.trimLeftB;induction l with
 | nil=>intro c t h;cases h
 | cons a r ih =>
  intro c t h;by_cases e:a=48
  ·subst e
   rw[List.dropWhile,show((48:UInt8) == 48)=true from rfl] at h
   exact ih c t h
  ·rw[List.dropWhile,show(a == 48)=false by simpa using e] at h
   injection h with h1 h2;exact h1▸e
theorem Tx {c:UInt8} (h:oV c.toNat<10) (hc:c≠48):1≤oV c.toNat:=by
 have hn:c.toNat≠48:=fun e=>hc (zT.1 e)
 unfold oV at *;split at h
 ·rename_i hh;rw[ai hh];omega
 ·split at h
  ·omega
  ·split at h<;>omega
theorem Og {l:List UInt8} (h:iM 10 l=true) (hl:19<(Lib.trimLeftB l 48).length):10000000000000000000≤val 10 l:=by
 rw[←BD];have ha:=xF h;have hh:=Jg l;generalize Lib.trimLeftB l 48=m at *;cases m with
 | nil=>simp at hl
 | cons c t =>
  simp only[iM,sw,dp,iF] at ha;have h1:=Tx ha.1 (hh c t rfl);have h2:=yS t (oV c.toNat);have h3:10 ^ 19≤10 ^ t.length:=Ld (by omega) (by simp at hl;omega)
  have h4:1*10 ^ t.length≤oV c.toNat*10 ^ t.length:=ES _ h1;have h5:(10:Nat) ^ 19=10000000000000000000:=by decide
  have h6:val 10 (c::t)=t.foldl (fun n c=>n*10+oV c.toNat) (oV c.toNat):=by simp[val]
  rw[h6];omega
theorem Oh {b:Nat} {l:List UInt8} (h:tl b l=true):iM b l=true:=by
 unfold tl at h;rw[dp] at h;exact h.2
theorem Jh {l:List UInt8} (ho:tl 10 l=true) (hl:(Lib.trimLeftB l 48).length≤19):DT 10 l=val 10 l:=by
 have:=Jf (Oh ho) hl;rw[DU ho];omega
theorem Oi {m:Int} {l:List UInt8} (ho:tl 10 l=false):qC m l=false:=by unfold qC;rw[ho];rfl
theorem Ji {m:Int} {l:List UInt8} (hm:m≤9223372036854775808) (ho:tl 10 l=true) (hl:19<(Lib.trimLeftB l 48).length):qC m l=false:=by
 have:=Og (Oh ho) hl;unfold qC;rw[ho,kP,zL];omega
theorem Ty {m:Int} {l:List UInt8} (ho:tl 10 l=true) (h:(val 10 l:Int)≤m):qC m l=true:=by unfold qC;rw[ho,kP,iF];exact h
theorem Jj {m:Int} {l:List UInt8} (h:m<(val 10 l:Int)):qC m l=false:=by unfold qC;rw[Bool.and_eq_false_iff,zL];right;omega
theorem yU {m:Int} {l:List UInt8} (h:qC m l=false):DW m l=0:=by unfold DW;simp[h]
theorem Tz {m:Int} {l:List UInt8} (h:qC m l=true):DW m l=val 10 l:=by unfold DW;simp[h]
def pB (c:UInt8):Bool:=yP c.toNat
def wj (c:UInt8):Bool:=decide (97≤c.toNat∧c.toNat≤122) || decide (65≤c.toNat∧c.toNat≤90) || decide (c.toNat=95)
def gB (c:UInt8):Bool:=decide (48≤c.toNat∧c.toNat≤57)
def zD (c:UInt8):Bool:=gB c || decide (97≤c.toNat∧c.toNat≤102) || decide (65≤c.toNat∧c.toNat≤70)
def nC (c:UInt8):Bool:=wj c || gB c
def oD (c:UInt8):Bool:=nC c || decide (c.toNat=46)
def Gh (c:UInt8):Bool:=decide (c.toNat=39) || decide (c.toNat=34)
def runN (p:UInt8→Bool) (l:List UInt8):Nat:=(l.takeWhile p).length
theorem qF (p:UInt8→Bool) (l:List UInt8):l.take (runN p l)=l.takeWhile p:=by
 unfold runN;induction l with
 | nil=>rfl
 | cons a t ih=>cases h:p a<;>simp[h,ih]
theorem qG (p:UInt8→Bool) (l:List UInt8):l.drop (runN p l)=l.dropWhile p:=by
 unfold runN;induction l with
 | nil=>rfl
 | cons a t ih=>cases h:p a<;>simp[h,ih]
theorem ig (p:UInt8→Bool) (l:List UInt8):runN p l≤l.length:=by
 unfold runN;exact(List.takeWhile_sublist p (l:=l)).length_le
def nl (l:List UInt8):Nat:=Lib.countByte l 10
theorem Zh:nl []=0:=rfl
theorem nD (a b:List UInt8):nl (a++b)=nl a+nl b:=by unfold nl Lib.countByte;rw[List.count_append]
theorem Zi (l:List UInt8) (k:Nat):nl l=nl (l.take k)+nl (l.drop k):=by rw[←nD,ER]
theorem WV (l:List UInt8):nl l≤l.length:=List.count_le_length
def keys:List (List UInt8):=[[97,110,100],[98,114,101,97,107],[100,111],[101,108,115,101],[101,108,115,101,105,102],[101,110,100],[102,97,108,115,101],[102,111,114],[102,117,110,99,116,105,111,110],[103,111,116,111],[105,102],[105,110],[108,111,99,97,108],[110,105,108],[110,111,116],[111,114],[114,101,112,101,97,116],[114,101,116,117,114,110],[116,104,101,110],[116,114,117,101],[117,110,116,105,108],[119,104,105,108,101]]
def qH (l:List UInt8):Bool:=keys.contains l
def signs:List (List UInt8):=[[43],[45],[42],[47,47],[37],[38],[124],[126],[60,60],[62,62],[46,46],[46,46,46],[61,61],[126,61],[60],[60,61],[62],[62,61],[61],[40],[41],[123],[125],[91],[93],[59],[58],[58,58],[44],[46],[35]]
def nG (l:List UInt8):Bool:=signs.contains l
def opn (l:List UInt8):Nat :=
 if Lib.hasPrefix l [91] then (if Lib.hasPrefix (Lib.trimLeftB (l.drop 1) 61) [91] then l.length-((Lib.trimLeftB (l.drop 1) 61).drop 1).length else 0) else 0
def clo (x:List UInt8):List UInt8:=Lib.replaceAll x [91] [93]
def KN (l:List UInt8):Option (List UInt8×List UInt8) :=
 if (Lib.cut (l.drop (opn l)) (clo (l.take (opn l)))).2.2 then some (Lib.trimPrefix (Lib.cut (l.drop (opn l)) (clo (l.take (opn l)))).1 [10],(Lib.cut (l.drop (opn l)) (clo (l.take (opn l)))).2.1) else none
def comm (l:List UInt8):Option (List UInt8) :=
 if 0<opn l then (KN l).map (·.2) else some (l.drop (Lib.cut l [10]).1.length)
inductive nH:List UInt8→Except (List UInt8) (List UInt8)→Prop
 | done {l r:List UInt8}:l.dropWhile pB=r→Lib.hasPrefix r [45,45]=false→nH l (.ok r)
 | more {l r r':List UInt8} {o:Except (List UInt8) (List UInt8)}:l.dropWhile pB=45::45::r→comm r=some r'→nH r' o→nH l o
 | bad {l r:List UInt8}:l.dropWhile pB=45::45::r→comm r=none→nH l (.error (45::45::r))
def code (b:Int) (p:UInt8→Bool) (least most:Nat) (l:List UInt8):Option (List UInt8×List UInt8) :=
 if qE b (l.take (min most (runN p l)))=true∧least≤min most (runN p l)∧lq b (l.take (min most (runN p l)))≤255 then
  some ([UInt8.ofNat (lq b (l.take (min most (runN p l)))).toNat],l.drop (min most (runN p l))) else none
def wk (c:UInt8):Option UInt8 :=
 if c.toNat=97 then some 7 else if c.toNat=98 then some 8 else if c.toNat=102 then some 12 else if c.toNat=110 then some 10 else if c.toNat=114 then some 13 else if c.toNat=116 then some 9 else if c.toNat=118 then some 11 else none
def qI (c:UInt8):Bool:=decide (c.toNat=92) || decide (c.toNat=39) || decide (c.toNat=34) || decide (c.toNat=10)
def pC (c:UInt8) (r:List UInt8):Option (List UInt8×List UInt8) :=
 match wk c with
 | some x=>some ([x],r)
 | none=>if qI c then some ([c],r) else if c.toNat=122 then some ([],r.dropWhile pB) else if c.toNat=120 then code 16 zD 2 2 r else if gB c then code 10 gB 1 3 (c::r) else none
def pQ:List UInt8→Option (List UInt8×List UInt8)
 | []=>none
 | c::r=>pC c r
inductive yV (q:UInt8):List UInt8→Option (List UInt8×List UInt8)→Prop
 | shut {r:List UInt8}:yV q (q::r) (some ([],r))
 | none:yV q [] none
 | line {r:List UInt8}:q≠10→yV q (10::r) none
 | pQ {r m r':List UInt8} {o:Option (List UInt8×List UInt8)}:q≠92→pQ r=some (m,r')→yV q r' o→yV q (92::r) (o.map fun x=>(m++x.1,x.2))
 | bad {r:List UInt8}:q≠92→Go.Proofs.YtodmcdfeldkocaaGreatDoor.pQ r=Option.none→yV q (92::r) Option.none
 | byte {c:UInt8} {r:List UInt8} {o:Option (List UInt8×List UInt8)}:c≠q→c≠10→c≠92→yV q r o→yV q (c::r) (o.map fun x=>(c::x.1,x.2))
def sign (l:List UInt8):Option (List UInt8×List UInt8) :=
 if nG (l.take 3) then some (l.take 3,l.drop 3) else if nG (l.take 2) then some (l.take 2,l.drop 2) else if nG (l.take 1) then some (l.take 1,l.drop 1) else none
inductive Tok:List UInt8→Option (Int×Int×List UInt8×List UInt8)→Prop
 | eof:Tok [] (some (0,0,[],[]))
 | name {c:UInt8} {r:List UInt8}:wj c=true→Tok (c::r) (some (if qH ((c::r).takeWhile nC) then 2 else 1,0,(c::r).takeWhile nC,(c::r).dropWhile nC))
 | num {c:UInt8} {r:List UInt8}:wj c=false→gB c=true→qD 9223372036854775807 ((c::r).takeWhile oD)=true →
   Tok (c::r) (some (3,yQ (tn 9223372036854775807 ((c::r).takeWhile oD):Int),[],(c::r).dropWhile oD))
 | DX {c:UInt8} {r:List UInt8}:wj c=false→gB c=true→qD 9223372036854775807 ((c::r).takeWhile oD)=false→Tok (c::r) none
 | text {c:UInt8} {r:List UInt8} {o:Option (List UInt8×List UInt8)}:wj c=false→gB c=false→Gh c=true→yV c r o→Tok (c::r) (o.map fun x=>(4,0,x.1,x.2))
 | long {c:UInt8} {r:List UInt8}:wj c=false→gB c=false→Gh c=false→0<opn (c::r)→Tok (c::r) ((KN (c::r)).map fun x=>(4,0,x.1,x.2))
 | sign {c:UInt8} {r:List UInt8}:wj c=false→gB c=false→Gh c=false→¬ 0<opn (c::r)→Tok (c::r) ((sign (c::r)).map fun x=>(5,0,x.1,x.2))
abbrev Tk:=Int×Int×Int×List UInt8
inductive l9 (L:Int):List UInt8→Except Int (List Tk)→Prop
 | ma {l r:List UInt8}:nH l (.error r)→l9 L l (.error (L-nl r))
 | pD {l r:List UInt8}:nH l (.ok r)→Tok r none→l9 L l (.error (L-nl r))
 | eof {l:List UInt8}:nH l (.ok [])→l9 L l (.ok [(0,L,0,[])])
 | step {l r r' s:List UInt8} {k n:Int} {o:Except Int (List Tk)}:nH l (.ok r)→r≠[]→Tok r (some (k,n,s,r'))→l9 L r' o→l9 L l (o.map ((k,L-nl r,n,s) :: ·))
theorem nH.tK {l:List UInt8} {o:Except (List UInt8) (List UInt8)} (h:nH l o) :∀{o'},nH l o'→o=o':=by
 induction h with
 | done h1 h2 =>
  intro o' h';cases h' with
  | done g1 g2=>rw[←h1,←g1]
  | more g1 g2 g3=>rw[h1] at g1;subst g1;simp[Lib.hasPrefix] at h2
  | bad g1 g2=>rw[h1] at g1;subst g1;simp[Lib.hasPrefix] at h2
 | more h1 h2 h3 ih =>
  intro o' h';cases h' with
  | done g1 g2=>rw[h1] at g1;subst g1;simp[Lib.hasPrefix] at g2
  | more g1 g2 g3 =>
   rw[h1] at g1;injection g1 with _ g1;injection g1 with _ g1;subst g1;rw[h2] at g2;injection g2 with g2;subst g2;exact ih g3
  | bad g1 g2 =>
   rw[h1] at g1;injection g1 with _ g1;injection g1 with _ g1;subst g1;rw[h2] at g2;cases g2
 | bad h1 h2 =>
  intro o' h';cases h' with
  | done g1 g2=>rw[h1] at g1;subst g1;simp[Lib.hasPrefix] at g2
  | more g1 g2 g3 =>
   rw[h1] at g1;injection g1 with _ g1;injection g1 with _ g1;subst g1;rw[h2] at g2;cases g2
  | bad g1 g2=>rw[←h1,←g1]
theorem yV.tK {q:UInt8} {l:List UInt8} {o:Option (List UInt8×List UInt8)} (h:yV q l o) :∀{o'},yV q l o'→o=o':=by
 induction h with
 | shut =>
  intro o' h';cases h' with
  | shut=>rfl
  | line g=>exact absurd rfl g
  | pQ g=>exact absurd rfl g
  | bad g=>exact absurd rfl g
  | byte g=>exact absurd rfl g
 | none=>intro o' h';cases h';rfl
 | line h =>
  intro o' h';cases h' with
  | shut=>exact absurd rfl h
  | line g=>rfl
  | byte g1 g2=>exact absurd rfl g2
 | pQ h1 h2 h3 ih =>
  intro o' h';cases h' with
  | shut=>exact absurd rfl h1
  | pQ g1 g2 g3 =>
   rw[h2] at g2;injection g2 with g2;injection g2 with a b;subst a;subst b;rw[ih g3]
  | bad g1 g2=>rw[h2] at g2;cases g2
  | byte g1 g2 g3=>exact absurd rfl g3
 | bad h1 h2 =>
  intro o' h';cases h' with
  | shut=>exact absurd rfl h1
  | pQ g1 g2 g3=>rw[h2] at g2;cases g2
  | bad g1 g2=>rfl
  | byte g1 g2 g3=>exact absurd rfl g3
 | byte h1 h2 h3 h4 ih =>
  intro o' h';cases h' with
  | shut=>exact absurd rfl h1
  | line=>exact absurd rfl h2
  | pQ=>exact absurd rfl h3
  | bad=>exact absurd rfl h3
  | byte g1 g2 g3 g4=>rw[ih g4]
theorem Tok.tK {l:List UInt8} {o:Option (Int×Int×List UInt8×List UInt8)} (h:Tok l o) :∀{o'},Tok l o'→o=o':=by
 intro o' h';cases h<;>cases h'<;>first|rfl|(simp_all;done)|skip
 rename_i a b c d e f g i j k;rw[e.tK k]
theorem l9.tK {L:Int} {l:List UInt8} {o:Except Int (List Tk)} (h:l9 L l o) :∀{o'},l9 L l o'→o=o':=by
 induction h with
 | ma h1 =>
  intro o' h';cases h' with
  | ma g1=>cases h1.tK g1;rfl
  | pD g1=>cases h1.tK g1
  | eof g1=>cases h1.tK g1
  | step g1=>cases h1.tK g1
 | pD h1 h2 =>
  intro o' h';cases h' with
  | ma g1=>cases h1.tK g1
  | pD g1=>cases h1.tK g1;rfl
  | eof g1=>cases h1.tK g1;cases h2
  | step g1 _ g3=>cases h1.tK g1;cases h2.tK g3
 | eof h1 =>
  intro o' h';cases h' with
  | ma g1=>cases h1.tK g1
  | pD g1 g2=>cases h1.tK g1;cases g2
  | eof g1=>rfl
  | step g1 g2=>cases h1.tK g1;exact absurd rfl g2
 | step h1 h2 h3 h4 ih =>
  intro o' h';cases h' with
  | ma g1=>cases h1.tK g1
  | pD g1 g2=>cases h1.tK g1;cases h3.tK g2
  | eof g1=>cases h1.tK g1;exact absurd rfl h2
  | step g1 g2 g3 g4 =>
   cases h1.tK g1;cases h3.tK g3;rw[ih g4]
theorem Zj (l:List UInt8):opn l≤l.length:=by unfold opn;split<;>(try split)<;>omega
theorem Zk (l:List UInt8):(Lib.cut l [10]).1=l.takeWhile (fun c=>c != 10):=by
 unfold Lib.cut;rw[Lib.index_one];induction l with
 | nil=>rfl
 | cons a t ih =>
  unfold Lib.indexByte;by_cases h:a=10
  ·subst h;simp
  ·have hb:(a == 10)=false:=by simpa using h
   simp only[List.takeWhile_cons,bne,hb,Bool.not_false];by_cases h1:0≤Lib.indexByte t 10
   ·rw[ai h1] at ih
    have e:(Lib.indexByte t 10 == -1)=false:=by simpa using (by omega:Lib.indexByte t 10≠-1)
    simp only[e,Li,if_false,if_true];rw[ai (by omega)]
    rw[show(Lib.indexByte t 10+1).toNat=(Lib.indexByte t 10).toNat+1 by omega,List.take_succ_cons]
    simp only[bne] at ih;rw[←ih]
   ·rw[ab h1] at ih
    have hge:=Lib.index_ge t [10];rw[Lib.index_one] at hge;have e:Lib.indexByte t 10 = -1:=by omega
    simp[e];simp only[bne] at ih;simpa using ih
theorem gr {c x:UInt8} (r:List UInt8) (e:wk c=some x):pC c r=some ([x],r):=by unfold pC;rw[e]
theorem lx {c:UInt8} (r:List UInt8) (e:wk c=none) (h:qI c=true):pC c r=some ([c],r):=by unfold pC;rw[e];exact ai h
theorem Oj {c:UInt8} (r:List UInt8) (e:wk c=none) (h:qI c=false) (h2:c.toNat=122):pC c r=some ([],r.dropWhile pB):=by
 unfold pC;rw[e];exact(ab (by rw[h];decide)).trans (ai h2)
theorem Ok {c:UInt8} (r:List UInt8) (e:wk c=none) (h:qI c=false) (h2:c.toNat=120):pC c r=code 16 zD 2 2 r:=by
 unfold pC;rw[e];exact(ab (by rw[h];decide)).trans ((ab (by omega)).trans (ai h2))
theorem Ol {c:UInt8} (r:List UInt8) (e:wk c=none) (h:qI c=false) (h2:c.toNat≠122) (h3:c.toNat≠120) (h4:gB c=true):pC c r=code 10 gB 1 3 (c::r):=by
 unfold pC;rw[e];exact(ab (by rw[h];decide)).trans ((ab h2).trans ((ab h3).trans (ai h4)))
theorem Gi {c:UInt8} (r:List UInt8) (e:wk c=none) (h:qI c=false) (h2:c.toNat≠122) (h3:c.toNat≠120) (h4:gB c=false):pC c r=none:=by
 unfold pC;rw[e];exact(ab (by rw[h];decide)).trans ((ab h2).trans ((ab h3).trans (ab (by rw[h4];decide))))
open Go.RowKit
theorem TB {a b:Int} (h:a=b):Ending.returned (.int .u64 a)=.returned (.int .u64 b):=by rw[h]
theorem Zl (c:Nat):c<48∨(48≤c∧c≤57)∨(58≤c∧c≤64)∨(65≤c∧c≤90)∨(91≤c∧c≤96)∨(97≤c∧c≤122)∨123≤c:=by omega
theorem xG (c:Nat) (w:World) (h:c≤255) :
  Calls Tryz.prog 171 #[.int .u8 c] w fun e w'=>e=.returned (.int .u64 (oV c:Int))∧w=w':=by
 rcases Zl c with h1|h1|h1|h1|h1|h1|h1;all_goals
  go_enter Tryz.func171,Tryz.ntmps171
  go_wp2
  go_ret
  refine⟨TB ?_,rfl⟩;unfold oV;repeat (first|rw[ai (by omega)]|rw[ab (by omega)])
  first|rfl|omega
theorem abC (c:UInt8):c.toNat≤255:=by have:=c.toNat_lt;omega
theorem Zm (s:ByteArray) (h:0<s.size):s.data.toList≠[]:=by
 intro e;have:=Lib.size_eq s;rw[e,List.length_nil] at this;omega
theorem TC (s:ByteArray) (h:¬ 0<s.size):s.data.toList=[]:=by
 have:=Lib.size_eq s;exact oG (by omega)
theorem va {b:Nat} {l:List UInt8} (h:l=[]):tl b l=false:=by subst h;rfl
theorem Gj {b:Nat} {l:List UInt8} (h:l≠[]) (h':iM b l=true):tl b l=true:=by
 unfold tl;cases l with
 | nil=>exact absurd rfl h
 | cons=>simpa using h'
theorem TD {b:Nat} {l:List UInt8} {c:UInt8} (h:c∈l) (hc:b≤oV c.toNat):tl b l=false:=by
 unfold tl;rw[BC h hc];simp
theorem mc {a a':Int} {o o':Bool} (h:a=a') (h':o=o'):Ending.returned (.tuple #[.int .u64 a,.bool o])=.returned (.tuple #[.int .u64 a',.bool o']):=by rw[h,h']
theorem Om (v b d:Nat):IntKind.u64.wrap (IntKind.u64.wrap ((v:Int) % 18446744073709551616*(b:Int))+(d:Int))=((v*b+d) % 18446744073709551616:Nat):=by
 rw[IntKind.wrap_u64,IntKind.wrap_u64];have e:(v:Int) % 18446744073709551616*(b:Int) % 18446744073709551616=(v*b:Int) % 18446744073709551616:=by
  rw[Int.mul_emod,Int.emod_emod_of_dvd _ (Int.dvd_refl _),←Int.mul_emod]
 rw[e];have:((v*b:Nat):Int)=(v*b:Int):=by simp
 rw[←this];omega
theorem ly (s:ByteArray) (b:Nat) (w:World) (hs:s.size≤9223372036854775807) :
  Calls Tryz.prog 153 #[.string s,.int .u64 b] w fun e w'=>e=.returned (.tuple #[.int .u64 (DT b s.data.toList:Int),.bool (tl b s.data.toList)])∧w=w':=by
 by_cases h0:0<s.size
 ·have hl:=Zm s h0
  have he:(s.toList.isEmpty)=false:=by rw[Lib.toList_data];simpa using hl
  have HL:=aa hl;clear hl;go_enter Tryz.func153,Tryz.ntmps153
  go_wp2
  go_loop [6,13] (fun n i=>∃k:Nat,k≤s.size∧i=.int .i64 k∧n=.int .u64 ((val b (s.data.toList.take k) % 18446744073709551616:Nat):Int)∧iM b (s.data.toList.take k)=true) (fun _ i=>s.size-(intOf i).toNat)
  case atStart=>exact⟨0,bo _,rfl,rfl,rfl⟩
  case round =>
   obtain⟨k,hk,rfl,rfl,ha⟩:=hrel;have HA:=aa ha;clear ha;by_cases hlt:k<s.size
   ·have jo:=aa (Jd s k hlt)
    by_cases hd:oV s[k].toNat<b
    ·have hm:val b (s.data.toList.take k) % 18446744073709551616<18446744073709551616:=Nat.mod_lt _ (by decide)
     have hvs:=aa (Oe b (s.data.toList.take k) s[k]);have has:=aa (Jc b (s.data.toList.take k) s[k]);generalize hv:val b (s.data.toList.take k)=v at hm hvs ⊢;clear hv;go_wp2_with (go_at_call 171;(with_reducible refine(xG _ _ (abC _)).mono ?_);rintro e w' ⟨rfl,rfl⟩)
     go_round
     case rel=>exact⟨k+1,by omega,by go_num,by rw[jo.out,hvs.out];exact aw _ (Om v b _),by rw[jo.out,has.out,HA.out];simpa using hd⟩
     case measure=>simp[intOf];omega
    ·have pn:=aa (TD (b:=b) (get_mem s k hlt) (by omega))
     go_wp2_with (go_at_call 171;(with_reducible refine(xG _ _ (abC _)).mono ?_);rintro e w' ⟨rfl,rfl⟩)
     go_ret2
     exact⟨mc (by rw[yO pn.out];rfl) pn.out.symm,rfl⟩
   ·have Fa:k=s.size:=by omega
    have ha:=HA.out;rw[Fa,Lib.size_eq,zR] at ha;have ri:=Gj HL.out ha;have HO:=aa ri;have HK:=aa Fa;clear ri Fa ha;go_wp2
    go_ret2
    exact⟨mc (by rw[DU HO.out,HK.out,Lib.size_eq,zR];omega) HO.out.symm,rfl⟩
 ·have hl:=TC s h0
  have he:(s.toList.isEmpty)=true:=by rw[Lib.toList_data,hl];rfl
  rw[yO (va hl),va hl];clear hl;go_enter Tryz.func153,Tryz.ntmps153
  go_wp2
  all_goals
   go_ret2
   exact⟨rfl,rfl⟩
end Go.Proofs.YtodmcdfeldkocaaGreatDoor
open Go.Shelf
namespace Go.Proofs
def Tryz.BE:Go.Shelf.Ren:=⟨fun|161=>159|231=>175|227=>176|233=>177|235=>178|228=>196|197=>181|151=>197|260=>200|152=>209|137=>155|119=>214|224=>192|225=>191|217=>172|266=>194|n=>n,fun|9=>9|4=>4|3=>3|5=>5|117=>239|116=>238|0=>0|124=>242|105=>248|21=>21|119=>260|46=>251|139=>263|138=>262|n=>n,fun|3=>2|4=>3|n=>n⟩
theorem Tryz.TE:Go.Proofs.Lays.n161 Tryz.prog Tryz.BE:={
 mixed:=by kernel_rfl
 f119:=Tryz.func214.trans (aw some (by kernel_rfl))
 f137:=Tryz.func155.trans (aw some (by kernel_rfl))
 f151:=Tryz.func197.trans (aw some (by kernel_rfl))
 f152:=Tryz.func209.trans (aw some (by kernel_rfl))
 f161:=Tryz.func159.trans (aw some (by kernel_rfl))
 f197:=Tryz.func181.trans (aw some (by kernel_rfl))
 f217:=Tryz.func172.trans (aw some (by kernel_rfl))
 f224:=Tryz.func192.trans (aw some (by kernel_rfl))
 f225:=Tryz.func191.trans (aw some (by kernel_rfl))
 f227:=Tryz.func176.trans (aw some (by kernel_rfl))
 f228:=Tryz.func196.trans (aw some (by kernel_rfl))
 f231:=Tryz.func175.trans (aw some (by kernel_rfl))
 f233:=Tryz.func177.trans (aw some (by kernel_rfl))
 f235:=Tryz.func178.trans (aw some (by kernel_rfl))
 f260:=Tryz.func200.trans (aw some (by kernel_rfl))
 f266:=Tryz.func194.trans (aw some (by kernel_rfl))
 t0:=Tryz.underlying0
 a0:=Tryz.isAgg0
 z0:=Tryz.sizeOf0
 v0:=Tryz.zeroValue0
 t3:=Tryz.underlying3
 a3:=Tryz.isAgg3
 z3:=Tryz.sizeOf3
 v3:=Tryz.zeroValue3
 t4:=Tryz.underlying4
 a4:=Tryz.isAgg4
 z4:=Tryz.sizeOf4
 v4:=Tryz.zeroValue4
 t5:=Tryz.underlying5
 a5:=Tryz.isAgg5
 z5:=Tryz.sizeOf5
 v5:=Tryz.zeroValue5
 t9:=Tryz.underlying9
 a9:=Tryz.isAgg9
 z9:=Tryz.sizeOf9
 v9:=Tryz.zeroValue9
 t21:=Tryz.underlying21
 a21:=Tryz.isAgg21
 z21:=Tryz.sizeOf21
 v21:=Tryz.zeroValue21
 t46:=Tryz.underlying251
 a46:=Tryz.isAgg251
 z46:=Tryz.sizeOf251
 v46:=Tryz.zeroValue251
 t105:=Tryz.underlying248
 a105:=Tryz.isAgg248
 z105:=Tryz.sizeOf248
 v105:=Tryz.zeroValue248
 t116:=Tryz.underlying238
 a116:=Tryz.isAgg238
 z116:=Tryz.sizeOf238
 t117:=Tryz.underlying239
 a117:=Tryz.isAgg239
 z117:=Tryz.sizeOf239
 v117:=Tryz.zeroValue239
 t119:=Tryz.underlying260
 a119:=Tryz.isAgg260
 z119:=Tryz.sizeOf260
 t124:=Tryz.underlying242
 a124:=Tryz.isAgg242
 z124:=Tryz.sizeOf242
 v124:=Tryz.zeroValue242
 t138:=Tryz.underlying262
 a138:=Tryz.isAgg262
 z138:=Tryz.sizeOf262
 v138:=Tryz.zeroValue262
 t139:=Tryz.underlying263
 a139:=Tryz.isAgg263
 z139:=Tryz.sizeOf263
 v139:=Tryz.zeroValue263
 g3:=by kernel_rfl
 g4:=by kernel_rfl}
open Go.RowKit in
theorem Tryz.strings_TrimLeft_one (s:ByteArray) (c:UInt8) (hc:c.toNat<128) (w:World) :
  Calls Tryz.prog 159 #[.string s,.string ⟨#[c]⟩] w fun e w'=>e=.returned (.string ⟨(Lib.trimLeftB s.data.toList c).toArray⟩)∧w'=w:=Any.strings_TrimLeft_one Tryz.TE s c hc w
def Tryz.BG:Go.Shelf.Ren:=⟨fun|160=>195|232=>206|231=>175|227=>176|234=>207|233=>177|236=>208|235=>178|228=>196|271=>213|151=>197|197=>181|120=>217|152=>209|260=>200|137=>155|119=>214|224=>192|225=>191|217=>172|266=>194|n=>n,fun|9=>9|4=>4|3=>3|5=>5|117=>239|116=>238|0=>0|124=>242|21=>21|105=>248|46=>251|119=>260|139=>263|138=>262|n=>n,fun|3=>2|4=>3|n=>n⟩
theorem Tryz.TF:Go.Proofs.Lays.n160 Tryz.prog Tryz.BG:={
 mixed:=by kernel_rfl
 f119:=Tryz.func214.trans (aw some (by kernel_rfl))
 f120:=Tryz.func217.trans (aw some (by kernel_rfl))
 f137:=Tryz.func155.trans (aw some (by kernel_rfl))
 f151:=Tryz.func197.trans (aw some (by kernel_rfl))
 f152:=Tryz.func209.trans (aw some (by kernel_rfl))
 f160:=Tryz.func195.trans (aw some (by kernel_rfl))
 f197:=Tryz.func181.trans (aw some (by kernel_rfl))
 f217:=Tryz.func172.trans (aw some (by kernel_rfl))
 f224:=Tryz.func192.trans (aw some (by kernel_rfl))
 f225:=Tryz.func191.trans (aw some (by kernel_rfl))
 f227:=Tryz.func176.trans (aw some (by kernel_rfl))
 f228:=Tryz.func196.trans (aw some (by kernel_rfl))
 f231:=Tryz.func175.trans (aw some (by kernel_rfl))
 f232:=Tryz.func206.trans (aw some (by kernel_rfl))
 f233:=Tryz.func177.trans (aw some (by kernel_rfl))
 f234:=Tryz.func207.trans (aw some (by kernel_rfl))
 f235:=Tryz.func178.trans (aw some (by kernel_rfl))
 f236:=Tryz.func208.trans (aw some (by kernel_rfl))
 f260:=Tryz.func200.trans (aw some (by kernel_rfl))
 f266:=Tryz.func194.trans (aw some (by kernel_rfl))
 f271:=Tryz.func213.trans (aw some (by kernel_rfl))
 t0:=Tryz.underlying0
 a0:=Tryz.isAgg0
 z0:=Tryz.sizeOf0
 v0:=Tryz.zeroValue0
 t3:=Tryz.underlying3
 a3:=Tryz.isAgg3
 z3:=Tryz.sizeOf3
 v3:=Tryz.zeroValue3
 t4:=Tryz.underlying4
 a4:=Tryz.isAgg4
 z4:=Tryz.sizeOf4
 v4:=Tryz.zeroValue4
 t5:=Tryz.underlying5
 a5:=Tryz.isAgg5
 z5:=Tryz.sizeOf5
 v5:=Tryz.zeroValue5
 t9:=Tryz.underlying9
 a9:=Tryz.isAgg9
 z9:=Tryz.sizeOf9
 v9:=Tryz.zeroValue9
 t21:=Tryz.underlying21
 a21:=Tryz.isAgg21
 z21:=Tryz.sizeOf21
 v21:=Tryz.zeroValue21
 t46:=Tryz.underlying251
 a46:=Tryz.isAgg251
 z46:=Tryz.sizeOf251
 v46:=Tryz.zeroValue251
 t105:=Tryz.underlying248
 a105:=Tryz.isAgg248
 z105:=Tryz.sizeOf248
 v105:=Tryz.zeroValue248
 t116:=Tryz.underlying238
 a116:=Tryz.isAgg238
 z116:=Tryz.sizeOf238
 t117:=Tryz.underlying239
 a117:=Tryz.isAgg239
 z117:=Tryz.sizeOf239
 v117:=Tryz.zeroValue239
 t119:=Tryz.underlying260
 a119:=Tryz.isAgg260
 z119:=Tryz.sizeOf260
 t124:=Tryz.underlying242
 a124:=Tryz.isAgg242
 z124:=Tryz.sizeOf242
 v124:=Tryz.zeroValue242
 t138:=Tryz.underlying262
 a138:=Tryz.isAgg262
 z138:=Tryz.sizeOf262
 v138:=Tryz.zeroValue262
 t139:=Tryz.underlying263
 a139:=Tryz.isAgg263
 z139:=Tryz.sizeOf263
 v139:=Tryz.zeroValue263
 g3:=by kernel_rfl
 g4:=by kernel_rfl}
def Tryz.BH:Go.Shelf.Ren:=⟨fun|137=>155|217=>172|266=>194|n=>n,fun|9=>9|5=>5|3=>3|n=>n,fun|n=>n⟩
theorem Tryz.TG:Go.Proofs.Lays.n137 Tryz.prog Tryz.BH:={
 mixed:=by kernel_rfl
 f137:=Tryz.func155.trans (aw some (by kernel_rfl))
 f217:=Tryz.func172.trans (aw some (by kernel_rfl))
 f266:=Tryz.func194.trans (aw some (by kernel_rfl))
 t3:=Tryz.underlying3
 a3:=Tryz.isAgg3
 z3:=Tryz.sizeOf3
 v3:=Tryz.zeroValue3
 t5:=Tryz.underlying5
 a5:=Tryz.isAgg5
 z5:=Tryz.sizeOf5
 v5:=Tryz.zeroValue5
 t9:=Tryz.underlying9
 a9:=Tryz.isAgg9
 z9:=Tryz.sizeOf9
 v9:=Tryz.zeroValue9}
open Go.RowKit in
theorem Tryz.strings_IndexByte (s:ByteArray) (c:Int) (w:World) :
  Calls Tryz.prog 155 #[.string s,.int .u8 c] w fun e w'=>e=.returned (.int .i64 (Lib.indexByte s.data.toList c.toNat.toUInt8))∧w'=w:=Any.strings_IndexByte Tryz.TG s c w
def Tryz.BJ:Go.Shelf.Ren:=⟨fun|103=>158|210=>174|206=>122|n=>n,fun|9=>9|4=>4|24=>180|3=>3|n=>n,fun|n=>n⟩
theorem Tryz.TH:Go.Proofs.Lays.n103 Tryz.prog Tryz.BJ:={
 mixed:=by kernel_rfl
 f103:=Tryz.func158.trans (aw some (by kernel_rfl))
 f206:=Tryz.func122.trans (aw some (by kernel_rfl))
 f210:=Tryz.func174.trans (aw some (by kernel_rfl))
 t3:=Tryz.underlying3
 a3:=Tryz.isAgg3
 z3:=Tryz.sizeOf3
 v3:=Tryz.zeroValue3
 t4:=Tryz.underlying4
 a4:=Tryz.isAgg4
 z4:=Tryz.sizeOf4
 v4:=Tryz.zeroValue4
 t9:=Tryz.underlying9
 a9:=Tryz.isAgg9
 z9:=Tryz.sizeOf9
 v9:=Tryz.zeroValue9
 t24:=Tryz.underlying180
 a24:=Tryz.isAgg180
 z24:=Tryz.sizeOf180
 v24:=Tryz.zeroValue180}
open Go.RowKit in
theorem Tryz.strings_CutPrefix (s p:ByteArray) (w:World) :
  Calls Tryz.prog 158 #[.string s,.string p] w fun e w'=>e=.returned (.tuple #[.string ⟨(Lib.trimPrefix s.data.toList p.data.toList).toArray⟩,.bool (Lib.hasPrefix s.data.toList p.data.toList)])∧w'=w:=Any.strings_CutPrefix Tryz.TH s p w
def Tryz.BK:Go.Shelf.Ren:=⟨fun|145=>123|220=>152|219=>170|217=>172|225=>191|224=>192|267=>193|266=>194|314=>205|n=>n,fun|9=>9|4=>4|59=>203|3=>3|5=>5|46=>251|146=>255|51=>254|n=>n,fun|1=>1|n=>n⟩
theorem Tryz.TI:Go.Proofs.Lays.n145 Tryz.prog Tryz.BK:={
 mixed:=by kernel_rfl
 f145:=Tryz.func123.trans (aw some (by kernel_rfl))
 f217:=Tryz.func172.trans (aw some (by kernel_rfl))
 f219:=Tryz.func170.trans (aw some (by kernel_rfl))
 f220:=Tryz.func152.trans (aw some (by kernel_rfl))
 f224:=Tryz.func192.trans (aw some (by kernel_rfl))
 f225:=Tryz.func191.trans (aw some (by kernel_rfl))
 f266:=Tryz.func194.trans (aw some (by kernel_rfl))
 f267:=Tryz.func193.trans (aw some (by kernel_rfl))
 f314:=Tryz.func205.trans (aw some (by kernel_rfl))
 t3:=Tryz.underlying3
 a3:=Tryz.isAgg3
 z3:=Tryz.sizeOf3
 v3:=Tryz.zeroValue3
 t4:=Tryz.underlying4
 a4:=Tryz.isAgg4
 z4:=Tryz.sizeOf4
 v4:=Tryz.zeroValue4
 t5:=Tryz.underlying5
 a5:=Tryz.isAgg5
 z5:=Tryz.sizeOf5
 v5:=Tryz.zeroValue5
 t9:=Tryz.underlying9
 a9:=Tryz.isAgg9
 z9:=Tryz.sizeOf9
 v9:=Tryz.zeroValue9
 t46:=Tryz.underlying251
 a46:=Tryz.isAgg251
 z46:=Tryz.sizeOf251
 v46:=Tryz.zeroValue251
 t51:=Tryz.underlying254
 a51:=Tryz.isAgg254
 z51:=Tryz.sizeOf254
 v51:=Tryz.zeroValue254
 t59:=Tryz.underlying203
 a59:=Tryz.isAgg203
 z59:=Tryz.sizeOf203
 v59:=Tryz.zeroValue203
 t146:=Tryz.underlying255
 a146:=Tryz.isAgg255
 z146:=Tryz.sizeOf255
 v146:=Tryz.zeroValue255
 g1:=by kernel_rfl}
open Go.RowKit Go.Lib in
theorem Tryz.strings_Cut (s sep:ByteArray) (m:Int) (w:World) (hs:s.size<4294967281) (hm:w.cell? ⟨1,0,none⟩=some (.int .i64 m)) :
  Calls Tryz.prog 123 #[.string s,.string sep] w fun e w'=>e=.returned (.tuple #[.string ⟨(Lib.cut s.data.toList sep.data.toList).1.toArray⟩,.string ⟨(Lib.cut s.data.toList sep.data.toList).2.1.toArray⟩,.bool (Lib.cut s.data.toList sep.data.toList).2.2])∧∃n,w'=w.drewN n:=Any.strings_Cut Tryz.TI s sep m w hs hm
def Tryz.BM:Go.Shelf.Ren:=⟨fun|138=>121|195=>149|218=>150|143=>151|219=>170|217=>172|225=>191|224=>192|267=>193|266=>194|314=>205|n=>n,fun|9=>9|3=>3|4=>4|5=>5|0=>0|46=>251|146=>255|51=>254|n=>n,fun|1=>1|n=>n⟩
theorem Tryz.TJ:Go.Proofs.Lays.n138 Tryz.prog Tryz.BM:={
 mixed:=by kernel_rfl
 f138:=Tryz.func121.trans (aw some (by kernel_rfl))
 f143:=Tryz.func151.trans (aw some (by kernel_rfl))
 f195:=Tryz.func149.trans (aw some (by kernel_rfl))
 f217:=Tryz.func172.trans (aw some (by kernel_rfl))
 f218:=Tryz.func150.trans (aw some (by kernel_rfl))
 f219:=Tryz.func170.trans (aw some (by kernel_rfl))
 f224:=Tryz.func192.trans (aw some (by kernel_rfl))
 f225:=Tryz.func191.trans (aw some (by kernel_rfl))
 f266:=Tryz.func194.trans (aw some (by kernel_rfl))
 f267:=Tryz.func193.trans (aw some (by kernel_rfl))
 f314:=Tryz.func205.trans (aw some (by kernel_rfl))
 t0:=Tryz.underlying0
 a0:=Tryz.isAgg0
 z0:=Tryz.sizeOf0
 v0:=Tryz.zeroValue0
 t3:=Tryz.underlying3
 a3:=Tryz.isAgg3
 z3:=Tryz.sizeOf3
 v3:=Tryz.zeroValue3
 t4:=Tryz.underlying4
 a4:=Tryz.isAgg4
 z4:=Tryz.sizeOf4
 v4:=Tryz.zeroValue4
 t5:=Tryz.underlying5
 a5:=Tryz.isAgg5
 z5:=Tryz.sizeOf5
 v5:=Tryz.zeroValue5
 t9:=Tryz.underlying9
 a9:=Tryz.isAgg9
 z9:=Tryz.sizeOf9
 v9:=Tryz.zeroValue9
 t46:=Tryz.underlying251
 a46:=Tryz.isAgg251
 z46:=Tryz.sizeOf251
 v46:=Tryz.zeroValue251
 t51:=Tryz.underlying254
 a51:=Tryz.isAgg254
 z51:=Tryz.sizeOf254
 v51:=Tryz.zeroValue254
 t146:=Tryz.underlying255
 a146:=Tryz.isAgg255
 z146:=Tryz.sizeOf255
 v146:=Tryz.zeroValue255
 g1:=by kernel_rfl}
open Go.RowKit Go.Lib in
theorem Tryz.strings_Count_one (s:ByteArray) (c:UInt8) (w:World) :
  Calls Tryz.prog 121 #[.string s,.string ⟨#[c]⟩] w fun e w'=>e=.returned (.int .i64 (Lib.countByte s.data.toList c))∧w'=w:=Any.strings_Count_one Tryz.TJ s c w
def Tryz.DY:Go.Shelf.Ren:=⟨fun|99=>85|206=>122|n=>n,fun|9=>9|4=>4|3=>3|n=>n,fun|n=>n⟩
theorem Tryz.Zn:Go.Proofs.Lays.n99 Tryz.prog Tryz.DY:={
 mixed:=by kernel_rfl
 f99:=Tryz.func85.trans (aw some (by kernel_rfl))
 f206:=Tryz.func122.trans (aw some (by kernel_rfl))
 t3:=Tryz.underlying3
 a3:=Tryz.isAgg3
 z3:=Tryz.sizeOf3
 v3:=Tryz.zeroValue3
 t4:=Tryz.underlying4
 a4:=Tryz.isAgg4
 z4:=Tryz.sizeOf4
 v4:=Tryz.zeroValue4
 t9:=Tryz.underlying9
 a9:=Tryz.isAgg9
 z9:=Tryz.sizeOf9
 v9:=Tryz.zeroValue9}
open Go.RowKit Go.Lib in
theorem Tryz.strings_HasPrefix (s p:ByteArray) (w:World) :
  Calls Tryz.prog 85 #[.string s,.string p] w fun e w'=>e=.returned (.bool (Lib.hasPrefix s.data.toList p.data.toList))∧w'=w:=Any.strings_HasPrefix Tryz.Zn s p w
def Tryz.BN:Go.Shelf.Ren:=⟨fun|101=>129|208=>161|206=>122|n=>n,fun|9=>9|4=>4|3=>3|n=>n,fun|n=>n⟩
theorem Tryz.TK:Go.Proofs.Lays.n101 Tryz.prog Tryz.BN:={
 mixed:=by kernel_rfl
 f101:=Tryz.func129.trans (aw some (by kernel_rfl))
 f206:=Tryz.func122.trans (aw some (by kernel_rfl))
 f208:=Tryz.func161.trans (aw some (by kernel_rfl))
 t3:=Tryz.underlying3
 a3:=Tryz.isAgg3
 z3:=Tryz.sizeOf3
 v3:=Tryz.zeroValue3
 t4:=Tryz.underlying4
 a4:=Tryz.isAgg4
 z4:=Tryz.sizeOf4
 v4:=Tryz.zeroValue4
 t9:=Tryz.underlying9
 a9:=Tryz.isAgg9
 z9:=Tryz.sizeOf9
 v9:=Tryz.zeroValue9}
open Go.RowKit Go.Lib in
theorem Tryz.strings_TrimPrefix (s p:ByteArray) (w:World) :
  Calls Tryz.prog 129 #[.string s,.string p] w fun e w'=>e=.returned (.string ⟨(Lib.trimPrefix s.data.toList p.data.toList).toArray⟩)∧w'=w:=Any.strings_TrimPrefix Tryz.TK s p w
def Tryz.sM:Go.Shelf.Ren:=⟨fun|155=>128|154=>160|138=>121|165=>179|143=>151|166=>180|197=>181|169=>182|195=>149|218=>150|240=>198|241=>199|219=>170|260=>200|276=>210|277=>211|217=>172|225=>191|224=>192|267=>193|266=>194|314=>205|n=>n,fun|9=>9|3=>3|4=>4|72=>245|0=>0|76=>79|105=>248|21=>21|5=>5|70=>243|20=>20|37=>208|75=>29|127=>253|164=>96|46=>251|119=>260|139=>263|138=>262|146=>255|51=>254|80=>122|n=>n,fun|1=>1|3=>2|4=>3|n=>n⟩
theorem Tryz.TL:Go.Proofs.Lays.n155 Tryz.prog Tryz.sM:={
 mixed:=by kernel_rfl
 f138:=Tryz.func121.trans (aw some (by kernel_rfl))
 f143:=Tryz.func151.trans (aw some (by kernel_rfl))
 f154:=Tryz.func160.trans (aw some (by kernel_rfl))
 f155:=Tryz.func128.trans (aw some (by kernel_rfl))
 f165:=Tryz.func179.trans (aw some (by kernel_rfl))
 f166:=Tryz.func180.trans (aw some (by kernel_rfl))
 f169:=Tryz.func182.trans (aw some (by kernel_rfl))
 f195:=Tryz.func149.trans (aw some (by kernel_rfl))
 f197:=Tryz.func181.trans (aw some (by kernel_rfl))
 f217:=Tryz.func172.trans (aw some (by kernel_rfl))
 f218:=Tryz.func150.trans (aw some (by kernel_rfl))
 f219:=Tryz.func170.trans (aw some (by kernel_rfl))
 f224:=Tryz.func192.trans (aw some (by kernel_rfl))
 f225:=Tryz.func191.trans (aw some (by kernel_rfl))
 f240:=Tryz.func198.trans (aw some (by kernel_rfl))
 f241:=Tryz.func199.trans (aw some (by kernel_rfl))
 f260:=Tryz.func200.trans (aw some (by kernel_rfl))
 f266:=Tryz.func194.trans (aw some (by kernel_rfl))
 f267:=Tryz.func193.trans (aw some (by kernel_rfl))
 f276:=Tryz.func210.trans (aw some (by kernel_rfl))
 f277:=Tryz.func211.trans (aw some (by kernel_rfl))
 f314:=Tryz.func205.trans (aw some (by kernel_rfl))
 t0:=Tryz.underlying0
 a0:=Tryz.isAgg0
 z0:=Tryz.sizeOf0
 v0:=Tryz.zeroValue0
 t3:=Tryz.underlying3
 a3:=Tryz.isAgg3
 z3:=Tryz.sizeOf3
 v3:=Tryz.zeroValue3
 t4:=Tryz.underlying4
 a4:=Tryz.isAgg4
 z4:=Tryz.sizeOf4
 v4:=Tryz.zeroValue4
 t5:=Tryz.underlying5
 a5:=Tryz.isAgg5
 z5:=Tryz.sizeOf5
 v5:=Tryz.zeroValue5
 t9:=Tryz.underlying9
 a9:=Tryz.isAgg9
 z9:=Tryz.sizeOf9
 v9:=Tryz.zeroValue9
 t20:=Tryz.underlying20
 a20:=Tryz.isAgg20
 z20:=Tryz.sizeOf20
 v20:=Tryz.zeroValue20
 t21:=Tryz.underlying21
 a21:=Tryz.isAgg21
 z21:=Tryz.sizeOf21
 v21:=Tryz.zeroValue21
 t37:=Tryz.underlying208
 a37:=Tryz.isAgg208
 z37:=Tryz.sizeOf208
 v37:=Tryz.zeroValue208
 t46:=Tryz.underlying251
 a46:=Tryz.isAgg251
 z46:=Tryz.sizeOf251
 v46:=Tryz.zeroValue251
 t51:=Tryz.underlying254
 a51:=Tryz.isAgg254
 z51:=Tryz.sizeOf254
 v51:=Tryz.zeroValue254
 t70:=Tryz.underlying243
 a70:=Tryz.isAgg243
 z70:=Tryz.sizeOf243
 v70:=Tryz.zeroValue243
 t72:=Tryz.underlying245
 a72:=Tryz.isAgg245
 z72:=Tryz.sizeOf245
 v72:=Tryz.zeroValue245
 t75:=Tryz.underlying29
 a75:=Tryz.isAgg29
 z75:=Tryz.sizeOf29
 v75:=Tryz.zeroValue29
 t76:=Tryz.underlying79
 a76:=Tryz.isAgg79
 z76:=Tryz.sizeOf79
 v76:=Tryz.zeroValue79
 t105:=Tryz.underlying248
 a105:=Tryz.isAgg248
 z105:=Tryz.sizeOf248
 v105:=Tryz.zeroValue248
 t119:=Tryz.underlying260
 a119:=Tryz.isAgg260
 z119:=Tryz.sizeOf260
 t127:=Tryz.underlying253
 a127:=Tryz.isAgg253
 z127:=Tryz.sizeOf253
 v127:=Tryz.zeroValue253
 t138:=Tryz.underlying262
 a138:=Tryz.isAgg262
 z138:=Tryz.sizeOf262
 v138:=Tryz.zeroValue262
 t139:=Tryz.underlying263
 a139:=Tryz.isAgg263
 z139:=Tryz.sizeOf263
 v139:=Tryz.zeroValue263
 t146:=Tryz.underlying255
 a146:=Tryz.isAgg255
 z146:=Tryz.sizeOf255
 v146:=Tryz.zeroValue255
 t164:=Tryz.underlying96
 a164:=Tryz.isAgg96
 z164:=Tryz.sizeOf96
 v164:=Tryz.zeroValue96
 g1:=by kernel_rfl
 g3:=by kernel_rfl
 g4:=by kernel_rfl}
theorem Tryz.qJ:Builder.Extra Tryz.prog Tryz.sM:={
 sizeBuilder:=by kernel_rfl
 liesBuilder:=by kernel_rfl
 t5:=Tryz.underlying5
 a5:=Tryz.isAgg5
 z5:=Tryz.sizeOf5
 v5:=Tryz.zeroValue5
 infoByte:=by kernel_rfl
 cellsByte:=by kernel_rfl
 sizeByte:=by kernel_rfl
 neB5:=by decide}
open Go.RowKit Go.Lib in
theorem Tryz.strings_ReplaceAll (s old new:ByteArray) (m:Int) (w:World) (hs:s.size<4294967281) (hm:w.cell? ⟨1,0,none⟩=some (.int .i64 m)) (h1:1≤old.size) (hlen:s.size+Lib.countB s old*new.size≤140737488355328) :
  Calls Tryz.prog 128 #[.string s,.string old,.string new] w fun e w' =>
   e=.returned (.string ⟨(Lib.replaceAll s.data.toList old.data.toList new.data.toList).toArray⟩)∧Below w.heap.size w w':=Any.strings_ReplaceAll Tryz.TL Tryz.qJ s old new m w hs hm h1 hlen
end Go.Proofs
namespace Go.Proofs.YtodmcdfeldkocaaGreatDoor
open Go.RowKit
theorem DZ {a a':Int} {o o':Bool} (h:a=a') (h':o=o'):Ending.returned (.tuple #[.int .i64 a,.bool o])=.returned (.tuple #[.int .i64 a',.bool o']):=by rw[h,h']
theorem Oo (s:ByteArray) (w:World):Calls Tryz.prog 159 #[.string s,.string ⟨#[48]⟩] w fun e w'=>e=.returned (.string ⟨(Lib.trimLeftB s.data.toList 48).toArray⟩)∧w=w' :=
 (Tryz.strings_TrimLeft_one s 48 (by decide) w).mono fun _ _ ⟨h,h'⟩=>⟨h,h'.symm⟩
theorem Oq (s:ByteArray) (b:Nat) (w:World) (hs:s.size≤9223372036854775807) (h:tl b s.data.toList=false) :
  Calls Tryz.prog 153 #[.string s,.int .u64 b] w fun e w'=>e=.returned (.tuple #[.int .u64 0,.bool false])∧w=w':=by
 have hc:=ly s b w hs;rw[yO h,h] at hc;exact hc
theorem xH (s:ByteArray) (b:Nat) (w:World) (hs:s.size≤9223372036854775807) (h:tl b s.data.toList=true) :
  Calls Tryz.prog 153 #[.string s,.int .u64 b] w fun e w'=>e=.returned (.tuple #[.int .u64 (DT b s.data.toList:Int),.bool true])∧w=w':=by
 have hc:=ly s b w hs;rw[h] at hc;exact hc
theorem BO (s:ByteArray) (m:Int) (w:World) (hs:s.size≤9223372036854775807) (hm:m≤9223372036854775808) :
  Calls Tryz.prog 154 #[.string s,.int .u64 m] w fun e w'=>e=.returned (.tuple #[.int .u64 (DW m s.data.toList:Int),.bool (qC m s.data.toList)])∧w=w':=by
 cases ho:tl 10 s.data.toList
 ·have HN:=aa (Oi (m:=m) ho)
  have HO:=aa ho;clear ho;go_enter Tryz.func154,Tryz.ntmps154
  go_wp2_with fail
  refine(Oq s 10 _ hs HO.out).mono ?_;rintro e w1 ⟨rfl,rfl⟩;go_wp2_with fail
  go_ret2
  exact⟨mc (by rw[yU HN.out];rfl) HN.out.symm,rfl⟩
 ·have HO:=aa ho
  by_cases hl:(Lib.trimLeftB s.data.toList 48).length≤19
  ·have HW:=aa (Jh ho hl)
   clear ho;obtain⟨v,hv⟩ :∃v:Int,v=(val 10 s.data.toList:Int):=⟨_,rfl⟩;have HV:=aa hv;have HC:=aa (fun(w:World)=>HV.out▸HW.out▸xH s 10 w hs HO.out)
   clear hv;by_cases hvm:v≤m
   ·have HN:=aa (Ty HO.out (HV.out▸hvm))
    go_enter Tryz.func154,Tryz.ntmps154
    go_wp2_with fail
    refine(HC.out _).mono ?_;rintro e w1 ⟨rfl,rfl⟩;go_wp2_with fail
    refine(Oo _ _).mono ?_;rintro e w2 ⟨rfl,rfl⟩;go_wp2_with fail
    go_ret2
    exact⟨mc (by rw[Tz HN.out];exact HV.out) HN.out.symm,rfl⟩
   ·have HN:=aa (Jj (HV.out▸Int.lt_of_not_ge hvm))
    go_enter Tryz.func154,Tryz.ntmps154
    go_wp2_with fail
    refine(HC.out _).mono ?_;rintro e w1 ⟨rfl,rfl⟩;go_wp2_with fail
    refine(Oo _ _).mono ?_;rintro e w2 ⟨rfl,rfl⟩;go_wp2_with fail
    go_ret2
    exact⟨mc (by rw[yU HN.out];rfl) HN.out.symm,rfl⟩
  ·have HN:=aa (Ji hm ho (Nat.lt_of_not_le hl))
   clear ho;go_enter Tryz.func154,Tryz.ntmps154
   go_wp2_with fail
   refine(xH s 10 _ hs HO.out).mono ?_;rintro e w1 ⟨rfl,rfl⟩;go_wp2_with fail
   refine(Oo _ _).mono ?_;rintro e w2 ⟨rfl,rfl⟩;go_wp2_with fail
   go_ret2
   exact⟨mc (by rw[yU HN.out];rfl) HN.out.symm,rfl⟩
theorem me (s p:ByteArray) (w:World) (r:Bool) (h:Lib.hasPrefix s.data.toList p.data.toList=r):Calls Tryz.prog 85 #[.string s,.string p] w fun e w'=>e=.returned (.bool r)∧w=w' :=
 (Tryz.strings_HasPrefix s p w).mono fun _ _ ⟨a,b⟩=>⟨by rw[a,h],b.symm⟩
theorem vb (s:ByteArray) (k:Nat):(⟨(s.data.toList.drop k).toArray⟩:ByteArray)=s.extract k s.size:=by
 rw[Lib.extract_eq,tV (by rw[jb,Lib.size_eq];omega)]
theorem abD {s:ByteArray} {a b:UInt8} (h:Lib.hasPrefix s.data.toList [a,b]=true):2≤s.size:=by
 rw[Lib.size_eq];unfold Lib.hasPrefix at h;match hs:s.data.toList,h with
 | [],h=>simp[List.isPrefixOf] at h
 | [_],h=>simp[List.isPrefixOf] at h
 | _::_::_,_=>simp
theorem Zo {l:List UInt8} (h:Lib.hasPrefix l [48,120]=true):tm l=true:=by unfold tm;rw[h];rfl
theorem Zq {l:List UInt8} (h:Lib.hasPrefix l [48,88]=true):tm l=true:=by unfold tm;rw[h];simp
theorem Zr {l:List UInt8} (h:Lib.hasPrefix l [48,120]=false) (h':Lib.hasPrefix l [48,88]=false):tm l=false:=by unfold tm;rw[h,h'];rfl
theorem BP {m:Int} {l:List UInt8} (h:tm l=true):qD m l=tl 16 (l.drop 2):=by unfold qD;simp[h]
theorem BQ {m:Int} {l:List UInt8} (h:tm l=true):tn m l=DT 16 (l.drop 2):=by unfold tn;simp[h]
theorem Ot {m:Int} {l:List UInt8} (h:tm l=false):qD m l=qC m l:=by unfold qD;simp[h]
theorem Ou {m:Int} {l:List UInt8} (h:tm l=false):tn m l=DW m l:=by unfold tn;simp[h]
theorem vd (s:ByteArray) (k b:Nat) (w:World) (hs:s.size≤9223372036854775807) :
  Calls Tryz.prog 153 #[.string (s.extract k s.size),.int .u64 b] w fun e w'=>e=.returned (.tuple #[.int .u64 (DT b (s.data.toList.drop k):Int),.bool (tl b (s.data.toList.drop k))])∧w=w':=by
 have h:=ly ⟨(s.data.toList.drop k).toArray⟩ b w (by rw[Lib.size_mk,jb,←Lib.size_eq];omega)
 rw[vb] at h;rw[show(s.extract k s.size).data.toList=s.data.toList.drop k by rw[←vb]] at h
 exact h
theorem BU (s:ByteArray) (m:Int) (w:World) (hs:s.size≤9223372036854775807) (hm:m≤9223372036854775808) :
  Calls Tryz.prog 125 #[.string s,.int .u64 m] w fun e w'=>e=.returned (.tuple #[.int .u64 (tn m s.data.toList:Int),.bool (qD m s.data.toList)])∧w=w':=by
 have HM:=aa hm;clear hm;cases h1:Lib.hasPrefix s.data.toList [48,120]
 ·cases h2:Lib.hasPrefix s.data.toList [48,88]
  ·have HX:=aa (Zr h1 h2)
   have H1:=aa h1;have H2:=aa h2;clear h1 h2;go_enter Tryz.func125,Tryz.ntmps125
   go_wp2_with fail
   refine(me _ _ _ _ H1.out).mono ?_;rintro e w1 ⟨rfl,rfl⟩;go_wp2_with fail
   refine(me _ _ _ _ H2.out).mono ?_;rintro e w1 ⟨rfl,rfl⟩;go_wp2_with fail
   refine(BO _ _ _ hs HM.out).mono ?_;rintro e w1 ⟨rfl,rfl⟩;go_wp2_with fail
   go_ret2
   exact⟨mc (by rw[Ou HX.out]) (Ot HX.out).symm,rfl⟩
  ·have HX:=aa (Zq h2)
   have H1:=aa h1;have H2:=aa h2;have hz:=abD h2;clear h1 h2;go_enter Tryz.func125,Tryz.ntmps125
   go_wp2_with fail
   refine(me _ _ _ _ H1.out).mono ?_;rintro e w1 ⟨rfl,rfl⟩;go_wp2_with fail
   refine(me _ _ _ _ H2.out).mono ?_;rintro e w1 ⟨rfl,rfl⟩;go_wp2_with fail
   refine(vd _ 2 16 _ hs).mono ?_;rintro e w1 ⟨rfl,rfl⟩;go_wp2_with fail
   go_ret2
   exact⟨mc (by rw[BQ HX.out]) (BP HX.out).symm,rfl⟩
 ·have HX:=aa (Zo h1)
  have H1:=aa h1;have hz:=abD h1;clear h1;go_enter Tryz.func125,Tryz.ntmps125
  go_wp2_with fail
  refine(me _ _ _ _ H1.out).mono ?_;rintro e w1 ⟨rfl,rfl⟩;go_wp2_with fail
  refine(vd _ 2 16 _ hs).mono ?_;rintro e w1 ⟨rfl,rfl⟩;go_wp2_with fail
  go_ret2
  exact⟨mc (by rw[BQ HX.out]) (BP HX.out).symm,rfl⟩
theorem yW (n:Int):wrap64 n=yQ n:=by unfold wrap64 yQ;rfl
theorem TM (n:Int):yQ (IntKind.u64.wrap n)=yQ n:=by rw[IntKind.wrap_u64];unfold yQ;omega
theorem BV (s:ByteArray) (w:World) (hs:s.size≤9223372036854775807) :
  Calls Tryz.prog 90 #[.string s] w fun e w'=>e=.returned (.tuple #[.int .i64 (yQ (tn 9223372036854775807 s.data.toList:Int)),.bool (qD 9223372036854775807 s.data.toList)])∧w=w':=by
 go_enter Tryz.func90,Tryz.ntmps90
 go_wp2_with fail
 refine(BU _ _ _ hs (by omega)).mono ?_;rintro e w1 ⟨rfl,rfl⟩
 go_wp2_with fail
 go_ret2
 exact⟨DZ (by first|exact yW _|exact acD _) rfl,rfl⟩
theorem Ov (s:ByteArray) (w:World) (hs:s.size≤9223372036854775807) :
  Calls Tryz.prog 195 #[.string s,.string ⟨#[9,10,11,12,13,32]⟩] w fun e w'=>e=.returned (.string ⟨(Gg s.data.toList).toArray⟩)∧Below w.heap.size w w' :=
 Any.strings_Trim_laid Tryz.TF (by kernel_rfl) s ⟨#[9,10,11,12,13,32]⟩ w hs (by decide) (ascii_of_all (by decide))
theorem Ow (s:ByteArray):(⟨(Gg s.data.toList).toArray⟩:ByteArray).size≤s.size:=by
 rw[Lib.size_mk,Lib.size_eq];exact Zg _
theorem abE (t:ByteArray) (w:World) (r:Bool) (h:yR t.data.toList=r) :
  Calls Tryz.prog 158 #[.string t,.string ⟨#[45]⟩] w fun e w'=>e=.returned (.tuple #[.string ⟨(Lib.trimPrefix t.data.toList [45]).toArray⟩,.bool r])∧w=w' :=
 (Tryz.strings_CutPrefix t ⟨#[45]⟩ w).mono fun _ _ ⟨a,b⟩=>⟨by rw[a,←h];rfl,b.symm⟩
theorem Ox (t:ByteArray) (p:List UInt8):(⟨(Lib.trimPrefix t.data.toList p).toArray⟩:ByteArray).size≤t.size:=by
 rw[Lib.size_mk,Lib.size_eq];exact Lib.trimPrefix_le _ _
theorem Oy {b:Int} {l:List UInt8} (h:¬ (2≤b∧b≤36)):qE b l=false:=by unfold qE;rw[ab h]
theorem Oz {b:Int} {l:List UInt8} (h:¬ (2≤b∧b≤36)):lq b l=0:=by unfold lq;rw[ab h]
theorem Jk (s:ByteArray) (b:Int) (w:World) (h:¬ (2≤b∧b≤36)) :
  Calls Tryz.prog 173 #[.string s,.int .i64 b] w fun e w'=>e=.returned (.tuple #[.int .i64 (lq b s.data.toList),.bool (qE b s.data.toList)])∧Below w.heap.size w w':=by
 rw[Oy h,Oz h];by_cases h1:b<2
 ·clear h
  go_enter Tryz.func173,Tryz.ntmps173
  go_wp2_with fail
  go_ret2
  exact⟨rfl,Below.refl _ _⟩
 ·have h2:36<b:=by omega
  clear h;go_enter Tryz.func173,Tryz.ntmps173
  go_wp2_with fail
  go_ret2
  exact⟨rfl,Below.refl _ _⟩
theorem OA (s:ByteArray) (b:Nat) (w:World) (hs:s.size≤9223372036854775807) (h1:2≤b) (h2:b≤36) :
  Calls Tryz.prog 173 #[.string s,.int .i64 b] w fun e w'=>e=.returned (.tuple #[.int .i64 (lq b s.data.toList),.bool (qE b s.data.toList)])∧Below w.heap.size w w':=by
 have hz:=Ow s;have HT:=aa (show(⟨(Gg s.data.toList).toArray⟩:ByteArray).data.toList=Gg s.data.toList from rfl)
 have HC:=aa (Ov s · hs)
 generalize (⟨(Gg s.data.toList).toArray⟩:ByteArray)=t at hz HT HC;have hm:=Ox t [45];have ho:qE b s.data.toList=tl b (Lib.trimPrefix t.data.toList [45]):=by unfold qE;rw[←HT.out,ai (by omega)];rfl
 have HO:=aa ho;clear ho;cases h:yR t.data.toList
 ·have HH:=aa h
  clear h;have hn:lq b s.data.toList=yQ (DT b (Lib.trimPrefix t.data.toList [45]):Int):=by unfold lq;rw[←HT.out,ai (by omega),ab (by rw[HH.out];exact gd)];rfl
  have HN:=aa hn;clear hn;go_enter Tryz.func173,Tryz.ntmps173
  go_wp2_with fail
  refine(HC.out _).mono ?_;rintro e w1 ⟨rfl,b1⟩;go_wp2_with fail
  refine(abE _ _ _ HH.out).mono ?_;rintro e w2 ⟨rfl,rfl⟩;go_wp2_with fail
  refine(ly _ b _ (by omega)).mono ?_;rintro e w2 ⟨rfl,rfl⟩
  go_wp2_with fail
  go_ret2
  exact⟨DZ (by rw[HN.out];exact yW _) HO.out.symm,b1⟩
 ·have HH:=aa h
  clear h;have hn:lq b s.data.toList=yQ (-(DT b (Lib.trimPrefix t.data.toList [45]):Int)):=by unfold lq;rw[←HT.out,ai (by omega),ai HH.out];rfl
  have HN:=aa hn;clear hn;go_enter Tryz.func173,Tryz.ntmps173
  go_wp2_with fail
  refine(HC.out _).mono ?_;rintro e w1 ⟨rfl,b1⟩;go_wp2_with fail
  refine(abE _ _ _ HH.out).mono ?_;rintro e w2 ⟨rfl,rfl⟩;go_wp2_with fail
  refine(ly _ b _ (by omega)).mono ?_;rintro e w2 ⟨rfl,rfl⟩
  go_wp2_with fail
  go_ret2
  refine⟨DZ ?_ HO.out.symm,b1⟩;rw[HN.out];exact(yW _).trans (TM _)
theorem WW (s:ByteArray) (b:Int) (w:World) (hs:s.size≤9223372036854775807) :
  Calls Tryz.prog 173 #[.string s,.int .i64 b] w fun e w'=>e=.returned (.tuple #[.int .i64 (lq b s.data.toList),.bool (qE b s.data.toList)])∧Below w.heap.size w w':=by
 by_cases h:2≤b∧b≤36
 ·obtain⟨k,rfl⟩ :∃k:Nat,b=k:=⟨b.toNat,by omega⟩
  exact OA s k w hs (by omega) (by omega)
 ·exact Jk s b w h
def Mx (w:World):Prop:=∃m:Int,w.cell? ⟨1,0,none⟩=some (.int .i64 m)
theorem OC (s:ByteArray) (w:World):Calls Tryz.prog 121 #[.string s,.string ⟨#[10]⟩] w fun e w'=>e=.returned (.int .i64 (nl s.data.toList:Int))∧w=w' :=
 (Tryz.strings_Count_one s 10 w).mono fun _ _ ⟨a,b⟩=>⟨a,b.symm⟩
theorem BX (f p:ByteArray) (w:World) (hs:f.size≤1000000) (h:Mx w):Calls Tryz.prog 123 #[.string f,.string p] w fun e w' =>
  e=.returned (.tuple #[.string ⟨(Lib.cut f.data.toList p.data.toList).1.toArray⟩,.string ⟨(Lib.cut f.data.toList p.data.toList).2.1.toArray⟩,.bool (Lib.cut f.data.toList p.data.toList).2.2])∧∃n,w'=w.drewN n:=by
 obtain⟨m,hm⟩:=h;exact Tryz.strings_Cut f p m w (by omega) hm
theorem rO (t p:ByteArray) (w:World):Calls Tryz.prog 158 #[.string t,.string p] w fun e w'=>e=.returned (.tuple #[.string ⟨(Lib.trimPrefix t.data.toList p.data.toList).toArray⟩,.bool (Lib.hasPrefix t.data.toList p.data.toList)])∧w=w' :=
 (Tryz.strings_CutPrefix t p w).mono fun _ _ ⟨a,b⟩=>⟨a,b.symm⟩
theorem OD (s:ByteArray) (w:World):Calls Tryz.prog 159 #[.string s,.string ⟨#[61]⟩] w fun e w'=>e=.returned (.string ⟨(Lib.trimLeftB s.data.toList 61).toArray⟩)∧w=w' :=
 (Tryz.strings_TrimLeft_one s 61 (by decide) w).mono fun _ _ ⟨a,b⟩=>⟨a,b.symm⟩
theorem Jl (s:ByteArray) (w:World) (hs:s.size≤1000000) (h:Mx w):Calls Tryz.prog 128 #[.string s,.string ⟨#[91]⟩,.string ⟨#[93]⟩] w fun e w'=>e=.returned (.string ⟨(clo s.data.toList).toArray⟩)∧Below w.heap.size w w':=by
 obtain⟨m,hm⟩:=h;have h1:=Lib.countB_le (⟨#[91]⟩:ByteArray) (by decide) s.size s (ah _)
 have h2:(⟨#[93]⟩:ByteArray).size=1:=rfl;exact Tryz.strings_ReplaceAll s ⟨#[91]⟩ ⟨#[93]⟩ m w (by omega) hm (by decide) (by rw[h2];omega)
theorem OE (t:ByteArray) (w:World):Calls Tryz.prog 129 #[.string t,.string ⟨#[10]⟩] w fun e w'=>e=.returned (.string ⟨(Lib.trimPrefix t.data.toList [10]).toArray⟩)∧w=w' :=
 (Tryz.strings_TrimPrefix t ⟨#[10]⟩ w).mono fun _ _ ⟨a,b⟩=>⟨a,b.symm⟩
theorem e9 (s:ByteArray) (c:UInt8) (w:World):Calls Tryz.prog 155 #[.string s,.int .u8 (c.toNat:Int)] w fun e w'=>e=.returned (.int .i64 (Lib.indexByte s.data.toList c))∧w=w' :=
 (Tryz.strings_IndexByte s (c.toNat:Int) w).mono fun _ _ ⟨a,b⟩=>⟨by rw[a];congr 3;simp,b.symm⟩
def Kp (b:Nat) (w w':World):Prop:=w.grownBy w' (some b)
theorem Kp.refl (b:Nat) (w:World):Kp b w w:=World.grownBy.refl _ _
theorem Kp.trans {b:Nat} {u v w:World} (h:Kp b u v) (k:Kp b v w):Kp b u w:=World.grownBy.trans h k
theorem Kp.draws {b:Nat} {w w':World} (h:Kp b w w') (n:Nat):Kp b w (w'.drewN n):=⟨h.os,h.tape,h.output,h.size,h.block⟩
theorem Kp.af {b:Nat} {w w':World} (h:Below w.heap.size w w'):Kp b w w':=⟨h.os,h.tape,h.output,h.size,fun k hk _=>h.block k hk⟩
theorem Kp.set {b:Nat} {w w':World} (h:Kp b w w') (o:Nat) (v:Value):Kp b w (w'.setCell ⟨b,o,none⟩ v) :=
 h.trans ⟨rfl,rfl,rfl,by simp[World.setCell],fun k _ hk=>Below.heap_setCell _ _ _ k (fun e=>hk (by rw[e]))⟩
theorem Kp.alloc {b:Nat} {w w':World} (h:Kp b w w') (o:Obj):Kp b w (w'.alloc o):=h.trans (World.grownBy_alloc _ _ _)
structure Rd (W:World) (b:Nat) (s:ByteArray) (k:Nat):Prop where
 blk:W.heap[b]? = some (.cells #[.string s,.int .i64 (k:Int),.int .i64 ((1+nl (s.data.toList.take k):Nat):Int)] 111 (0,0))
 le:k≤s.size
 top:s.size≤100000
 far:4≤b
 mx:Mx W
theorem Rd.lt {W:World} {b:Nat} {s:ByteArray} {k:Nat} (h:Rd W b s k):b<W.heap.size:=(aO.1 h.blk).1
theorem Rd.c0 {W:World} {b:Nat} {s:ByteArray} {k:Nat} (h:Rd W b s k):W.cell? ⟨b,0,none⟩=some (.string s):=by simp[World.cell?,h.blk]
theorem Rd.c1 {W:World} {b:Nat} {s:ByteArray} {k:Nat} (h:Rd W b s k):W.cell? ⟨b,1,none⟩=some (.int .i64 (k:Int)):=by simp[World.cell?,h.blk]
theorem Rd.c2 {W:World} {b:Nat} {s:ByteArray} {k:Nat} (h:Rd W b s k):W.cell? ⟨b,2,none⟩=some (.int .i64 ((1+nl (s.data.toList.take k):Nat):Int)):=by simp[World.cell?,h.blk]
theorem Rd.f1 {W:World} {b:Nat} {s:ByteArray} {k:Nat} (h:Rd W b s k):W.frozen? ⟨b,1,none⟩=false:=by simp[World.frozen?,h.blk]
theorem Rd.f2 {W:World} {b:Nat} {s:ByteArray} {k:Nat} (h:Rd W b s k):W.frozen? ⟨b,2,none⟩=false:=by simp[World.frozen?,h.blk]
theorem Mx.kp {b:Nat} {w w':World} (h:Mx w) (hb:4≤b) (hk:Kp b w w'):Mx w':=by
 obtain⟨m,hm⟩:=h;exact⟨m,World.grownBy.cell hk hm (by simp;omega)⟩
theorem Mx.below {w w':World} (h:Mx w) (hb:Below w.heap.size w w'):Mx w':=by
 obtain⟨m,hm⟩:=h;exact⟨m,(hb.cell (p:=⟨1,0,none⟩) (World.block_lt_of_cell? w _ hm)).trans hm⟩
theorem Rd.below {W W':World} {b:Nat} {s:ByteArray} {k:Nat} (h:Rd W b s k) (hb:Below W.heap.size W W'):Rd W' b s k :=
 ⟨(hb.block b h.lt).trans h.blk,h.le,h.top,h.far,h.mx.below hb⟩
theorem Rd.draws {W:World} {b:Nat} {s:ByteArray} {k:Nat} (h:Rd W b s k) (n:Nat):Rd (W.drewN n) b s k:=⟨h.blk,h.le,h.top,h.far,h.mx⟩
theorem Rd.alloc {W:World} {b:Nat} {s:ByteArray} {k:Nat} (h:Rd W b s k) (o:Obj):Rd (W.alloc o) b s k:=h.below ((Below.refl _ _).alloc (ah _) _)
theorem az (b:Nat) (s:ByteArray) (k:Nat) (w:World) (h:Rd w b s k) :
  Calls Tryz.prog 83 #[.pointer (some ⟨b,0,none⟩)] w fun e w'=>e=.returned (.string (s.extract k s.size))∧Rd w' b s k∧Kp b w w':=by
 have HR:=aa h;have c0:=h.c0;have c1:=h.c1;have hle:=h.le;have cw:=h.top;clear h;go_enter Tryz.func83,Tryz.ntmps83
 go_wp2
 go_quiet (fail)
 go_wp2
 go_ret
 exact⟨rfl,HR.out.draws _,(Kp.refl _ _).draws _⟩
theorem yX (s:ByteArray) (k:Nat):(s.extract k s.size).data.toList=s.data.toList.drop k:=by
 rw[KZ];simp only[Array.toList_extract,List.extract_eq_take_drop];exact tV (by rw[jb];exact ah _)
theorem mg (s:ByteArray) (k c:Nat):(s.extract k (k+c)).data.toList=(s.data.toList.drop k).take c:=by
 rw[KZ];simp
theorem OF (s:ByteArray) (k c:Nat):1+nl (s.data.toList.take k)+nl (s.extract k (k+c)).data.toList=1+nl (s.data.toList.take (k+c)):=by
 rw[mg,List.take_add,nD];omega
theorem yY {W:World} {b:Nat} {a0 a1 a2:Value} {t:TypeId} (h:W.heap[b]? = some (.cells #[a0,a1,a2] t (0,0))) (v:Value) :
  (W.setCell ⟨b,1,none⟩ v).heap[b]? = some (.cells #[a0,v,a2] t (0,0))∧(W.setCell ⟨b,2,none⟩ v).heap[b]? = some (.cells #[a0,a1,v] t (0,0)):=by
 obtain⟨hlt,hk⟩:=aO.1 h;constructor
 ·show(W.heap.modify b _)[b]? = _
  rw[wC (by rw[zQ];exact hlt),zJ,hk]
  rfl
 ·show(W.heap.modify b _)[b]? = _
  rw[wC (by rw[zQ];exact hlt),zJ,hk]
  rfl
theorem Kp.drew {b:Nat} {w w':World} (h:Kp b w w'):Kp b w w'.drew:=⟨h.os,h.tape,h.output,h.size,h.block⟩
theorem Rd.moved {w:World} {b:Nat} {s:ByteArray} {k:Nat} (h:Rd w b s k) (c:Nat) (hc:k+c≤s.size) (nq:Nat) (x y:Int) (hx:x=((k+c:Nat):Int)) (hy:y=((1+nl (s.data.toList.take (k+c)):Nat):Int)) :
  Rd (((w.drewN nq).setCell ⟨b,1,none⟩ (.int .i64 x)).setCell ⟨b,2,none⟩ (.int .i64 y)).drew b s (k+c):=by
 have h0:(w.drewN nq).heap[b]? = some (.cells #[.string s,.int .i64 (k:Int),.int .i64 ((1+nl (s.data.toList.take k):Nat):Int)] 111 (0,0)):=h.blk;have h2:=(yY (yY h0 (.int .i64 x)).1 (.int .i64 y)).2;refine⟨?_,hc,h.top,h.far,?_⟩
 ·rw[hx,hy] at h2 ⊢
  exact h2
 ·exact h.mx.kp h.far ((((Kp.refl b w).draws nq).set 1 _).set 2 _).drew
theorem OG (w:World) (b nq:Nat) (x y:Value):Kp b w (((w.drewN nq).setCell ⟨b,1,none⟩ x).setCell ⟨b,2,none⟩ y).drew:=((((Kp.refl b w).draws nq).set 1 _).set 2 _).drew
theorem bt (b:Nat) (s:ByteArray) (k c:Nat) (w:World) (h:Rd w b s k) (hc:k+c≤s.size) :
  Calls Tryz.prog 81 #[.pointer (some ⟨b,0,none⟩),.int .i64 (c:Int)] w fun e w'=>e=.returned (.string (s.extract k (k+c)))∧Rd w' b s (k+c)∧Kp b w w':=by
 have HR:=aa h;have c0:=h.c0;have c1:=h.c1;have hle:=h.le;have cw:=h.top;clear h;go_enter Tryz.func81,Tryz.ntmps81
 go_wp2
 have w1:IntKind.i64.wrap ((k:Int)+(c:Int))=(k:Int)+(c:Int):=IntWalk.i64_in _ (by omega)
 go_quiet (fail)
 clear w1;have f1:=HR.out.f1;go_wp2_with fail
 have c2:=HR.out.c2;have f2:=HR.out.f2;obtain⟨n,hn⟩ :∃n:Nat,n=nl (s.data.toList.take k):=⟨_,rfl⟩;obtain⟨m,hm⟩ :∃m:Nat,m=nl (s.extract k (k+c)).data.toList:=⟨_,rfl⟩;rw[←hn] at c2;have HC:=aa (fun W=>hm▸OC (s.extract k (k+c)) W)
 have xc:n≤100000:=by
  have:=WV (s.data.toList.take k);rw[j4] at this;omega
 have hm1:m≤100000:=by
  have:=WV (s.extract k (k+c)).data.toList;rw[mg,j4] at this;rw[mg] at hm;omega
 have HN:=aa hn;have HM:=aa hm;clear hn hm;have w2:IntKind.i64.wrap (((1+n:Nat):Int)+(m:Int))=((1+n+m:Nat):Int):=by rw[IntWalk.i64_in _ (by omega)];omega
 go_region_with ((go_at_call 121;refine(HC.out _).mono ?_;rintro e w' ⟨rfl,rfl⟩))
 all_goals go_wp2
 all_goals go_ret
 all_goals exact⟨rfl,HR.out.moved c hc _ _ _ (by omega) (by rw[IntWalk.i64_in _ (by omega),←OF,←HN.out,←HM.out];omega),OG _ _ _ _ _⟩
theorem iN {a b:Bool} (h:a=b):Ending.returned (.bool a)=.returned (.bool b):=by rw[h]
theorem BY (c:UInt8) (r:Bool) (w:World) (h:pB c=r):Calls Tryz.prog 84 #[.int .u8 (c.toNat:Int)] w fun e w'=>e=.returned (.bool r)∧w=w':=by
 subst h;unfold pB;have hc:=c.toNat_lt;generalize c.toNat=n at *;go_enter Tryz.func84,Tryz.ntmps84
 go_wp2
 all_goals go_ret
 all_goals exact⟨iN (by unfold yP;rw[mV];simp;omega),rfl⟩
theorem ij (c:UInt8) (r:Bool) (w:World) (h:wj c=r):Calls Tryz.prog 87 #[.int .u8 (c.toNat:Int)] w fun e w'=>e=.returned (.bool r)∧w=w':=by
 subst h;unfold wj;have hc:=c.toNat_lt;generalize c.toNat=n at *;go_enter Tryz.func87,Tryz.ntmps87
 go_wp2
 all_goals go_ret
 all_goals exact⟨iN (by rw[mV];simp;omega),rfl⟩
theorem fP (c:UInt8) (r:Bool) (w:World) (h:gB c=r):Calls Tryz.prog 89 #[.int .u8 (c.toNat:Int)] w fun e w'=>e=.returned (.bool r)∧w=w':=by
 subst h;unfold gB;have hc:=c.toNat_lt;generalize c.toNat=n at *;go_enter Tryz.func89,Tryz.ntmps89
 go_wp2
 all_goals go_ret
 all_goals exact⟨iN (by rw[mV];simp;omega),rfl⟩
theorem ve (c:UInt8) (r:Bool) (w:World) (h:Gh c=r):Calls Tryz.prog 92 #[.int .u8 (c.toNat:Int)] w fun e w'=>e=.returned (.bool r)∧w=w':=by
 subst h;unfold Gh;have hc:=c.toNat_lt;generalize c.toNat=n at *;go_enter Tryz.func92,Tryz.ntmps92
 go_wp2
 all_goals go_ret
 all_goals exact⟨iN (by rw[mV];simp;omega),rfl⟩
theorem tL (c:UInt8) (r:Bool) (w:World) (h:nC c=r):Calls Tryz.prog 124 #[.int .u8 (c.toNat:Int)] w fun e w'=>e=.returned (.bool r)∧w=w':=by
 unfold nC at h;cases e1:wj c<;>cases e2:gB c<;>rw[e1,e2] at h<;>subst h <;>
  (have L1:=aa (fun W=>ij c _ W e1)
   have L2:=aa (fun W=>fP c _ W e2)
   clear e1 e2;go_enter Tryz.func124,Tryz.ntmps124
   go_wp2_with (first
    | (go_at_call 87;refine(L1.out _).mono ?_;rintro e w' ⟨rfl,rfl⟩)
    | (go_at_call 89;refine(L2.out _).mono ?_;rintro e w' ⟨rfl,rfl⟩))
   go_ret
   exact⟨rfl,rfl⟩)
theorem xI (c:UInt8) (r:Bool) (w:World) (h:oD c=r):Calls Tryz.prog 91 #[.int .u8 (c.toNat:Int)] w fun e w'=>e=.returned (.bool r)∧w=w':=by
 unfold oD at h;cases e1:nC c<;>rw[e1] at h
 ·have L1:=aa (fun W=>tL c _ W e1)
  clear e1;subst h;go_enter Tryz.func91,Tryz.ntmps91
  go_wp2_with (go_at_call 124;refine(L1.out _).mono ?_;rintro e w' ⟨rfl,rfl⟩)
  go_ret
  exact⟨iN (by rw[mV];simp;omega),rfl⟩
 ·have L1:=aa (fun W=>tL c _ W e1)
  clear e1;subst h;go_enter Tryz.func91,Tryz.ntmps91
  go_wp2_with (go_at_call 124;refine(L1.out _).mono ?_;rintro e w' ⟨rfl,rfl⟩)
  go_ret
  exact⟨rfl,rfl⟩
theorem OH (c:UInt8) (r:Bool) (w:World) (h:zD c=r):Calls Tryz.prog 157 #[.int .u8 (c.toNat:Int)] w fun e w'=>e=.returned (.bool r)∧w=w':=by
 unfold zD at h;cases e1:gB c<;>rw[e1] at h
 ·have L1:=aa (fun W=>fP c _ W e1)
  clear e1;subst h;have hc:=c.toNat_lt;generalize c.toNat=n at *;go_enter Tryz.func157,Tryz.ntmps157
  go_wp2_with (go_at_call 89;refine(L1.out _).mono ?_;rintro e w' ⟨rfl,rfl⟩)
  all_goals go_ret
  all_goals exact⟨iN (by rw[mV];simp;omega),rfl⟩
 ·have L1:=aa (fun W=>fP c _ W e1)
  clear e1;subst h;go_enter Tryz.func157,Tryz.ntmps157
  go_wp2_with (go_at_call 89;refine(L1.out _).mono ?_;rintro e w' ⟨rfl,rfl⟩)
  go_ret
  exact⟨rfl,rfl⟩
def aR (s:ByteArray) (k:Nat):List UInt8:=s.data.toList.drop k
theorem dj (s:ByteArray) (k:Nat):(s.extract k s.size).data.toList=aR s k:=yX s k
theorem fS (s:ByteArray) (k:Nat):(aR s k).length=s.size-k:=by unfold aR;rw[jb,←Lib.size_eq]
theorem fe (s:ByteArray) (k c:Nat):(aR s k).drop c=aR s (k+c):=by unfold aR;rw[List.drop_drop]
theorem fg (s:ByteArray) (k c:Nat):(s.extract k (k+c)).data.toList=(aR s k).take c:=mg s k c
theorem aD (s:ByteArray) (k:Nat) (h:k≤s.size):(s.extract k s.size).size=s.size-k:=by rw[tW];omega
theorem yZ (l:List UInt8):(⟨l.toArray⟩:ByteArray).data.toList=l:=rfl
theorem Gk (l:List UInt8):(⟨l.toArray⟩:ByteArray).size=l.length:=by show l.toArray.size=_;simp
theorem TN {s:ByteArray} {l:List UInt8} (h:s.data.toList=l):s=⟨l.toArray⟩:=by subst h;rfl
theorem vg {a b:Int} (h:a=b):Ending.returned (.int .i64 a)=.returned (.int .i64 b):=by rw[h]
theorem sN (s:ByteArray) (w:World) (hs:s.size≤100000):Calls Tryz.prog 127 #[.string s] w fun e w'=>e=.returned (.int .i64 (opn s.data.toList:Int))∧w=w':=by
 obtain⟨n,hn⟩ :∃n:Nat,n=opn s.data.toList:=⟨_,rfl⟩;rw[←hn];unfold opn at hn;obtain⟨t1,ht1⟩ :∃t:ByteArray,t=⟨(Lib.trimPrefix s.data.toList [91]).toArray⟩:=⟨_,rfl⟩;cases e1:Lib.hasPrefix s.data.toList [91]
 ·have C1:=aa (fun W=>rO s ⟨#[91]⟩ W)
  rw[show(⟨#[91]⟩:ByteArray).data.toList=[91] from rfl,e1,←ht1] at C1
  rw[e1] at hn;have HN:=aa hn;clear hn e1 ht1;go_enter Tryz.func127,Tryz.ntmps127
  go_wp2_with (go_at_call 158;refine(C1.out _).mono ?_;rintro e w' ⟨rfl,rfl⟩)
  go_ret
  exact⟨vg (by rw[HN.out];rfl),rfl⟩
 ·have C1:=aa (fun W=>rO s ⟨#[91]⟩ W)
  rw[show(⟨#[91]⟩:ByteArray).data.toList=[91] from rfl,e1,←ht1] at C1
  have TO:t1.data.toList=s.data.toList.drop 1:=by rw[ht1];show Lib.trimPrefix s.data.toList [91]=_;unfold Lib.trimPrefix;rw[ai e1];rfl
  rw[e1,ai rfl,←TO] at hn;obtain⟨t2,To⟩ :∃t:ByteArray,t=⟨(Lib.trimLeftB t1.data.toList 61).toArray⟩:=⟨_,rfl⟩;have C2:=aa (fun W=>OD t1 W)
  rw[←To] at C2;rw[show Lib.trimLeftB t1.data.toList 61=t2.data.toList by rw[To]] at hn
  obtain⟨t3,ht3⟩ :∃t:ByteArray,t=⟨(Lib.trimPrefix t2.data.toList [91]).toArray⟩:=⟨_,rfl⟩;have C3:=aa (fun W=>rO t2 ⟨#[91]⟩ W)
  cases e2:Lib.hasPrefix t2.data.toList [91]
  ·rw[show(⟨#[91]⟩:ByteArray).data.toList=[91] from rfl,e2,←ht3] at C3
   rw[e2] at hn;have HN:=aa hn;clear hn e1 e2 ht1 To ht3 TO;go_enter Tryz.func127,Tryz.ntmps127
   go_wp2_with fail
   refine(C1.out _).mono ?_;rintro e w' ⟨rfl,rfl⟩;go_wp2_with fail
   refine(C2.out _).mono ?_;rintro e w' ⟨rfl,rfl⟩;go_wp2_with fail
   refine(C3.out _).mono ?_;rintro e w' ⟨rfl,rfl⟩;go_wp2_with fail
   go_ret
   exact⟨vg (by rw[HN.out];rfl),rfl⟩
  ·rw[show(⟨#[91]⟩:ByteArray).data.toList=[91] from rfl,e2,←ht3] at C3
   have Zs:t3.data.toList=t2.data.toList.drop 1:=by rw[ht3];show Lib.trimPrefix t2.data.toList [91]=_;unfold Lib.trimPrefix;rw[ai e2];rfl
   rw[e2,ai rfl,←Zs,←Lib.size_eq,←Lib.size_eq] at hn;have hle:t3.size≤s.size:=by
    rw[Lib.size_eq,Zs,To,yZ,TO,Lib.size_eq s,jb];have h1:=(EP (fun x=>x == 61) (l:=s.data.toList.drop 1)).length_le
    rw[jb] at h1;unfold Lib.trimLeftB;omega
   have HN:=aa hn;clear hn e1 e2 ht1 To ht3 TO Zs;go_enter Tryz.func127,Tryz.ntmps127
   go_wp2_with fail
   refine(C1.out _).mono ?_;rintro e w' ⟨rfl,rfl⟩;go_wp2_with fail
   refine(C2.out _).mono ?_;rintro e w' ⟨rfl,rfl⟩;go_wp2_with fail
   refine(C3.out _).mono ?_;rintro e w' ⟨rfl,rfl⟩;go_wp2_with fail
   go_ret
   exact⟨vg (by rw[HN.out];omega),rfl⟩
theorem oe (s:ByteArray) (r:Bool) (w:World) (hs:s.size≤100000) (h:decide (0<opn s.data.toList)=r):Calls Tryz.prog 94 #[.string s] w fun e w'=>e=.returned (.bool r)∧w=w':=by
 have C:=aa (fun W=>sN s W hs)
 generalize opn s.data.toList=n at *;go_enter Tryz.func94,Tryz.ntmps94
 go_wp2_with (go_at_call 127;refine(C.out _).mono ?_;rintro e w' ⟨rfl,rfl⟩)
 go_ret
 exact⟨rfl,rfl⟩
theorem OI {l sep:List UInt8} {t r:List UInt8} (h:Lib.cut l sep=(t,r,true)):t.length+sep.length≤l.length∧r=l.drop (t.length+sep.length):=by
 unfold Lib.cut at h;by_cases h0:0≤Lib.index l sep
 ·rw[ai h0] at h
  injection h with h1 h2;injection h2 with h2 _;have hr:=Lib.index_room l sep h0;have hlen:t.length=(Lib.index l sep).toNat:=by rw[←h1,j4];omega
  rw[hlen];exact⟨by omega,h2.symm⟩
 ·rw[ab h0] at h
  injection h with _ h2;injection h2 with _ h3;cases h3
def jM (b:Nat) (s:ByteArray) (k:Nat) (w:World) (o:Option (List UInt8×List UInt8)) (e:Ending) (w':World):Prop :=
 Kp b w w'∧match o with
  | some (t,r)=>∃k',e=.returned (.tuple #[.string ⟨t.toArray⟩,.bool true])∧Rd w' b s k'∧aR s k'=r∧k<k'
  | none=>e=.returned (.tuple #[.string ⟨#[]⟩,.bool false])
theorem jM.og {b:Nat} {s:ByteArray} {k:Nat} {w w':World} {t r:List UInt8} {e:Ending} (h:jM b s k w (some (t,r)) e w') :∃k',e=.returned (.tuple #[.string ⟨t.toArray⟩,.bool true])∧Rd w' b s k'∧aR s k'=r∧k<k'∧Kp b w w':=by
 obtain⟨h0,k',h1,h2,h3,h4⟩:=h;exact⟨k',h1,h2,h3,h4,h0⟩
theorem jM.oh {b:Nat} {s:ByteArray} {k:Nat} {w w':World} {e:Ending} (h:jM b s k w none e w'):e=.returned (.tuple #[.string ⟨#[]⟩,.bool false])∧Kp b w w':=⟨h.2,h.1⟩
theorem oW (b:Nat) (s:ByteArray) (k:Nat) (w:World) (h:Rd w b s k) (hp:0<opn (aR s k)):Calls Tryz.prog 95 #[.pointer (some ⟨b,0,none⟩)] w (jM b s k w (KN (aR s k))):=by
 have cw:=h.top;have hle:=h.le;have HR:=aa h;clear h;obtain⟨n,hn⟩ :∃n:Nat,n=opn (aR s k):=⟨_,rfl⟩;have jd:=Zj (aR s k);rw[←hn,fS] at jd;rw[←hn] at hp;have C1:=aa (fun W=>sN (s.extract k s.size) W (by rw[aD s k hle];omega))
 rw[dj,←hn] at C1;obtain⟨cl,C9⟩ :∃cl:ByteArray,cl=⟨(clo (s.extract k (k+n)).data.toList).toArray⟩:=⟨_,rfl⟩;have C2:=aa (fun W hW=>Jl (s.extract k (k+n)) W (by rw[tW];omega) hW)
 rw[←C9] at C2;have hb:KN (aR s k)=if (Lib.cut (aR s (k+n)) cl.data.toList).2.2 then some (Lib.trimPrefix (Lib.cut (aR s (k+n)) cl.data.toList).1 [10],(Lib.cut (aR s (k+n)) cl.data.toList).2.1) else none:=by
  unfold KN;rw[←hn,C9,yZ,fg,fe]
 have C3:=aa (fun W hW=>BX (s.extract (k+n) s.size) cl W (by rw[aD s _ (by omega)];omega) hW)
 rw[dj] at C3;obtain⟨a,r,o,hq⟩ :∃a r o,Lib.cut (aR s (k+n)) cl.data.toList=(a,r,o):=⟨_,_,_,rfl⟩;rw[hq] at C3 hb;obtain⟨A,hA⟩ :∃A:ByteArray,A=⟨a.toArray⟩:=⟨_,rfl⟩;obtain⟨R,hR⟩ :∃R:ByteArray,R=⟨r.toArray⟩:=⟨_,rfl⟩;simp only[←hA,←hR] at C3;cases o
 ·have HB:=aa hb
  clear hn C9 hq hA hR hb;go_enter Tryz.func95,Tryz.ntmps95
  go_wp2_with fail
  refine(az _ _ _ _ HR.out).mono ?_;rintro e w1 ⟨rfl,r1,k1⟩;have R1:=aa r1;have K1:=aa k1;clear r1 k1;go_wp2_with fail
  refine(C1.out _).mono ?_;rintro e CZ ⟨rfl,rfl⟩;go_wp2_with fail
  refine(bt _ _ _ _ _ R1.out (by omega)).mono ?_;rintro e w2 ⟨rfl,r2,k2⟩
  have R2:=aa r2;have K2:=aa (K1.out.trans k2);clear r2 k2;go_wp2_with fail
  refine(C2.out _ R2.out.mx).mono ?_;rintro e w3 ⟨rfl,b3⟩;have R3:=aa (R2.out.below b3);have K3:=aa (K2.out.trans (Kp.af b3));clear b3;go_wp2_with fail
  refine(az _ _ _ _ R3.out).mono ?_;rintro e w4 ⟨rfl,r4,k4⟩;have R4:=aa r4;have K4:=aa (K3.out.trans k4);clear r4 k4;go_wp2_with fail
  refine(C3.out _ R4.out.mx).mono ?_;rintro e w5 ⟨rfl,n5,rfl⟩;go_wp2_with fail
  go_ret2
  refine⟨K4.out.draws _,?_⟩;rw[HB.out];rfl
 ·obtain⟨hroom,hr⟩:=OI hq
  rw[fS,←Lib.size_eq] at hroom;rw[fe,←Lib.size_eq] at hr;have hAs:A.size=a.length:=by rw[hA,Gk]
  have C4:=aa (fun W=>OE A W)
  rw[hA,yZ,←hA] at C4;obtain⟨T,hT⟩ :∃T:ByteArray,T=⟨(Lib.trimPrefix a [10]).toArray⟩:=⟨_,rfl⟩;rw[←hT] at C4;rw[←hAs] at hroom hr;have HB:=aa hb;have HE:=aa hr;have HT:=aa hT;clear hn C9 hq hA hR hb hr hAs hT;go_enter Tryz.func95,Tryz.ntmps95
  go_wp2_with fail
  refine(az _ _ _ _ HR.out).mono ?_;rintro e w1 ⟨rfl,r1,k1⟩;have R1:=aa r1;have K1:=aa k1;clear r1 k1;go_wp2_with fail
  refine(C1.out _).mono ?_;rintro e CZ ⟨rfl,rfl⟩;go_wp2_with fail
  refine(bt _ _ _ _ _ R1.out (by omega)).mono ?_;rintro e w2 ⟨rfl,r2,k2⟩
  have R2:=aa r2;have K2:=aa (K1.out.trans k2);clear r2 k2;go_wp2_with fail
  refine(C2.out _ R2.out.mx).mono ?_;rintro e w3 ⟨rfl,b3⟩;have R3:=aa (R2.out.below b3);have K3:=aa (K2.out.trans (Kp.af b3));clear b3;go_wp2_with fail
  refine(az _ _ _ _ R3.out).mono ?_;rintro e w4 ⟨rfl,r4,k4⟩;have R4:=aa r4;have K4:=aa (K3.out.trans k4);clear r4 k4;go_wp2_with fail
  refine(C3.out _ R4.out.mx).mono ?_;rintro e w5 ⟨rfl,n5,rfl⟩;have R5:=aa (R4.out.draws n5);have K5:=aa (K4.out.draws n5);generalize w4.drewN n5=w5 at *;have Fv:=fun W h=>bt b s (k+n) (A.size+cl.size) W h (by omega)
  rw[show((A.size+cl.size:Nat):Int)=(A.size:Int)+(cl.size:Int) by omega] at Fv
  have C6:=aa Fv;clear Fv;go_wp2_with fail
  refine(C6.out _ R5.out).mono ?_;rintro e w6 ⟨rfl,r6,k6⟩;have R6:=aa r6;have K6:=aa (K5.out.trans k6);clear r6 k6;go_wp2_with fail
  refine(C4.out _).mono ?_;rintro e w6' ⟨rfl,rfl⟩;go_wp2_with fail
  go_ret2
  refine⟨K6.out,?_⟩;rw[HB.out];exact⟨_,by rw[HT.out];rfl,R6.out,HE.out.symm,by omega⟩
theorem nI {p:UInt8→Bool} {l:List UInt8} {k:Nat} {c:UInt8} (h:k≤runN p l) (hc:l[k]? = some c) (hp:p c=true):k+1≤runN p l:=by
 induction l generalizing k with
 | nil=>simp at hc
 | cons a t ih =>
  unfold runN at *;cases k with
  | zero =>
   simp at hc;subst hc;simp[hp]
  | succ k =>
   cases e:p a
   ·simp[e] at h
   ·simp[e] at h ⊢
    exact ih h (by simpa using hc)
theorem nJ {p:UInt8→Bool} {l:List UInt8} {k:Nat} {c:UInt8} (h:k≤runN p l) (hc:l[k]? = some c) (hp:p c=false):k=runN p l:=by
 induction l generalizing k with
 | nil=>simp at hc
 | cons a t ih =>
  unfold runN at *;cases k with
  | zero =>
   simp at hc;subst hc;simp[hp]
  | succ k =>
   cases e:p a
   ·simp[e] at h
   ·simp[e] at h ⊢
    exact ih h (by simpa using hc)
theorem iC {a b:Int} (h:a=b):Ending.returned (.int .i64 a)=.returned (.int .i64 b):=by rw[h]
theorem xJ (s:ByteArray) (w:World) (hs:s.size≤100000):Calls Tryz.prog 82 #[.string s,.func (.func 84) #[] #[]] w fun e w'=>e=.returned (.int .i64 (runN pB s.data.toList:Int))∧w=w':=by
 have hle:runN pB s.data.toList≤s.size:=by
  have:=ig pB s.data.toList;rwa[←Lib.size_eq] at this
 obtain⟨m,hm⟩ :∃m:Nat,m=runN pB s.data.toList:=⟨_,rfl⟩;rw[←hm] at hle ⊢;have HM:=aa hm;clear hm;go_enter Tryz.func82,Tryz.ntmps82
 go_wp2_with fail
 go_loop [5] (fun i=>∃k:Nat,k≤m∧i=.int .i64 k) (fun i=>s.size-(intOf i).toNat)
 case atStart=>exact⟨0,bo _,rfl⟩
 case round =>
  obtain⟨k,hk,rfl⟩:=hrel;by_cases hlt:k<s.size
  ·have hg:s.data.toList[k]? = some s[k]:=bG (l:=s.data.toList) (i:=k) (by simpa using hlt)
   cases e:pB s[k]
   ·have ki:=nJ (by rw[←HM.out];exact hk) hg e
    have HK:=aa (fun W=>BY s[k] _ W e)
    clear hg e;have HS:=aa (ki.trans HM.out.symm);clear ki;go_wp2_with (go_at_call 84;refine(HK.out _).mono ?_;rintro e w' ⟨rfl,rfl⟩)
    go_ret
    exact⟨iC (by rw[HS.out]),rfl⟩
   ·have gu:=nI (by rw[←HM.out];exact hk) hg e
    have HK:=aa (fun W=>BY s[k] _ W e)
    clear hg e;rw[←HM.out] at gu;go_wp2_with (go_at_call 84;refine(HK.out _).mono ?_;rintro e w' ⟨rfl,rfl⟩)
    go_round
    case rel=>exact⟨k+1,gu,by go_num⟩
    case measure=>simp[intOf];omega
  ·have oz:k=m:=by omega
   go_wp2_with fail
   go_ret
   exact⟨iC (by omega),rfl⟩
theorem OJ (s:ByteArray) (w:World) (hs:s.size≤100000):Calls Tryz.prog 82 #[.string s,.func (.func 124) #[] #[]] w fun e w'=>e=.returned (.int .i64 (runN nC s.data.toList:Int))∧w=w':=by
 have hle:runN nC s.data.toList≤s.size:=by
  have:=ig nC s.data.toList;rwa[←Lib.size_eq] at this
 obtain⟨m,hm⟩ :∃m:Nat,m=runN nC s.data.toList:=⟨_,rfl⟩;rw[←hm] at hle ⊢;have HM:=aa hm;clear hm;go_enter Tryz.func82,Tryz.ntmps82
 go_wp2_with fail
 go_loop [5] (fun i=>∃k:Nat,k≤m∧i=.int .i64 k) (fun i=>s.size-(intOf i).toNat)
 case atStart=>exact⟨0,bo _,rfl⟩
 case round =>
  obtain⟨k,hk,rfl⟩:=hrel;by_cases hlt:k<s.size
  ·have hg:s.data.toList[k]? = some s[k]:=bG (l:=s.data.toList) (i:=k) (by simpa using hlt)
   cases e:nC s[k]
   ·have ki:=nJ (by rw[←HM.out];exact hk) hg e
    have HK:=aa (fun W=>tL s[k] _ W e)
    clear hg e;have HS:=aa (ki.trans HM.out.symm);clear ki;go_wp2_with (go_at_call 124;refine(HK.out _).mono ?_;rintro e w' ⟨rfl,rfl⟩)
    go_ret
    exact⟨iC (by rw[HS.out]),rfl⟩
   ·have gu:=nI (by rw[←HM.out];exact hk) hg e
    have HK:=aa (fun W=>tL s[k] _ W e)
    clear hg e;rw[←HM.out] at gu;go_wp2_with (go_at_call 124;refine(HK.out _).mono ?_;rintro e w' ⟨rfl,rfl⟩)
    go_round
    case rel=>exact⟨k+1,gu,by go_num⟩
    case measure=>simp[intOf];omega
  ·have oz:k=m:=by omega
   go_wp2_with fail
   go_ret
   exact⟨iC (by omega),rfl⟩
theorem vh (s:ByteArray) (w:World) (hs:s.size≤100000):Calls Tryz.prog 82 #[.string s,.func (.func 91) #[] #[]] w fun e w'=>e=.returned (.int .i64 (runN oD s.data.toList:Int))∧w=w':=by
 have hle:runN oD s.data.toList≤s.size:=by
  have:=ig oD s.data.toList;rwa[←Lib.size_eq] at this
 obtain⟨m,hm⟩ :∃m:Nat,m=runN oD s.data.toList:=⟨_,rfl⟩;rw[←hm] at hle ⊢;have HM:=aa hm;clear hm;go_enter Tryz.func82,Tryz.ntmps82
 go_wp2_with fail
 go_loop [5] (fun i=>∃k:Nat,k≤m∧i=.int .i64 k) (fun i=>s.size-(intOf i).toNat)
 case atStart=>exact⟨0,bo _,rfl⟩
 case round =>
  obtain⟨k,hk,rfl⟩:=hrel;by_cases hlt:k<s.size
  ·have hg:s.data.toList[k]? = some s[k]:=bG (l:=s.data.toList) (i:=k) (by simpa using hlt)
   cases e:oD s[k]
   ·have ki:=nJ (by rw[←HM.out];exact hk) hg e
    have HK:=aa (fun W=>xI s[k] _ W e)
    clear hg e;have HS:=aa (ki.trans HM.out.symm);clear ki;go_wp2_with (go_at_call 91;refine(HK.out _).mono ?_;rintro e w' ⟨rfl,rfl⟩)
    go_ret
    exact⟨iC (by rw[HS.out]),rfl⟩
   ·have gu:=nI (by rw[←HM.out];exact hk) hg e
    have HK:=aa (fun W=>xI s[k] _ W e)
    clear hg e;rw[←HM.out] at gu;go_wp2_with (go_at_call 91;refine(HK.out _).mono ?_;rintro e w' ⟨rfl,rfl⟩)
    go_round
    case rel=>exact⟨k+1,gu,by go_num⟩
    case measure=>simp[intOf];omega
  ·have oz:k=m:=by omega
   go_wp2_with fail
   go_ret
   exact⟨iC (by omega),rfl⟩
theorem Jm (s:ByteArray) (w:World) (hs:s.size≤100000):Calls Tryz.prog 82 #[.string s,.func (.func 89) #[] #[]] w fun e w'=>e=.returned (.int .i64 (runN gB s.data.toList:Int))∧w=w':=by
 have hle:runN gB s.data.toList≤s.size:=by
  have:=ig gB s.data.toList;rwa[←Lib.size_eq] at this
 obtain⟨m,hm⟩ :∃m:Nat,m=runN gB s.data.toList:=⟨_,rfl⟩;rw[←hm] at hle ⊢;have HM:=aa hm;clear hm;go_enter Tryz.func82,Tryz.ntmps82
 go_wp2_with fail
 go_loop [5] (fun i=>∃k:Nat,k≤m∧i=.int .i64 k) (fun i=>s.size-(intOf i).toNat)
 case atStart=>exact⟨0,bo _,rfl⟩
 case round =>
  obtain⟨k,hk,rfl⟩:=hrel;by_cases hlt:k<s.size
  ·have hg:s.data.toList[k]? = some s[k]:=bG (l:=s.data.toList) (i:=k) (by simpa using hlt)
   cases e:gB s[k]
   ·have ki:=nJ (by rw[←HM.out];exact hk) hg e
    have HK:=aa (fun W=>fP s[k] _ W e)
    clear hg e;have HS:=aa (ki.trans HM.out.symm);clear ki;go_wp2_with (go_at_call 89;refine(HK.out _).mono ?_;rintro e w' ⟨rfl,rfl⟩)
    go_ret
    exact⟨iC (by rw[HS.out]),rfl⟩
   ·have gu:=nI (by rw[←HM.out];exact hk) hg e
    have HK:=aa (fun W=>fP s[k] _ W e)
    clear hg e;rw[←HM.out] at gu;go_wp2_with (go_at_call 89;refine(HK.out _).mono ?_;rintro e w' ⟨rfl,rfl⟩)
    go_round
    case rel=>exact⟨k+1,gu,by go_num⟩
    case measure=>simp[intOf];omega
  ·have oz:k=m:=by omega
   go_wp2_with fail
   go_ret
   exact⟨iC (by omega),rfl⟩
theorem TP (s:ByteArray) (w:World) (hs:s.size≤100000):Calls Tryz.prog 82 #[.string s,.func (.func 157) #[] #[]] w fun e w'=>e=.returned (.int .i64 (runN zD s.data.toList:Int))∧w=w':=by
 have hle:runN zD s.data.toList≤s.size:=by
  have:=ig zD s.data.toList;rwa[←Lib.size_eq] at this
 obtain⟨m,hm⟩ :∃m:Nat,m=runN zD s.data.toList:=⟨_,rfl⟩;rw[←hm] at hle ⊢;have HM:=aa hm;clear hm;go_enter Tryz.func82,Tryz.ntmps82
 go_wp2_with fail
 go_loop [5] (fun i=>∃k:Nat,k≤m∧i=.int .i64 k) (fun i=>s.size-(intOf i).toNat)
 case atStart=>exact⟨0,bo _,rfl⟩
 case round =>
  obtain⟨k,hk,rfl⟩:=hrel;by_cases hlt:k<s.size
  ·have hg:s.data.toList[k]? = some s[k]:=bG (l:=s.data.toList) (i:=k) (by simpa using hlt)
   cases e:zD s[k]
   ·have ki:=nJ (by rw[←HM.out];exact hk) hg e
    have HK:=aa (fun W=>OH s[k] _ W e)
    clear hg e;have HS:=aa (ki.trans HM.out.symm);clear ki;go_wp2_with (go_at_call 157;refine(HK.out _).mono ?_;rintro e w' ⟨rfl,rfl⟩)
    go_ret
    exact⟨iC (by rw[HS.out]),rfl⟩
   ·have gu:=nI (by rw[←HM.out];exact hk) hg e
    have HK:=aa (fun W=>OH s[k] _ W e)
    clear hg e;rw[←HM.out] at gu;go_wp2_with (go_at_call 157;refine(HK.out _).mono ?_;rintro e w' ⟨rfl,rfl⟩)
    go_round
    case rel=>exact⟨k+1,gu,by go_num⟩
    case measure=>simp[intOf];omega
  ·have oz:k=m:=by omega
   go_wp2_with fail
   go_ret
   exact⟨iC (by omega),rfl⟩
theorem an {b:Nat} {w u v:World} (h:Hid (Kp b w u)) (k:Kp b u v):Hid (Kp b w v):=aa (h.out.trans k)
def nK (b:Nat) (s:ByteArray) (k:Nat) (w:World) (o:Option (List UInt8)) (e:Ending) (w':World):Prop :=
 Kp b w w'∧match o with
  | some r=>∃k',e=.returned (.bool true)∧Rd w' b s k'∧aR s k'=r∧k<k'
  | none=>e=.returned (.bool false)
theorem nK.og {b:Nat} {s:ByteArray} {k:Nat} {w w':World} {r:List UInt8} {e:Ending} (h:nK b s k w (some r) e w') :∃k',e=.returned (.bool true)∧Rd w' b s k'∧aR s k'=r∧k<k'∧Kp b w w':=by
 obtain⟨h0,k',h1,h2,h3,h4⟩:=h;exact⟨k',h1,h2,h3,h4,h0⟩
theorem nK.oh {b:Nat} {s:ByteArray} {k:Nat} {w w':World} {e:Ending} (h:nK b s k w none e w'):e=.returned (.bool false)∧Kp b w w':=⟨h.2,h.1⟩
theorem BZ (b:Nat) (s:ByteArray) (k:Nat) (w:World) (h:Rd w b s k) (hk:k+2≤s.size):Calls Tryz.prog 86 #[.pointer (some ⟨b,0,none⟩)] w (nK b s k w (comm (aR s (k+2)))):=by
 have cw:=h.top;have HR:=aa h;clear h;have T1:=aa (fun W h=>bt b s k 2 W h hk)
 by_cases hp:0<opn (aR s (k+2))
 ·have B1:=aa (fun W=>oe (s.extract (k+2) s.size) true W (by rw[aD s _ hk];omega) (by rw[dj];exact bQ hp))
  have K1:=aa (fun W h=>oW b s (k+2) W h hp)
  have hc:comm (aR s (k+2))=(KN (aR s (k+2))).map (·.2):=by unfold comm;rw[ai hp]
  cases hb:KN (aR s (k+2)) with
  | none =>
   rw[hb] at hc;have HC:=aa hc;rw[hb] at K1;clear hb hc hp;go_enter Tryz.func86,Tryz.ntmps86
   go_wp2_with fail
   refine(T1.out _ HR.out).mono ?_;rintro e w1 ⟨rfl,r1,k1⟩;have R1:=aa r1;have KK1:=aa k1;clear r1 k1;go_wp2_with fail
   refine(az _ _ _ _ R1.out).mono ?_;rintro e w2 ⟨rfl,r2,k2⟩;have R2:=aa r2;have KK2:=an KK1 k2;clear r2 k2;go_wp2_with fail
   refine(B1.out _).mono ?_;rintro e OK ⟨rfl,rfl⟩;go_wp2_with fail
   refine(K1.out _ R2.out).mono ?_;intro e w3 A7;obtain⟨rfl,k3⟩:=A7.oh;clear A7;have KK3:=an KK2 k3;clear k3;go_wp2_with fail
   go_ret
   refine⟨KK3.out,?_⟩;rw[HC.out];rfl
  | some z =>
   obtain⟨t,r⟩:=z;rw[hb] at hc;have HC:=aa hc;rw[hb] at K1;clear hb hc hp;go_enter Tryz.func86,Tryz.ntmps86
   go_wp2_with fail
   refine(T1.out _ HR.out).mono ?_;rintro e w1 ⟨rfl,r1,k1⟩;have R1:=aa r1;have KK1:=aa k1;clear r1 k1;go_wp2_with fail
   refine(az _ _ _ _ R1.out).mono ?_;rintro e w2 ⟨rfl,r2,k2⟩;have R2:=aa r2;have KK2:=an KK1 k2;clear r2 k2;go_wp2_with fail
   refine(B1.out _).mono ?_;rintro e OK ⟨rfl,rfl⟩;go_wp2_with fail
   refine(K1.out _ R2.out).mono ?_;intro e w3 A7;obtain⟨k',rfl,r3,hr3,hlt,k3⟩:=A7.og;clear A7;have R3:=aa r3;have KK3:=an KK2 k3;have HE:=aa hr3;clear r3 k3 hr3;go_wp2_with fail
   go_ret
   refine⟨KK3.out,?_⟩;rw[HC.out];exact⟨k',rfl,R3.out,HE.out,by omega⟩
 ·have B1:=aa (fun W=>oe (s.extract (k+2) s.size) false W (by rw[aD s _ hk];omega) (by rw[dj];exact bZ hp))
  obtain⟨A,hA⟩ :∃A:ByteArray,A=⟨(Lib.cut (aR s (k+2)) [10]).1.toArray⟩:=⟨_,rfl⟩;obtain⟨R,hR⟩ :∃R:ByteArray,R=⟨(Lib.cut (aR s (k+2)) [10]).2.1.toArray⟩:=⟨_,rfl⟩;obtain⟨o,ho⟩ :∃o:Bool,o=(Lib.cut (aR s (k+2)) [10]).2.2:=⟨_,rfl⟩;have C1:=aa (fun W hW=>BX (s.extract (k+2) s.size) ⟨#[10]⟩ W (by rw[aD s _ hk];omega) hW)
  rw[dj,show(⟨#[10]⟩:ByteArray).data.toList=[10] from rfl,←hA,←hR,←ho] at C1
  have hAs:A.size=(Lib.cut (aR s (k+2)) [10]).1.length:=by rw[hA,Gk]
  have hc:comm (aR s (k+2))=some (aR s (k+2+A.size)):=by unfold comm;rw[ab hp,←hAs,fe]
  have hAl:k+2+A.size≤s.size:=by
   rw[hAs,Zk];have:=ig (fun c=>c != 10) (aR s (k+2))
   rw[fS] at this;unfold runN at this;omega
  have HC:=aa hc;have T2:=aa (fun W h=>bt b s (k+2) A.size W h hAl)
  clear hA hR ho hAs hc hp;go_enter Tryz.func86,Tryz.ntmps86
  go_wp2_with fail
  refine(T1.out _ HR.out).mono ?_;rintro e w1 ⟨rfl,r1,k1⟩;have R1:=aa r1;have KK1:=aa k1;clear r1 k1;go_wp2_with fail
  refine(az _ _ _ _ R1.out).mono ?_;rintro e w2 ⟨rfl,r2,k2⟩;have R2:=aa r2;have KK2:=an KK1 k2;clear r2 k2;go_wp2_with fail
  refine(B1.out _).mono ?_;rintro e OK ⟨rfl,rfl⟩;go_wp2_with fail
  refine(az _ _ _ _ R2.out).mono ?_;rintro e w3 ⟨rfl,r3,k3⟩;have R3:=aa r3;have KK3:=an KK2 k3;clear r3 k3;go_wp2_with fail
  refine(C1.out _ R3.out.mx).mono ?_;rintro e w4 ⟨rfl,n4,rfl⟩;have R4:=aa (R3.out.draws n4);have KK4:=aa (KK3.out.draws n4);generalize w3.drewN n4=w4 at *;go_wp2_with fail
  refine(T2.out _ R4.out).mono ?_;rintro e w5 ⟨rfl,r5,k5⟩;have R5:=aa r5;have KK5:=an KK4 k5;clear r5 k5;go_wp2_with fail
  go_ret
  refine⟨KK5.out,?_⟩;rw[HC.out];exact⟨_,rfl,R5.out,rfl,by omega⟩
def B9 (W:World) (v:Value) (n:Int):Prop:=∃g,v=.iface 59 (.pointer (some ⟨g,0,none⟩))∧W.heap[g]? = some (.cells #[.int .i64 n,.iface 60 (.int .i64 5)] 62 (0,0))
theorem lz (n:Int) (w:World):Calls Tryz.prog 46 #[.int .i64 n,.int .i64 5] w fun e w'=>e=.returned (.iface 59 (.pointer (some ⟨w.heap.size,0,none⟩)))∧w'=w.alloc (.cells #[.int .i64 n,.iface 60 (.int .i64 5)] 62):=by
 go_enter Tryz.func46,Tryz.ntmps46
 go_wp2
 go_ret
 exact⟨rfl,rfl⟩
theorem B9.new (w:World) (n:Int):B9 (w.alloc (.cells #[.int .i64 n,.iface 60 (.int .i64 5)] 62)) (.iface 59 (.pointer (some ⟨w.heap.size,0,none⟩))) n:=⟨_,rfl,World.alloc_heap_new w _⟩
def dD (s:ByteArray):Int:=1+(nl s.data.toList:Int)
theorem jq (s:ByteArray) (k:Nat):((1+nl (s.data.toList.take k):Nat):Int)=dD s-nl (aR s k):=by
 unfold dD aR;have:=Zi s.data.toList k;omega
def OL (b:Nat) (s:ByteArray) (k:Nat) (w:World) (e:Ending) (w':World):Prop :=
 Kp b w w'∧((∃k',e=.returned .nilIface∧Rd w' b s k'∧k≤k'∧nH (aR s k) (.ok (aR s k'))) ∨
  (∃r v,e=.returned v∧B9 w' v (dD s-nl r)∧nH (aR s k) (.error r)))
theorem OM {l:List UInt8} (h:Lib.hasPrefix l [45,45]=true):l=45::45::l.drop 2:=by
 match l with
 | []=>simp[Lib.hasPrefix] at h
 | [a]=>simp[Lib.hasPrefix] at h
 | a::b::t =>
  simp[Lib.hasPrefix,List.isPrefixOf] at h;simp[←h.1,←h.2]
theorem ON (b:Nat) (s:ByteArray) (k:Nat) (w:World) (h:Rd w b s k):Calls Tryz.prog 47 #[.pointer (some ⟨b,0,none⟩)] w (OL b s k w):=by
 have cw:=h.top;have hle:=h.le;have HR:=aa h;clear h;go_enter Tryz.func47,Tryz.ntmps47
 go_wp2_with fail
 go_loopg [] s.size (fun z wr=>∃k1,Rd wr b s k1∧s.size-k1≤z∧Kp b w wr∧k≤k1∧∀o,nH (aR s k1) o→nH (aR s k) o)
 case atStart=>exact⟨k,HR.out,by omega,Kp.refl _ _,ah _,fun _ h=>h⟩
 case round =>
  obtain⟨k1,hr,hz,TQ,rl,hsk⟩:=hrel;have TR:=hr.le;have R0:=aa hr;have K0:=aa TQ;have HS:=aa hsk;clear hr TQ hsk;obtain⟨m,hm⟩ :∃m:Nat,m=runN pB (aR s k1):=⟨_,rfl⟩;have C1:=aa (fun W=>xJ (s.extract k1 s.size) W (by rw[aD s _ TR];omega))
  rw[dj,←hm] at C1;have yn:=ig pB (aR s k1);rw[fS,←hm] at yn;have hdw:(aR s k1).dropWhile pB=aR s (k1+m):=by rw[←qG,←hm,fe]
  have HD:=aa hdw;clear hm hdw;cases kY:Lib.hasPrefix (aR s (k1+m)) [45,45]
  ·have P1:=aa (fun W=>me (s.extract (k1+m) s.size) ⟨#[45,45]⟩ W false (by rw[dj];exact kY))
   have HP:=aa kY;clear kY;go_wp2_with fail
   refine(az _ _ _ _ R0.out).mono ?_;rintro e w1 ⟨rfl,r1,WX⟩;have R1:=aa r1;have K1:=an K0 WX;clear r1 WX;go_wp2_with fail
   refine(C1.out _).mono ?_;rintro e CZ ⟨rfl,rfl⟩;go_wp2_with fail
   refine(bt _ _ _ _ _ R1.out (by omega)).mono ?_;rintro e w2 ⟨rfl,r2,k2⟩
   have R2:=aa r2;have K2:=an K1 k2;clear r2 k2;go_wp2_with fail
   refine(az _ _ _ _ R2.out).mono ?_;rintro e w3 ⟨rfl,r3,k3⟩;have R3:=aa r3;have K3:=an K2 k3;clear r3 k3;go_wp2_with fail
   refine(P1.out _).mono ?_;rintro e w3' ⟨rfl,rfl⟩;go_wp2_with fail
   go_ret
   exact⟨K3.out,.inl ⟨_,rfl,R3.out,by omega,HS.out _ (.done HD.out HP.out)⟩⟩
  ·have P1:=aa (fun W=>me (s.extract (k1+m) s.size) ⟨#[45,45]⟩ W true (by rw[dj];exact kY))
   have h2:=OM kY;rw[fe] at h2;have hroom:k1+m+2≤s.size:=by
    have:=aw List.length h2;rw[fS,List.length_cons,List.length_cons] at this;omega
   have HP:=aa h2;clear kY h2;have CM:=aa (fun W h=>BZ b s (k1+m) W h hroom)
   cases hcm:comm (aR s (k1+m+2)) with
   | none =>
    rw[hcm] at CM;have HCM:=aa hcm;clear hcm;go_wp2_with fail
    refine(az _ _ _ _ R0.out).mono ?_;rintro e w1 ⟨rfl,r1,WX⟩;have R1:=aa r1;have K1:=an K0 WX;clear r1 WX;go_wp2_with fail
    refine(C1.out _).mono ?_;rintro e CZ ⟨rfl,rfl⟩;go_wp2_with fail
    refine(bt _ _ _ _ _ R1.out (by omega)).mono ?_;rintro e w2 ⟨rfl,r2,k2⟩
    have R2:=aa r2;have K2:=an K1 k2;clear r2 k2;go_wp2_with fail
    refine(az _ _ _ _ R2.out).mono ?_;rintro e w3 ⟨rfl,r3,k3⟩;have R3:=aa r3;have K3:=an K2 k3;clear r3 k3;go_wp2_with fail
    refine(P1.out _).mono ?_;rintro e w3' ⟨rfl,rfl⟩;have c2:=R3.out.c2;rw[jq] at c2;generalize Gl:dD s-(nl (aR s (k1+m)):Int)=line at c2;have HL:=aa Gl;clear Gl;go_wp2_with fail
    clear c2;refine(CM.out _ R3.out).mono ?_;intro e w4 fZ;obtain⟨rfl,k4⟩:=fZ.oh;have K4:=an K3 k4;clear fZ k4;go_wp2_with fail
    refine(lz _ _).mono ?_;rintro e w5 ⟨rfl,rfl⟩;go_wp2_with fail
    go_ret
    refine⟨K4.out.alloc _,.inr ⟨_,_,rfl,?_,HS.out _ (.bad (HD.out.trans HP.out) HCM.out)⟩⟩;rw[←HP.out,HL.out];exact B9.new _ _
   | some r' =>
    rw[hcm] at CM;have HCM:=aa hcm;clear hcm;go_wp2_with fail
    refine(az _ _ _ _ R0.out).mono ?_;rintro e w1 ⟨rfl,r1,WX⟩;have R1:=aa r1;have K1:=an K0 WX;clear r1 WX;go_wp2_with fail
    refine(C1.out _).mono ?_;rintro e CZ ⟨rfl,rfl⟩;go_wp2_with fail
    refine(bt _ _ _ _ _ R1.out (by omega)).mono ?_;rintro e w2 ⟨rfl,r2,k2⟩
    have R2:=aa r2;have K2:=an K1 k2;clear r2 k2;go_wp2_with fail
    refine(az _ _ _ _ R2.out).mono ?_;rintro e w3 ⟨rfl,r3,k3⟩;have R3:=aa r3;have K3:=an K2 k3;clear r3 k3;go_wp2_with fail
    refine(P1.out _).mono ?_;rintro e w3' ⟨rfl,rfl⟩;have c2:=R3.out.c2;rw[jq] at c2;generalize Gl:dD s-(nl (aR s (k1+m)):Int)=line at c2;clear Gl;go_wp2_with fail
    clear c2;refine(CM.out _ R3.out).mono ?_;intro e w4 fZ;obtain⟨k',rfl,r4,hr4,hlt,k4⟩:=fZ.og;have R4:=aa r4;have K4:=an K3 k4;have HE:=aa hr4;clear fZ k4 r4 hr4;go_wp2_with fail
    go_roundg (s.size-k')
    case measure=>have:=R4.out.le;omega
    case rel=>exact⟨k',R4.out,ah _,K4.out,by omega,fun o ho=>HS.out o (.more (HD.out.trans HP.out) HCM.out (HE.out▸ho))⟩
theorem Ca {b:Nat} {l:List UInt8} (h:iM b l=true) {c:UInt8} (hc:c∈l):oV c.toNat<b:=by
 unfold iM at h;rw[List.all_eq_true] at h;simpa using h c hc
theorem OO {p:UInt8→Bool} (a b:List UInt8) (h :∀c∈a,p c=true):(a++b).dropWhile p=b.dropWhile p:=by
 induction a with
 | nil=>rfl
 | cons c t ih =>
  rw[dT,List.dropWhile,h c (by simp)]
  exact ih fun x hx=>h x (by simp[hx])
theorem Gm {p:UInt8→Bool} (a b:List UInt8) (ha:a≠[]) (h :∀c∈a,p c=false):(a++b).dropWhile p=a++b:=by
 cases a with
 | nil=>exact absurd rfl ha
 | cons c t=>rw[dT,List.dropWhile,h c (by simp)]
theorem TT (p x q:List UInt8) (hp :∀c∈p,yP c.toNat=true) (hq :∀c∈q,yP c.toNat=true) (hx :∀c∈x,yP c.toNat=false) (hn:x≠[]):Gg (p++x++q)=x:=by
 rw[←xE];unfold Lib.trimLeftS Lib.trimRightS;have e1:List.dropWhile (fun y=>blanks.contains y) (p++x++q)=x++q:=by
  rw[cP,OO p (x++q) (fun c hc=>by rw[l7];exact hp c hc),Gm x q hn (fun c hc=>by rw[l7];exact hx c hc)]
 rw[e1,List.reverse_append,OO q.reverse x.reverse (fun c hc=>by rw[l7];exact hq c (by simpa using hc))]
 have e2:=Gm (p:=fun y=>blanks.contains y) x.reverse [] (by simpa using hn) (fun c hc=>by rw[l7];exact hx c (by simpa using hc))
 rw[gh] at e2;rw[e2,List.reverse_reverse]
theorem xK {b:Nat} {l d:List UInt8} (h2:2≤b) (h36:b≤36) (ht:Gg l=d) (h:yR d=false):lq b l=yQ (DT b d:Int)∧qE b l=tl b d:=by
 unfold lq qE;have e:Lib.trimPrefix d [45]=d:=by unfold Lib.trimPrefix;unfold yR at h;rw[h,ab (by decide)]
 have hb:2≤(b:Int)∧(b:Int)≤36:=by omega
 have hm:¬ yR d=true:=by rw[h];decide
 rw[ht,ai hb,ai hb,ab hm,e,gV];exact⟨rfl,rfl⟩
theorem Zt {n:Int} (h0:-9223372036854775808≤n) (h1:n≤9223372036854775807):yQ n=n:=by unfold yQ;omega
theorem Jn (b:Nat) (l:List UInt8) :∀n:Nat,l.foldl (fun n c=>n*b+oV c.toNat) n=n*b ^ l.length+val b l:=by
 induction l with
 | nil=>intro n;simp[val]
 | cons c t ih =>
  intro n;have e:val b (c::t)=oV c.toNat*b ^ t.length+val b t:=by
   show t.foldl _ (0*b+oV c.toNat)=_
   rw[ih];simp
  rw[List.foldl_cons,ih,e,List.length_cons,E6,wK,Nat.mul_assoc,E7 b,oK]
theorem OP (b:Nat) (c:UInt8) (l:List UInt8):val b (c::l)=oV c.toNat*b ^ l.length+val b l:=by
 show l.foldl _ (0*b+oV c.toNat)=_
 rw[Jn];simp
theorem OQ {b:Nat} (hb:b≤36) {l:List UInt8} (h:iM b l=true) :∀c∈l,yP c.toNat=false:=by
 intro c hc;have:=Ca h hc;unfold yP;rw[Bool.or_eq_false_iff,zL,zL];unfold oV at this;split at this
 ·omega
 ·split at this
  ·omega
  ·split at this<;>omega
theorem Zu {b:Nat} (hb:b≤36) {l:List UInt8} (h:iM b l=true) (t:List UInt8) (hl:l≠[]):yR (l++t)=false:=by
 cases l with
 | nil=>exact absurd rfl hl
 | cons c r =>
  have h1:=Ca h (c:=c) (by simp)
  have hne:((45:UInt8) == c)=false:=by
   rw[aC];rintro rfl;have:oV (45:UInt8).toNat=36:=by decide
   omega
  simp[yR,Lib.hasPrefix,List.isPrefixOf,hne]
theorem Zv {x:List UInt8} (hx :∀c∈x,yP c.toNat=false) (hn:x≠[]):Gg x=x:=by
 have:=TT [] x [] (fun c hc=>by cases hc) (fun c hc=>by cases hc) hx hn
 simpa using this
end Go.Proofs.YtodmcdfeldkocaaGreatDoor
