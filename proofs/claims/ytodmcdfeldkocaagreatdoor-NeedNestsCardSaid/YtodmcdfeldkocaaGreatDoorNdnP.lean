/- selkielaw09.NeedNests answers true for any three numbers and leaves its arguments as they were; the listed variables start as the program's text lays them (the card ties them). -/
import Derived.Test.YtodmcdfeldkocaaGreatDoorM15
set_option maxHeartbeats 16000000
set_option maxRecDepth 20000
namespace Go.Proofs.YtodmcdfeldkocaaGreatDoor
open Go.ChangeShapes Go.WideShapes Go.ChangeAt Go.WideMaps Go.WideElems Go.RowKit Go.ChangeMaps
set_option maxRecDepth 100000 in
theorem nests_lifted (os:Os) (started:os.Started) (H:Type) (enc:TypeId×Value→H) :
  ReturnsInHanded {} Tryz.checked os 5 .any (fun w args=>(Rows.needNestsSpec.pre enc Tryz.prog Tryz.f5 [] false w args∧laidMetH Tryz.prog yj w)∧sizedMet enc Tryz.prog Tryz.f5 (OpenSpec.ofChange Rows.needNestsSpec) false w args)
   (Rows.needNestsSpec.post enc Tryz.prog Tryz.f5 false true false false):=by
 refine handed (C:=Tryz.checked) (X:=fun w _=>laidMetH Tryz.prog yj w) (fun _ _ _ hh h=>h.of_heap hh) own started (by kernel_rfl) Tryz.func5
  (ChangeSpec.witness_shaped (enc:=enc) (C:=Tryz.checked) (os:=os) (X:=fun w _=>laidMetH Tryz.prog yj w) false (door os sq) #[.int .u8 0,.int .u8 0,.int .u8 0] 8 (VY _ _) (zy os) (by kernel_rfl) (by kernel_rfl) (by kernel_rfl) (KC os _)) ?_
 intro W base args ds gs before XE hW hL hsh hwt;have hval :∀(j:Nat) t v,Tryz.f5.params[j]? = some t→args[j]? = some v→Value.okWide Tryz.prog W .any base t v:=XE;have WT:=hW;obtain⟨p,q,hA0,hV,rfl,hfz,dJ⟩:=hW;have hA:DataW.TrodAll enc Tryz.prog W 0 (fun _=>true) true Tryz.f5.params.toList args.toList ds p:=hA0
 rw[Tryz.params5] at hA hval;obtain⟨v0,v1,v2,d0,d1,d2,p0,p1,p2,rfl,rfl,rfl,h0,h1,h2⟩:=trodAll_three hA;obtain⟨rfl,rfl⟩:=trodVars_none hV;clear hA0 XE;simp only[List.append_nil] at WT;have aei :∀x∈p0,x.block<W.heap.size:=fun x hx=>by simpa using WT.lt x (by simp[hx])
 have aej :∀x∈p1,x.block<W.heap.size:=fun x hx=>by simpa using WT.lt x (by simp[hx])
 have Uc :∀x∈p2,x.block<W.heap.size:=fun x hx=>by simpa using WT.lt x (by simp[hx])
 have g0:=h0;have aek:=aei;have g1:=h1;have ael:=aej;have g2:=h2;have aem:=Uc;obtain⟨a,rfl,rfl,rfl,wa⟩:=open_int Tryz.underlying5 (hval 0 5 v0 rfl rfl) h0;obtain⟨b,rfl,rfl,rfl,wb⟩:=open_int Tryz.underlying5 (hval 1 5 v1 rfl rfl) h1;obtain⟨c,rfl,rfl,rfl,wc⟩:=open_int Tryz.underlying5 (hval 2 5 v2 rfl rfl) h2;refine(Ky a b c W (Rl wa) (Rn wa) (Rl wb) (Rn wb) (Rl wc) (Rn wc) (aeg hsh hL)).mono fun e W' ⟨he,hb⟩=>?_
 subst he;exact⟨_,rfl,_,_,_,[],_,[],WT,trodAll_mk1 (shut_bool Tryz.underlying4 _),trodAll_mk3 (Below.trod laidOut (by kernel_rfl) (of_decide_eq_true (by kernel_rfl)) g0 hb aek) (Below.trod laidOut (by kernel_rfl) (of_decide_eq_true (by kernel_rfl)) g1 hb ael) (Below.trod laidOut (by kernel_rfl) (of_decide_eq_true (by kernel_rfl)) g2 hb aem),rfl,hb.frame _,fun h=>by cases h⟩
theorem nests_holds:Rows.NeedNestsSaid :=
 OpenClaim.holds_of_wide 5 Tryz.f5 rfl rfl rfl rfl rfl rfl rfl ⟨rfl,rfl,rfl,rfl,rfl⟩ rfl rfl rfl rfl rfl (by kernel_rfl) Tryz.func5 (by kernel_rfl)
  (of_decide_eq_true (by kernel_rfl)) (by unfold Func.isWrapper;first|(rw[if_pos (by decide +kernel)];kernel_rfl)|(rw[if_neg (by decide +kernel)];exact⟨rfl,rfl⟩))
  (fun os started H enc _=>nests_lifted os started H enc)
theorem nests_card:Rows.NeedNestsCardSaid :=
 Claim7.holds_tied_plain_at .later [] [.data,.handle,.pinned] true (true,"a38cd9d01a369379cf711719124da3073049721ca09d8e7eb141ad430218dbc9") true
  nests_holds (fun _ h=>by cases h) (by kernel_rfl) (fun _ h=>by cases h) needNests_row_tie rfl ⟨rfl,rfl⟩ (by kernel_rfl) rfl
  (fun f fn hf hfn=>by
   obtain rfl:f=5:=Option.some.inj ((show Tryz.prog.funcNamed "selkie/selkielaw09.NeedNests" = some 5 by kernel_rfl).symm.trans hf) |>.symm
   obtain rfl:fn=Tryz.f5:=(Option.some.inj (Tryz.func5.symm.trans hfn)).symm;exact⟨by kernel_rfl,fun j t ht=>by
    rw[Tryz.params5] at ht;have hm:t∈[5,5,5]:=by simpa using Array.mem_of_getElem? ht
    have hall:([5,5,5].all fun u=>!Tryz.prog.wantsStandIn u)=true:=by kernel_rfl
    exact(show Tryz.prog.wantsStandIn t=false by simpa using List.all_eq_true.1 hall t hm)⟩)
  (by kernel_rfl)
end Go.Proofs.YtodmcdfeldkocaaGreatDoor
