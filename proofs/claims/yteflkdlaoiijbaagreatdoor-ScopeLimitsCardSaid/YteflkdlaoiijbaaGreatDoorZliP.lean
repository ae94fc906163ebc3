/- selkielaw08.ScopeLimits answers true for every number and bool and leaves its arguments as they were; the listed variables start as the program's text lays them (the card ties them). -/
import Derived.Test.YteflkdlaoiijbaaGreatDoorM15
set_option maxHeartbeats 16000000
set_option maxRecDepth 20000
namespace Go.Proofs.YteflkdlaoiijbaaGreatDoor
open Go.ChangeShapes Go.WideShapes Go.ChangeAt Go.WideMaps Go.WideElems Go.RowKit Go.ChangeMaps
set_option maxRecDepth 100000 in
theorem limits_lifted (os:Os) (started:os.Started) (H:Type) (enc:TypeId×Value→H) :
  ReturnsInHanded {} Tryz.checked os 6 .any (fun w args=>(Rows.scopeLimitsSpec.pre enc Tryz.prog Tryz.f6 [] false w args∧laidMetH Tryz.prog xq w)∧sizedMet enc Tryz.prog Tryz.f6 (OpenSpec.ofChange Rows.scopeLimitsSpec) false w args)
   (Rows.scopeLimitsSpec.post enc Tryz.prog Tryz.f6 false true false false):=by
 refine handed (C:=Tryz.checked) (X:=fun w _=>laidMetH Tryz.prog xq w) (fun _ _ _ hh h=>h.of_heap hh) own started (by kernel_rfl) Tryz.func6
  (ChangeSpec.witness_shaped (enc:=enc) (C:=Tryz.checked) (os:=os) (X:=fun w _=>laidMetH Tryz.prog xq w) false (door os rG) #[.int .u8 0,.bool false] 8 (TP _ _) (yK os) (by kernel_rfl) (by kernel_rfl) (by kernel_rfl) (Jl os _)) ?_
 intro W base args ds gs before Vj hW hL hsh hwt;have hval :∀(j:Nat) t v,Tryz.f6.params[j]? = some t→args[j]? = some v→Value.okWide Tryz.prog W .any base t v:=Vj;have Yx:=hW;obtain⟨p,q,hA0,hV,rfl,hfz,cN⟩:=hW;have hA:DataW.TrodAll enc Tryz.prog W 0 (fun _=>true) true Tryz.f6.params.toList args.toList ds p:=hA0
 rw[Tryz.params6] at hA hval;obtain⟨v0,v1,d0,d1,p0,p1,rfl,rfl,rfl,h0,h1⟩:=trodAll_two hA;obtain⟨rfl,rfl⟩:=trodVars_none hV;clear hA0 Vj;simp only[List.append_nil] at Yx;have adg :∀x∈p0,x.block<W.heap.size:=fun x hx=>by simpa using Yx.lt x (by simp[hx])
 have adh :∀x∈p1,x.block<W.heap.size:=fun x hx=>by simpa using Yx.lt x (by simp[hx])
 have g0:=h0;have adi:=adg;have g1:=h1;have adj:=adh;obtain⟨a,rfl,rfl,rfl,wa⟩:=open_int Tryz.underlying5 (hval 0 5 v0 rfl rfl) h0;obtain⟨b,rfl,rfl,rfl⟩:=open_bool Tryz.underlying4 (hval 1 4 v1 rfl rfl) h1;refine(DJ a b W (abu wa) (abv wa) (ade hsh hL)).mono fun e W' ⟨he,hb⟩=>?_
 subst he;exact⟨_,rfl,_,_,_,[],_,[],Yx,trodAll_mk1 (shut_bool Tryz.underlying4 _),trodAll_mk2 (Below.trod laidOut (by kernel_rfl) (of_decide_eq_true (by kernel_rfl)) g0 hb adi) (Below.trod laidOut (by kernel_rfl) (of_decide_eq_true (by kernel_rfl)) g1 hb adj),rfl,hb.frame _,fun h=>by cases h⟩
theorem limits_holds:Rows.ScopeLimitsSaid :=
 OpenClaim.holds_of_wide 6 Tryz.f6 rfl rfl rfl rfl rfl rfl rfl ⟨rfl,rfl,rfl,rfl,rfl⟩ rfl rfl rfl rfl rfl (by kernel_rfl) Tryz.func6 (by kernel_rfl)
  (of_decide_eq_true (by kernel_rfl)) (by unfold Func.isWrapper;first|(rw[if_pos (by decide +kernel)];kernel_rfl)|(rw[if_neg (by decide +kernel)];exact⟨rfl,rfl⟩))
  (fun os started H enc _=>limits_lifted os started H enc)
theorem limits_card:Rows.ScopeLimitsCardSaid :=
 Claim7.holds_tied_plain_at .later [] [.data,.handle,.pinned] true (true,"83676b7ebf3e88acf564afd5bd34aea175f1a0c544818fb4eaa8c71941b638d1") true
  limits_holds (fun _ h=>by cases h) (by kernel_rfl) (fun _ h=>by cases h) scopeLimits_row_tie rfl ⟨rfl,rfl⟩ (by kernel_rfl) rfl
  (fun f fn hf hfn=>by
   obtain rfl:f=6:=Option.some.inj ((show Tryz.prog.funcNamed "selkie/selkielaw08.ScopeLimits" = some 6 by kernel_rfl).symm.trans hf) |>.symm
   obtain rfl:fn=Tryz.f6:=(Option.some.inj (Tryz.func6.symm.trans hfn)).symm;exact⟨by kernel_rfl,fun j t ht=>by
    rw[Tryz.params6] at ht;have hm:t∈[5,4]:=by simpa using Array.mem_of_getElem? ht
    have hall:([5,4].all fun u=>!Tryz.prog.wantsStandIn u)=true:=by kernel_rfl
    exact(show Tryz.prog.wantsStandIn t=false by simpa using List.all_eq_true.1 hall t hm)⟩)
  (by kernel_rfl)
end Go.Proofs.YteflkdlaoiijbaaGreatDoor
