/- selkielaw09.NeedLocals answers true for every tree and leaves its arguments as they were; the listed variables start as the program's text lays them (the card ties them). -/
import Derived.Test.YtodmcdfeldkocaaGreatDoorK15
set_option maxHeartbeats 16000000
set_option maxRecDepth 20000
namespace Go.Proofs.YtodmcdfeldkocaaGreatDoor
open Go.ChangeShapes Go.WideShapes Go.ChangeAt Go.WideMaps Go.WideElems Go.RowKit Go.ChangeMaps
set_option maxRecDepth 100000 in
theorem locals_lifted (os:Os) (started:os.Started) (H:Type) (enc:TypeId×Value→H) :
  ReturnsInHanded {} Tryz.checked os 3 .any (fun w args=>(Rows.needLocalsSpec.pre enc Tryz.prog Tryz.f3 [] false w args∧laidMetH Tryz.prog yz w)∧sizedMet enc Tryz.prog Tryz.f3 (OpenSpec.ofChange Rows.needLocalsSpec) false w args)
   (Rows.needLocalsSpec.post enc Tryz.prog Tryz.f3 false true false false):=by
 refine handed (C:=Tryz.checked) (X:=fun w _=>laidMetH Tryz.prog yz w) (fun _ _ _ hh h=>h.of_heap hh) own started (by kernel_rfl) Tryz.func3
  (ChangeSpec.witness_shaped (enc:=enc) (C:=Tryz.checked) (os:=os) (X:=fun w _=>laidMetH Tryz.prog yz w) false (door os sE) #[.agg #[.slice Option.none 0 0,.int .i64 0]] 8 (Vs _ _) (zL os) (by kernel_rfl) (by kernel_rfl) (by kernel_rfl) (Kk os _)) ?_
 intro W base args ds gs before Xc hW hL hsh hwt;have hval :∀(j:Nat) t v,Tryz.f3.params[j]? = some t→args[j]? = some v→Value.okWide Tryz.prog W .any base t v:=Xc;have hW':=hW;obtain⟨p,q,hA0,hV,rfl,hfz,dJ⟩:=hW;have hA:DataW.TrodAll enc Tryz.prog W 0 (fun _=>true) true Tryz.f3.params.toList args.toList ds p:=hA0
 rw[Tryz.params3] at hA hval;obtain⟨v0,d0,rfl,rfl,h0⟩:=trodAll_one hA;obtain⟨rfl,rfl⟩:=trodVars_none hV;clear hA0 Xc;simp only[List.append_nil] at hW';have ab8 :∀x∈p,x.block<W.heap.size:=fun x hx=>by simpa using hW'.lt x (by simp[hx])
 have g0:=h0;have adT:=ab8;obtain⟨nva,Ta,ra,rfl,tra,_,_,wxa⟩:=open_tree (hval 0 24 v0 rfl rfl) h0 ab8;have rda:RdR Ta:=ab7 (by rw[show Tryz.checked.prog=Tryz.prog from rfl,Tryz.params3];rfl) rfl wxa hwt
 refine(EF _ Ta ra W ⟨_,rfl,tra.nodes⟩ rda (adR hsh hL)).mono fun e W' ⟨he,hb⟩=>?_
 subst he;exact⟨_,rfl,_,_,_,[],_,[],hW',trodAll_mk1 (shut_bool Tryz.underlying4 _),trodAll_mk1 (Below.trod laidOut (by kernel_rfl) (of_decide_eq_true (by kernel_rfl)) g0 hb adT),rfl,hb.frame _,fun h=>by cases h⟩
theorem locals_holds:Rows.NeedLocalsSaid :=
 OpenClaim.holds_of_wide 3 Tryz.f3 rfl rfl rfl rfl rfl rfl rfl ⟨rfl,rfl,rfl,rfl,rfl⟩ rfl rfl rfl rfl rfl (by kernel_rfl) Tryz.func3 (by kernel_rfl)
  (of_decide_eq_true (by kernel_rfl)) (by unfold Func.isWrapper;first|(rw[if_pos (by decide +kernel)];kernel_rfl)|(rw[if_neg (by decide +kernel)];exact⟨rfl,rfl⟩))
  (fun os started H enc _=>locals_lifted os started H enc)
theorem locals_card:Rows.NeedLocalsCardSaid :=
 Claim7.holds_tied_plain_at .later [] [.data,.handle,.pinned] true (true,"a38cd9d01a369379cf711719124da3073049721ca09d8e7eb141ad430218dbc9") true
  locals_holds (fun _ h=>by cases h) (by kernel_rfl) (fun _ h=>by cases h) needLocals_row_tie rfl ⟨rfl,rfl⟩ (by kernel_rfl) rfl
  (fun f fn hf hfn=>by
   obtain rfl:f=3:=Option.some.inj ((show Tryz.prog.funcNamed "selkie/selkielaw09.NeedLocals" = some 3 by kernel_rfl).symm.trans hf) |>.symm
   obtain rfl:fn=Tryz.f3:=(Option.some.inj (Tryz.func3.symm.trans hfn)).symm;exact⟨by kernel_rfl,fun j t ht=>by
    rw[Tryz.params3] at ht;have hm:t∈[24]:=by simpa using Array.mem_of_getElem? ht
    have hall:([24].all fun u=>!Tryz.prog.wantsStandIn u)=true:=by kernel_rfl
    exact(show Tryz.prog.wantsStandIn t=false by simpa using List.all_eq_true.1 hall t hm)⟩)
  (by kernel_rfl)
end Go.Proofs.YtodmcdfeldkocaaGreatDoor
