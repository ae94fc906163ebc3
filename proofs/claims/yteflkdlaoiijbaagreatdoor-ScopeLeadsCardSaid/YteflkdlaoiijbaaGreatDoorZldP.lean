/- selkielaw08.ScopeLeads answers true for every tree and leaves its arguments as they were; the listed variables start as the program's text lays them (the card ties them). -/
import Derived.Test.YteflkdlaoiijbaaGreatDoorK15
set_option maxHeartbeats 16000000
set_option maxRecDepth 20000
namespace Go.Proofs.YteflkdlaoiijbaaGreatDoor
open Go.ChangeShapes Go.WideShapes Go.ChangeAt Go.WideMaps Go.WideElems Go.RowKit Go.ChangeMaps
set_option maxRecDepth 100000 in
theorem leads_lifted (os:Os) (started:os.Started) (H:Type) (enc:TypeId×Value→H) :
  ReturnsInHanded {} Tryz.checked os 4 .any (fun w args=>(Rows.scopeLeadsSpec.pre enc Tryz.prog Tryz.f4 [] false w args∧laidMetH Tryz.prog xW w)∧sizedMet enc Tryz.prog Tryz.f4 (OpenSpec.ofChange Rows.scopeLeadsSpec) false w args)
   (Rows.scopeLeadsSpec.post enc Tryz.prog Tryz.f4 false true false false):=by
 refine handed (C:=Tryz.checked) (X:=fun w _=>laidMetH Tryz.prog xW w) (fun _ _ _ hh h=>h.of_heap hh) own started (by kernel_rfl) Tryz.func4
  (ChangeSpec.witness_shaped (enc:=enc) (C:=Tryz.checked) (os:=os) (X:=fun w _=>laidMetH Tryz.prog xW w) false (door os se) #[.agg #[.slice Option.none 0 0,.int .i64 0]] 8 (Ub _ _) (zm os) (by kernel_rfl) (by kernel_rfl) (by kernel_rfl) (Jz os _)) ?_
 intro W base args ds gs before VD hW hL hsh hwt;have hval :∀(j:Nat) t v,Tryz.f4.params[j]? = some t→args[j]? = some v→Value.okWide Tryz.prog W .any base t v:=VD;have ZJ:=hW;obtain⟨p,q,hA0,hV,rfl,hfz,cL⟩:=hW;have hA:DataW.TrodAll enc Tryz.prog W 0 (fun _=>true) true Tryz.f4.params.toList args.toList ds p:=hA0
 rw[Tryz.params4] at hA hval;obtain⟨v0,d0,rfl,rfl,h0⟩:=trodAll_one hA;obtain⟨rfl,rfl⟩:=trodVars_none hV;clear hA0 VD;simp only[List.append_nil] at ZJ;have abN :∀x∈p,x.block<W.heap.size:=fun x hx=>by simpa using ZJ.lt x (by simp[hx])
 have g0:=h0;have adA:=abN;obtain⟨nva,Ta,ra,rfl,tra,_,_,wxa⟩:=open_tree (hval 0 25 v0 rfl rfl) h0 abN;have rda:RdR Ta:=abM (by rw[show Tryz.checked.prog=Tryz.prog from rfl,Tryz.params4];rfl) rfl wxa hwt
 refine(Jw _ Ta ra W ⟨_,rfl,tra.nodes⟩ rda (ady hsh hL)).mono fun e W' ⟨he,hb⟩=>?_
 subst he;exact⟨_,rfl,_,_,_,[],_,[],ZJ,trodAll_mk1 (shut_bool Tryz.underlying4 _),trodAll_mk1 (Below.trod laidOut (by kernel_rfl) (of_decide_eq_true (by kernel_rfl)) g0 hb adA),rfl,hb.frame _,fun h=>by cases h⟩
theorem leads_holds:Rows.ScopeLeadsSaid :=
 OpenClaim.holds_of_wide 4 Tryz.f4 rfl rfl rfl rfl rfl rfl rfl ⟨rfl,rfl,rfl,rfl,rfl⟩ rfl rfl rfl rfl rfl (by kernel_rfl) Tryz.func4 (by kernel_rfl)
  (of_decide_eq_true (by kernel_rfl)) (by unfold Func.isWrapper;first|(rw[if_pos (by decide +kernel)];kernel_rfl)|(rw[if_neg (by decide +kernel)];exact⟨rfl,rfl⟩))
  (fun os started H enc _=>leads_lifted os started H enc)
theorem leads_card:Rows.ScopeLeadsCardSaid :=
 Claim7.holds_tied_plain_at .later [] [.data,.handle,.pinned] true (true,"83676b7ebf3e88acf564afd5bd34aea175f1a0c544818fb4eaa8c71941b638d1") true
  leads_holds (fun _ h=>by cases h) (by kernel_rfl) (fun _ h=>by cases h) scopeLeads_row_tie rfl ⟨rfl,rfl⟩ (by kernel_rfl) rfl
  (fun f fn hf hfn=>by
   obtain rfl:f=4:=Option.some.inj ((show Tryz.prog.funcNamed "selkie/selkielaw08.ScopeLeads" = some 4 by kernel_rfl).symm.trans hf) |>.symm
   obtain rfl:fn=Tryz.f4:=(Option.some.inj (Tryz.func4.symm.trans hfn)).symm;exact⟨by kernel_rfl,fun j t ht=>by
    rw[Tryz.params4] at ht;have hm:t∈[25]:=by simpa using Array.mem_of_getElem? ht
    have hall:([25].all fun u=>!Tryz.prog.wantsStandIn u)=true:=by kernel_rfl
    exact(show Tryz.prog.wantsStandIn t=false by simpa using List.all_eq_true.1 hall t hm)⟩)
  (by kernel_rfl)
end Go.Proofs.YteflkdlaoiijbaaGreatDoor
