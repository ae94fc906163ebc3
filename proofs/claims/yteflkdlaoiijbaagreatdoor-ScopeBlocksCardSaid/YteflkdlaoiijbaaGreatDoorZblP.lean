/- selkielaw08.ScopeBlocks answers true for every text and leaves its arguments as they were; the listed variables start as the program's text lays them (the card ties them). -/
import Derived.Test.YteflkdlaoiijbaaGreatDoorB15
set_option maxHeartbeats 16000000
set_option maxRecDepth 20000
namespace Go.Proofs.YteflkdlaoiijbaaGreatDoor
open Go.ChangeShapes Go.WideShapes Go.ChangeAt Go.WideMaps Go.WideElems Go.RowKit Go.ChangeMaps
set_option maxRecDepth 100000 in
theorem blocks_lifted (os:Os) (started:os.Started) (H:Type) (enc:TypeId×Value→H) :
  ReturnsInHanded {} Tryz.checked os 5 .any (fun w args=>(Rows.scopeBlocksSpec.pre enc Tryz.prog Tryz.f5 [] false w args∧laidMetH Tryz.prog ym w)∧sizedMet enc Tryz.prog Tryz.f5 (OpenSpec.ofChange Rows.scopeBlocksSpec) false w args)
   (Rows.scopeBlocksSpec.post enc Tryz.prog Tryz.f5 false true false false):=by
 refine handed (C:=Tryz.checked) (X:=fun w _=>laidMetH Tryz.prog ym w) (fun _ _ _ hh h=>h.of_heap hh) own started (by kernel_rfl) Tryz.func5
  (ChangeSpec.witness_shaped (enc:=enc) (C:=Tryz.checked) (os:=os) (X:=fun w _=>laidMetH Tryz.prog ym w) false (door os su) #[.string ⟨#[]⟩] 8 (VG _ _) (zA os) (by kernel_rfl) (by kernel_rfl) (by kernel_rfl) (Ke os _)) ?_
 intro W base args ds gs before Xh hW hL hsh hwt;have hval :∀(j:Nat) t v,Tryz.f5.params[j]? = some t→args[j]? = some v→Value.okWide Tryz.prog W .any base t v:=Xh;have hW':=hW;obtain⟨p,q,hA0,hV,rfl,hfz,dN⟩:=hW;have hA:DataW.TrodAll enc Tryz.prog W 0 (fun _=>true) true Tryz.f5.params.toList args.toList ds p:=hA0
 rw[Tryz.params5] at hA hval;obtain⟨v0,d0,rfl,rfl,h0⟩:=trodAll_one hA;obtain⟨rfl,rfl⟩:=trodVars_none hV;clear hA0 Xh;simp only[List.append_nil] at hW';have aef :∀x∈p,x.block<W.heap.size:=fun x hx=>by simpa using hW'.lt x (by simp[hx])
 have g0:=h0;have aeg:=aef;obtain⟨a,rfl,rfl,rfl,wa⟩:=open_string Tryz.underlying9 (hval 0 9 v0 rfl rfl) h0;refine(Ex a W (aed hsh hL)).mono fun e W' ⟨he,hb⟩=>?_
 subst he;exact⟨_,rfl,_,_,_,[],_,[],hW',trodAll_mk1 (shut_bool Tryz.underlying4 _),trodAll_mk1 (Below.trod laidOut (by kernel_rfl) (of_decide_eq_true (by kernel_rfl)) g0 hb aeg),rfl,hb.frame _,fun h=>by cases h⟩
theorem blocks_holds:Rows.ScopeBlocksSaid :=
 OpenClaim.holds_of_wide 5 Tryz.f5 rfl rfl rfl rfl rfl rfl rfl ⟨rfl,rfl,rfl,rfl,rfl⟩ rfl rfl rfl rfl rfl (by kernel_rfl) Tryz.func5 (by kernel_rfl)
  (of_decide_eq_true (by kernel_rfl)) (by unfold Func.isWrapper;first|(rw[if_pos (by decide +kernel)];kernel_rfl)|(rw[if_neg (by decide +kernel)];exact⟨rfl,rfl⟩))
  (fun os started H enc _=>blocks_lifted os started H enc)
theorem blocks_card:Rows.ScopeBlocksCardSaid :=
 Claim7.holds_tied_plain_at .later [] [.data,.handle,.pinned] true (true,"83676b7ebf3e88acf564afd5bd34aea175f1a0c544818fb4eaa8c71941b638d1") true
  blocks_holds (fun _ h=>by cases h) (by kernel_rfl) (fun _ h=>by cases h) scopeBlocks_row_tie rfl ⟨rfl,rfl⟩ (by kernel_rfl) rfl
  (fun f fn hf hfn=>by
   obtain rfl:f=5:=Option.some.inj ((show Tryz.prog.funcNamed "selkie/selkielaw08.ScopeBlocks" = some 5 by kernel_rfl).symm.trans hf) |>.symm
   obtain rfl:fn=Tryz.f5:=(Option.some.inj (Tryz.func5.symm.trans hfn)).symm;exact⟨by kernel_rfl,fun j t ht=>by
    rw[Tryz.params5] at ht;have hm:t∈[9]:=by simpa using Array.mem_of_getElem? ht
    have hall:([9].all fun u=>!Tryz.prog.wantsStandIn u)=true:=by kernel_rfl
    exact(show Tryz.prog.wantsStandIn t=false by simpa using List.all_eq_true.1 hall t hm)⟩)
  (by kernel_rfl)
end Go.Proofs.YteflkdlaoiijbaaGreatDoor
