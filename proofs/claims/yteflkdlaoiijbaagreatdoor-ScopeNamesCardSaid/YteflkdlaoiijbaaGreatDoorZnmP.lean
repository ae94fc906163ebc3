/- selkielaw08.ScopeNames answers true for any three numbers and leaves its arguments as they were; the listed variables start as the program's text lays them (the card ties them). -/
import Derived.Test.YteflkdlaoiijbaaGreatDoorN15
set_option maxHeartbeats 16000000
set_option maxRecDepth 20000
namespace Go.Proofs.YteflkdlaoiijbaaGreatDoor
open Go.ChangeShapes Go.WideShapes Go.ChangeAt Go.WideMaps Go.WideElems Go.RowKit Go.ChangeMaps
set_option maxRecDepth 100000 in
theorem nameslaw_lifted (os:Os) (started:os.Started) (H:Type) (enc:TypeId×Value→H) :
  ReturnsInHanded {} Tryz.checked os 7 .any (fun w args=>(Rows.scopeNamesSpec.pre enc Tryz.prog Tryz.f7 [] false w args∧laidMetH Tryz.prog xX w)∧sizedMet enc Tryz.prog Tryz.f7 (OpenSpec.ofChange Rows.scopeNamesSpec) false w args)
   (Rows.scopeNamesSpec.post enc Tryz.prog Tryz.f7 false true false false):=by
 refine handed (C:=Tryz.checked) (X:=fun w _=>laidMetH Tryz.prog xX w) (fun _ _ _ hh h=>h.of_heap hh) own started (by kernel_rfl) Tryz.func7
  (ChangeSpec.witness_shaped (enc:=enc) (C:=Tryz.checked) (os:=os) (X:=fun w _=>laidMetH Tryz.prog xX w) false (door os rX) #[.int .u8 0,.int .u8 0,.int .u8 0] 8 (UC _ _) (zn os) (by kernel_rfl) (by kernel_rfl) (by kernel_rfl) (JN os _)) ?_
 intro W base args ds gs before V8 hW hL hsh hwt;have hval :∀(j:Nat) t v,Tryz.f7.params[j]? = some t→args[j]? = some v→Value.okWide Tryz.prog W .any base t v:=V8;have VV:=hW;obtain⟨p,q,hA0,hV,rfl,hfz,dG⟩:=hW;have hA:DataW.TrodAll enc Tryz.prog W 0 (fun _=>true) true Tryz.f7.params.toList args.toList ds p:=hA0
 rw[Tryz.params7] at hA hval;obtain⟨v0,v1,v2,d0,d1,d2,p0,p1,p2,rfl,rfl,rfl,h0,h1,h2⟩:=trodAll_three hA;obtain⟨rfl,rfl⟩:=trodVars_none hV;clear hA0 V8;simp only[List.append_nil] at VV;have adV :∀x∈p0,x.block<W.heap.size:=fun x hx=>by simpa using VV.lt x (by simp[hx])
 have adW :∀x∈p1,x.block<W.heap.size:=fun x hx=>by simpa using VV.lt x (by simp[hx])
 have Rn :∀x∈p2,x.block<W.heap.size:=fun x hx=>by simpa using VV.lt x (by simp[hx])
 have g0:=h0;have adX:=adV;have g1:=h1;have adY:=adW;have g2:=h2;have adZ:=Rn;obtain⟨a,rfl,rfl,rfl,wa⟩:=open_int Tryz.underlying5 (hval 0 5 v0 rfl rfl) h0;obtain⟨b,rfl,rfl,rfl,wb⟩:=open_int Tryz.underlying5 (hval 1 5 v1 rfl rfl) h1;obtain⟨c,rfl,rfl,rfl,wc⟩:=open_int Tryz.underlying5 (hval 2 5 v2 rfl rfl) h2;refine(zm a b c W (Qf wa) (Qg wa) (Qf wb) (Qg wb) (Qf wc) (Qg wc) (adT hsh hL)).mono fun e W' ⟨he,hb⟩=>?_
 subst he;exact⟨_,rfl,_,_,_,[],_,[],VV,trodAll_mk1 (shut_bool Tryz.underlying4 _),trodAll_mk3 (Below.trod laidOut (by kernel_rfl) (of_decide_eq_true (by kernel_rfl)) g0 hb adX) (Below.trod laidOut (by kernel_rfl) (of_decide_eq_true (by kernel_rfl)) g1 hb adY) (Below.trod laidOut (by kernel_rfl) (of_decide_eq_true (by kernel_rfl)) g2 hb adZ),rfl,hb.frame _,fun h=>by cases h⟩
theorem nameslaw_holds:Rows.ScopeNamesSaid :=
 OpenClaim.holds_of_wide 7 Tryz.f7 rfl rfl rfl rfl rfl rfl rfl ⟨rfl,rfl,rfl,rfl,rfl⟩ rfl rfl rfl rfl rfl (by kernel_rfl) Tryz.func7 (by kernel_rfl)
  (of_decide_eq_true (by kernel_rfl)) (by unfold Func.isWrapper;first|(rw[if_pos (by decide +kernel)];kernel_rfl)|(rw[if_neg (by decide +kernel)];exact⟨rfl,rfl⟩))
  (fun os started H enc _=>nameslaw_lifted os started H enc)
theorem nameslaw_card:Rows.ScopeNamesCardSaid :=
 Claim7.holds_tied_plain_at .later [] [.data,.handle,.pinned] true (true,"83676b7ebf3e88acf564afd5bd34aea175f1a0c544818fb4eaa8c71941b638d1") true
  nameslaw_holds (fun _ h=>by cases h) (by kernel_rfl) (fun _ h=>by cases h) scopeNames_row_tie rfl ⟨rfl,rfl⟩ (by kernel_rfl) rfl
  (fun f fn hf hfn=>by
   obtain rfl:f=7:=Option.some.inj ((show Tryz.prog.funcNamed "selkie/selkielaw08.ScopeNames" = some 7 by kernel_rfl).symm.trans hf) |>.symm
   obtain rfl:fn=Tryz.f7:=(Option.some.inj (Tryz.func7.symm.trans hfn)).symm;exact⟨by kernel_rfl,fun j t ht=>by
    rw[Tryz.params7] at ht;have hm:t∈[5,5,5]:=by simpa using Array.mem_of_getElem? ht
    have hall:([5,5,5].all fun u=>!Tryz.prog.wantsStandIn u)=true:=by kernel_rfl
    exact(show Tryz.prog.wantsStandIn t=false by simpa using List.all_eq_true.1 hall t hm)⟩)
  (by kernel_rfl)
end Go.Proofs.YteflkdlaoiijbaaGreatDoor
