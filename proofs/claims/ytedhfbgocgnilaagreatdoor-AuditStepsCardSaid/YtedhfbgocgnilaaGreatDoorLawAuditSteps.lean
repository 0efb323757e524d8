/-
  PROVED: AuditSteps answers true for every input: steps, byte by byte, lead from each directory's root to the next one's, and chains of them do. No condition but the row's own: the three tables lie as the program's text lays them (the card ties it): the statement '..CardSaid' itself.
-/
import Derived.Test.YtedhfbgocgnilaaGreatDoorMh
open Go.Proofs.Tryz
set_option maxRecDepth 100000
namespace Go.Proofs.YtedhfbgocgnilaaGreatDoor
open Go.Proofs.Q
open Go.RowKit Go.IntWalk Nums
open Go.ChangeShapes Go.WideShapes Go.ChangeAt
theorem akZ:∀t∈Tryz.f3.params.toList,prog.readableRec t=true/\t<prog.types.size:=by
 have h:Tryz.f3.params.toList.all (λt=>prog.readableRec t&&decide (t<prog.types.size))=true:=by kernel_rfl
 intro t ht;have:=List.all_eq_true.1 h t ht;simpa using this
theorem akY(os:Os)(started:os.Started)(H:Type)(fp:TypeId×Value->H) :
  ReturnsInHanded {} checked os 3 .any (λw args=>(Rows.auditStepsSpec.pre fp prog Tryz.f3 [] false w args/\laidMetH prog Lh w)/\sizedMet fp prog Tryz.f3 (OpenSpec.ofChange Rows.auditStepsSpec) false w args)
   (Rows.auditStepsSpec.post fp prog Tryz.f3 false true false false):=by
 refine returnsInHanded_of_change_and (C:=checked) (X:=λw _=>laidMetH prog Lh w) (λ_ _ _ hh h=>h.of_heap hh) own started (by kernel_rfl) func3
  (ChangeSpec.witness_shaped (enc:=fp) (C:=checked) (os:=os) (X:=λw _=>laidMetH prog Lh w) false (World.doorLaid prog 400 os) #[.slice none 0 0] 8 rfl (World.shaped_of_RefB (by kernel_rfl) (by kernel_rfl)) (by kernel_rfl) (by kernel_rfl) (by kernel_rfl) (an8 os _)) ?_
 intro W base args ds gs before aaC hW _ gT hL _
 have Ax:∀(j:Nat) t v,Tryz.f3.params[j]?=some t->args[j]?=some v->Value.okWide prog W .any base t v:=aaC;have hW':DataW.Whole fp prog Tryz.f3.params.toList Rows.auditStepsSpec.vars false W args.toList ds gs before:=hW;obtain⟨p,q,Y5,hV,rfl,hfz,xQ⟩:=hW;have hA:DataW.TrodAll fp prog W 0 (λ_=>true) true Tryz.f3.params.toList args.toList ds p:=Y5;rw [Tryz.params3] at hA Ax;obtain⟨v0,d0,rfl,rfl,h0⟩:=trodAll_one hA;obtain⟨rfl,rfl⟩:=trodVars_none hV;obtain⟨f0,Tl⟩:=h0;obtain⟨A,l,c,e0,xT⟩:=avL (fe:=Aa) (k:=5) underlying22 (by kernel_rfl) (by decide) akH Tl;obtain⟨ba0,bl0,bc0,rfl⟩:=okWide_slice underlying22 (Ax 0 22 v0 rfl rfl)
 injection e0 with e0
 injection e0 with xa0 xb0 xc0
 subst xa0;subst xb0;subst xc0;clear Y5 aaC;refine(aBU (aC5 l) ⟨avB hL,xT⟩).mono λe W' ⟨he,hb⟩=>?_;exact⟨_,he,atI (by kernel_rfl) rfl akZ hW' rfl hb⟩
theorem auditSteps_holds:Rows.AuditStepsSaid :=
 OpenClaim.holds_of_wide 3 Tryz.f3 rfl rfl rfl rfl rfl rfl rfl ⟨rfl,rfl,rfl,rfl,rfl⟩ rfl rfl rfl rfl rfl (by kernel_rfl) func3 (by kernel_rfl)
  (of_decide_eq_true (by kernel_rfl)) (by unfold Func.isWrapper;first|(rw [if_pos (by decide +kernel)];kernel_rfl)|(rw [if_neg (by decide +kernel)];exact⟨rfl,rfl⟩))
  (λos started H fp _=>akY os started H fp)
theorem auditSteps_card_holds:Rows.AuditStepsCardSaid :=
 Claim7.holds_tied_plain_at .later [] [.data,.data,.data] true Rows.auditStepsCard.stood.harness true
  auditSteps_holds (λ_ h=>by cases h) (by kernel_rfl) (λ_ h=>by cases h) auditSteps_row_tie rfl ⟨rfl,rfl⟩ (by kernel_rfl) rfl
  (λf fn hf hfn=>by
   obtain rfl:f = 3:=Option.some.inj ((show prog.funcNamed "witan/witanlaw13.AuditSteps" = some 3 by kernel_rfl).symm.trans hf) |>.symm;obtain rfl:fn=Tryz.f3:=(Option.some.inj (func3.symm.trans hfn)).symm;exact⟨by kernel_rfl,λj t ht=>by
    have hm:=Array.mem_of_getElem? ht;have iP:(Tryz.f3.params.toList.all λu=>!prog.wantsStandIn u)=true:=by kernel_rfl
    have h2:=List.all_eq_true.1 iP t (Array.mem_toList_iff.2 hm);show prog.wantsStandIn t=false;simpa using h2⟩)
  (by kernel_rfl)
#print axioms auditSteps_card_holds
end Go.Proofs.YtedhfbgocgnilaaGreatDoor
