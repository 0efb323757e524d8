/-
  PROVED: AuditBatch answers true for every input: what grew by a batch is just its updates that were the next ones, also if each is said twice. No condition but the row's own: the three tables lie as the program's text lays them (the card ties it): the statement '..CardSaid' itself.
-/
import Derived.Test.YtdinohbahfdphaaGreatDoorMg
set_option linter.defProp false
open Go.Proofs.Tryz
set_option maxRecDepth 100000
open List renaming all_eq_true->b6
open Option.some renaming inj->bL
namespace Go.Proofs.YtdinohbahfdphaaGreatDoor
open Go.RowKit Go.IntWalk Nums
open Go.ChangeShapes Go.WideShapes Go.ChangeAt
theorem auditBatch_types:∀t∈Tryz.f6.params.toList,prog.readableRec t=true/\t<prog.types.size:=by
 have h:Tryz.f6.params.toList.all (λt=>prog.readableRec t&&decide (t<prog.types.size))=true:=by kernel_rfl
 intro t ht;have:=b6.1 h t ht;simpa using this
theorem auditBatch_lifted(os:Os)(started:os.Started)(H:Type)(enc:TypeId×Value->H) :
  ReturnsInHanded {} checked os 6 .any (λw args=>(Rows.auditBatchSpec.pre enc prog Tryz.f6 [] false w args/\laidMetH prog laid3 w)/\sizedMet enc prog Tryz.f6 (OpenSpec.ofChange Rows.auditBatchSpec) false w args)
   (Rows.auditBatchSpec.post enc prog Tryz.f6 false true false false):=by
 refine returnsInHanded_of_change_and (C:=checked) (X:=λw _=>laidMetH prog laid3 w) (λ_ _ _ hh h=>h.of_heap hh) own started (by kernel_rfl) func6
  (ChangeSpec.witness_shaped (enc:=enc) (C:=checked) (os:=os) (X:=λw _=>laidMetH prog laid3 w) false (World.doorLaid prog 400 os) #[.slice none 0 0] 8 rfl (World.shaped_of_RefB (by kernel_rfl) (by kernel_rfl)) (by kernel_rfl) (by kernel_rfl) (by kernel_rfl) (door_met os _)) ?_
 intro W base args ds gs before hval0 hW _ hsz hL _
 have hval:∀(j:Nat) t v,Tryz.f6.params[j]?=some t->args[j]?=some v->Value.okWide prog W .any base t v:=hval0;have hW':DataW.Whole enc prog Tryz.f6.params.toList Rows.auditBatchSpec.vars false W args.toList ds gs before:=hW;obtain⟨p,q,hA0,hV,rfl,hfz,hnd⟩:=hW;have hA:DataW.TrodAll enc prog W 0 (λ_=>true) true Tryz.f6.params.toList args.toList ds p:=hA0;rw [Tryz.params6] at hA hval;obtain⟨v0,d0,rfl,rfl,h0⟩:=trodAll_one hA;obtain⟨rfl,rfl⟩:=trodVars_none hV;obtain⟨f0,hf0⟩:=h0;obtain⟨A,os,c,e0,hs0⟩:=open_rd (fe:=eI) (k:=1) underlying75 (by kernel_rfl) (by decide) int_cellsT hf0;obtain⟨ba0,bl0,bc0,rfl⟩:=okWide_slice underlying75 (hval 0 75 v0 rfl rfl)
 injection e0 with e0
 injection e0 with xa0 xb0 xc0
 subst xa0;subst xb0;subst xc0;clear hA0 hval0;refine(spec_law (batch13_S os) ⟨of_laid hL,hs0⟩).mono λe W' ⟨he,hb⟩=>?_;exact⟨_,he,law_post (by kernel_rfl) rfl auditBatch_types hW' rfl hb⟩
theorem auditBatch_holds:Rows.AuditBatchSaid :=
 OpenClaim.holds_of_wide 6 Tryz.f6 rfl rfl rfl rfl rfl rfl rfl ⟨rfl,rfl,rfl,rfl,rfl⟩ rfl rfl rfl rfl rfl (by kernel_rfl) func6 (by kernel_rfl)
  (of_decide_eq_true (by kernel_rfl)) (by unfold Func.isWrapper;first|(rw [if_pos (by decide +kernel)];kernel_rfl)|(rw [if_neg (by decide +kernel)];exact⟨rfl,rfl⟩))
  (λos started H enc _=>auditBatch_lifted os started H enc)
theorem auditBatch_card_holds:Rows.AuditBatchCardSaid :=
 Claim7.holds_tied_plain_at .later [] [.data,.data,.data] true Rows.auditBatchCard.stood.harness true
  auditBatch_holds (λ_ h=>by cases h) (by kernel_rfl) (λ_ h=>by cases h) auditBatch_row_tie rfl ⟨rfl,rfl⟩ (by kernel_rfl) rfl
  (λf fn hf hfn=>by
   obtain rfl:f = 6:=bL ((show prog.funcNamed "witan/witanlaw13.AuditBatch" = some 6 by kernel_rfl).symm.trans hf) |>.symm;obtain rfl:fn=Tryz.f6:=(bL (func6.symm.trans hfn)).symm;exact⟨by kernel_rfl,λj t ht=>by
    have hm:=Array.mem_of_getElem? ht;have hall:(Tryz.f6.params.toList.all λu=>!prog.wantsStandIn u)=true:=by kernel_rfl
    have h2:=b6.1 hall t (Array.mem_toList_iff.2 hm);show prog.wantsStandIn t=false;simpa using h2⟩)
  (by kernel_rfl)
#print axioms auditBatch_card_holds
end Go.Proofs.YtdinohbahfdphaaGreatDoor
