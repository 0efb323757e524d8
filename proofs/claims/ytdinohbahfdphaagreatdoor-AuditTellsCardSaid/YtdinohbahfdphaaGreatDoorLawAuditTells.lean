/-
  PROVED: AuditTells answers true for every input: a step tells just how one directory and the next one differ. No condition but the row's own: the three tables lie as the program's text lays them (the card ties it): the statement '..CardSaid' itself.
-/
import Derived.Test.YtdinohbahfdphaaGreatDoorMh
open Go.Proofs.Tryz
set_option maxRecDepth 100000
open List renaming all_eq_true->b7
open Option.some renaming inj->bQ
namespace Go.Proofs.YtdinohbahfdphaaGreatDoor
open Go.Proofs.Q
open Go.RowKit Go.IntWalk Nums
open Go.ChangeShapes Go.WideShapes Go.ChangeAt
theorem auditTells_types:∀t∈Tryz.f5.params.toList,prog.readableRec t=true/\t<prog.types.size:=by
 have h:Tryz.f5.params.toList.all (λt=>prog.readableRec t&&decide (t<prog.types.size))=true:=by kernel_rfl
 intro t ht;have:=b7.1 h t ht;simpa using this
theorem auditTells_lifted(os:Os)(started:os.Started)(H:Type)(enc:TypeId×Value->H) :
  ReturnsInHanded {} checked os 5 .any (λw args=>(Rows.auditTellsSpec.pre enc prog Tryz.f5 [] false w args/\laidMetH prog laid3 w)/\sizedMet enc prog Tryz.f5 (OpenSpec.ofChange Rows.auditTellsSpec) false w args)
   (Rows.auditTellsSpec.post enc prog Tryz.f5 false true false false):=by
 refine returnsInHanded_of_change_and (C:=checked) (X:=λw _=>laidMetH prog laid3 w) (λ_ _ _ hh h=>h.of_heap hh) own started (by kernel_rfl) func5
  (ChangeSpec.witness_shaped (enc:=enc) (C:=checked) (os:=os) (X:=λw _=>laidMetH prog laid3 w) false (World.doorLaid prog 400 os) #[.slice none 0 0,.slice none 0 0] 8 rfl (World.shaped_of_RefB (by kernel_rfl) (by kernel_rfl)) (by kernel_rfl) (by kernel_rfl) (by kernel_rfl) (door_met os _)) ?_
 intro W base args ds gs before hval0 hW _ hsz hL _
 have hval:∀(j:Nat) t v,Tryz.f5.params[j]?=some t->args[j]?=some v->Value.okWide prog W .any base t v:=hval0;have hW':DataW.Whole enc prog Tryz.f5.params.toList Rows.auditTellsSpec.vars false W args.toList ds gs before:=hW;obtain⟨p,q,hA0,hV,rfl,hfz,hnd⟩:=hW;have hA:DataW.TrodAll enc prog W 0 (λ_=>true) true Tryz.f5.params.toList args.toList ds p:=hA0;rw [Tryz.params5] at hA hval;obtain⟨v0,v1,d0,d1,p0,p1,rfl,rfl,rfl,h0,h1⟩:=trodAll_two hA;obtain⟨rfl,rfl⟩:=trodVars_none hV;obtain⟨f0,hf0⟩:=h0;obtain⟨A,l,c,e0,hs0⟩:=open_rd (fe:=eAc) (k:=5) underlying22 (by kernel_rfl) (by decide) act_cells hf0;obtain⟨ba0,bl0,bc0,rfl⟩:=okWide_slice underlying22 (hval 0 22 v0 rfl rfl)
 injection e0 with e0
 injection e0 with xa0 xb0 xc0
 subst xa0;subst xb0;subst xc0;obtain⟨f1,hf1⟩:=h1;obtain⟨A2,l2,c2,e1,hs2⟩:=open_rd (fe:=eAc) (k:=5) underlying22 (by kernel_rfl) (by decide) act_cells hf1;obtain⟨ba1,bl1,bc1,rfl⟩:=okWide_slice underlying22 (hval 1 22 v1 rfl rfl)
 injection e1 with e1
 injection e1 with xa1 xb1 xc1
 subst xa1;subst xb1;subst xc1;clear hA0 hval0;refine(spec_law (tells13_S l l2) ⟨of_laid hL,hs0,hs2⟩).mono λe W' ⟨he,hb⟩=>?_;exact⟨_,he,law_post (by kernel_rfl) rfl auditTells_types hW' rfl hb⟩
theorem auditTells_holds:Rows.AuditTellsSaid :=
 OpenClaim.holds_of_wide 5 Tryz.f5 rfl rfl rfl rfl rfl rfl rfl ⟨rfl,rfl,rfl,rfl,rfl⟩ rfl rfl rfl rfl rfl (by kernel_rfl) func5 (by kernel_rfl)
  (of_decide_eq_true (by kernel_rfl)) (by unfold Func.isWrapper;first|(rw [if_pos (by decide +kernel)];kernel_rfl)|(rw [if_neg (by decide +kernel)];exact⟨rfl,rfl⟩))
  (λos started H enc _=>auditTells_lifted os started H enc)
theorem auditTells_card_holds:Rows.AuditTellsCardSaid :=
 Claim7.holds_tied_plain_at .later [] [.data,.data,.data] true Rows.auditTellsCard.stood.harness true
  auditTells_holds (λ_ h=>by cases h) (by kernel_rfl) (λ_ h=>by cases h) auditTells_row_tie rfl ⟨rfl,rfl⟩ (by kernel_rfl) rfl
  (λf fn hf hfn=>by
   obtain rfl:f = 5:=bQ ((show prog.funcNamed "witan/witanlaw13.AuditTells" = some 5 by kernel_rfl).symm.trans hf) |>.symm;obtain rfl:fn=Tryz.f5:=(bQ (func5.symm.trans hfn)).symm;exact⟨by kernel_rfl,λj t ht=>by
    have hm:=Array.mem_of_getElem? ht;have hall:(Tryz.f5.params.toList.all λu=>!prog.wantsStandIn u)=true:=by kernel_rfl
    have h2:=b7.1 hall t (Array.mem_toList_iff.2 hm);show prog.wantsStandIn t=false;simpa using h2⟩)
  (by kernel_rfl)
#print axioms auditTells_card_holds
end Go.Proofs.YtdinohbahfdphaaGreatDoor
