/-
  PROVED: DirOrder answers true for every input: updates of different owners may come in any order in a batch, and in one batch or more: the root is the same. No condition but the row's own: the three tables lie as the program's text lays them (the card ties it): the statement '..CardSaid' itself.
-/
import Derived.Test.YtlhlkofpjhpaoaaGreatDoorMp
set_option maxRecDepth 100000
open List renaming all_eq_true->bS
open Option.some renaming inj->cP
namespace Go.Proofs.YtlhlkofpjhpaoaaGreatDoor
open Go.RowKit Go.IntWalk Nums
open Go.ChangeShapes Go.WideShapes Go.ChangeAt
theorem dirOrder_types:∀t∈Tryz.f6.params.toList,Tryz.prog.readableRec t=true/\t<Tryz.prog.types.size:=by
 have h:Tryz.f6.params.toList.all (λt=>Tryz.prog.readableRec t&&decide (t<Tryz.prog.types.size))=true:=by kernel_rfl
 intro t ht
 have:=bS.1 h t ht
 simpa using this
theorem dirOrder_lifted(os:Os)(started:os.Started)(H:Type)(enc:TypeId×Value->H) :
  ReturnsInHanded {} Tryz.checked os 6 .any (λw args=>(Rows.dirOrderSpec.pre enc Tryz.prog Tryz.f6 [] false w args/\laidMetH Tryz.prog laid3 w)/\sizedMet enc Tryz.prog Tryz.f6 (OpenSpec.ofChange Rows.dirOrderSpec) false w args)
   (Rows.dirOrderSpec.post enc Tryz.prog Tryz.f6 false true false false):=by
 refine returnsInHanded_of_change_and (C:=Tryz.checked) (X:=λw _=>laidMetH Tryz.prog laid3 w) (λ_ _ _ hh h=>h.of_heap hh) own started (by kernel_rfl) Tryz.func6
  (ChangeSpec.witness_shaped (enc:=enc) (C:=Tryz.checked) (os:=os) (X:=λw _=>laidMetH Tryz.prog laid3 w) false (World.doorLaid Tryz.prog 400 os) #[.slice none 0 0,.int .i64 0] 8 rfl (World.shaped_of_RefB (by kernel_rfl) (by kernel_rfl)) (by kernel_rfl) (by kernel_rfl) (by kernel_rfl) (door_met os _)) ?_
 intro W base args ds gs before hval0 hW _ hsz hL _
 have hval:∀(j:Nat) t v,Tryz.f6.params[j]?=some t->args[j]?=some v->Value.okWide Tryz.prog W .any base t v:=hval0;have hW':DataW.Whole enc Tryz.prog Tryz.f6.params.toList Rows.dirOrderSpec.vars false W args.toList ds gs before:=hW;obtain⟨p,q,hA0,hV,rfl,hfz,hnd⟩:=hW;have hA:DataW.TrodAll enc Tryz.prog W 0 (λ_=>true) true Tryz.f6.params.toList args.toList ds p:=hA0;rw [Tryz.params6] at hA hval;obtain⟨v0,v1,d0,d1,p0,p1,rfl,rfl,rfl,h0,h1⟩:=trodAll_two hA;obtain⟨rfl,rfl⟩:=trodVars_none hV;obtain⟨f0,hf0⟩:=h0;obtain⟨A,os,c,e0,hs0⟩:=open_rd (fe:=eI) (k:=1) Tryz.underlying71 (by kernel_rfl) (by decide) int_cellsT hf0;obtain⟨ba0,bl0,bc0,rfl⟩:=okWide_slice Tryz.underlying71 (hval 0 71 v0 rfl rfl)
 injection e0 with e0
 injection e0 with xa0 xb0 xc0
 subst xa0;subst xb0;subst xc0;obtain⟨cut,rfl,rfl,rfl,_⟩:=open_int Tryz.underlying3 (hval 1 3 v1 rfl rfl) h1;clear hA0 hval0;refine(spec_law (order12_S os cut) ⟨of_laid hL,hs0⟩).mono λe W' ⟨he,hb⟩=>?_;exact⟨_,he,law_post (by kernel_rfl) rfl dirOrder_types hW' rfl hb⟩
theorem dirOrder_holds:Rows.DirOrderSaid :=
 OpenClaim.holds_of_wide 6 Tryz.f6 rfl rfl rfl rfl rfl rfl rfl ⟨rfl,rfl,rfl,rfl,rfl⟩ rfl rfl rfl rfl rfl (by kernel_rfl) Tryz.func6 (by kernel_rfl)
  (of_decide_eq_true (by kernel_rfl)) (by unfold Func.isWrapper;first|(rw [if_pos (by decide +kernel)];kernel_rfl)|(rw [if_neg (by decide +kernel)];exact⟨rfl,rfl⟩))
  (λos started H enc _=>dirOrder_lifted os started H enc)
theorem dirOrder_card_holds:Rows.DirOrderCardSaid :=
 Claim7.holds_tied_plain_at .later [] [.data,.data,.data] true Rows.dirOrderCard.stood.harness true
  dirOrder_holds (λ_ h=>by cases h) (by kernel_rfl) (λ_ h=>by cases h) dirOrder_row_tie rfl ⟨rfl,rfl⟩ (by kernel_rfl) rfl
  (λf fn hf hfn=>by
   obtain rfl:f = 6:=cP ((show Tryz.prog.funcNamed "witan/witanlaw12.DirOrder" = some 6 by kernel_rfl).symm.trans hf) |>.symm;obtain rfl:fn=Tryz.f6:=(cP (Tryz.func6.symm.trans hfn)).symm
   exact⟨by kernel_rfl,λj t ht=>by
    have hm:=Array.mem_of_getElem? ht
    have hall:(Tryz.f6.params.toList.all λu=>!Tryz.prog.wantsStandIn u)=true:=by kernel_rfl
    have h2:=bS.1 hall t (Array.mem_toList_iff.2 hm)
    show Tryz.prog.wantsStandIn t=false
    simpa using h2⟩)
  (by kernel_rfl)
#print axioms dirOrder_card_holds
end Go.Proofs.YtlhlkofpjhpaoaaGreatDoor
