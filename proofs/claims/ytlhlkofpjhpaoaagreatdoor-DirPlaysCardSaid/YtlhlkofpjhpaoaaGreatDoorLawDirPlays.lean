/-
  PROVED: DirPlays answers true for every input: what directories are behind every batch, each keeping its own, whatever updates come. No condition but the row's own: the three tables lie as the program's text lays them (the card ties it): the statement '..CardSaid' itself.
-/
import Derived.Test.YtlhlkofpjhpaoaaGreatDoorMr
import Derived.Test.YtlhlkofpjhpaoaaGreatDoorMs
set_option maxRecDepth 100000
open List renaming all_eq_true->cA
open Option.some renaming inj->cR
namespace Go.Proofs.YtlhlkofpjhpaoaaGreatDoor
open Go.RowKit Go.IntWalk Nums
open Go.ChangeShapes Go.WideShapes Go.ChangeAt
theorem dirPlays_types:∀t∈Tryz.f3.params.toList,Tryz.prog.readableRec t=true/\t<Tryz.prog.types.size:=by
 have h:Tryz.f3.params.toList.all (λt=>Tryz.prog.readableRec t&&decide (t<Tryz.prog.types.size))=true:=by kernel_rfl
 intro t ht
 have:=cA.1 h t ht
 simpa using this
theorem dirPlays_lifted(os:Os)(started:os.Started)(H:Type)(enc:TypeId×Value->H) :
  ReturnsInHanded {} Tryz.checked os 3 .any (λw args=>(Rows.dirPlaysSpec.pre enc Tryz.prog Tryz.f3 [] false w args/\laidMetH Tryz.prog laid3 w)/\sizedMet enc Tryz.prog Tryz.f3 (OpenSpec.ofChange Rows.dirPlaysSpec) false w args)
   (Rows.dirPlaysSpec.post enc Tryz.prog Tryz.f3 false true false false):=by
 refine returnsInHanded_of_change_and (C:=Tryz.checked) (X:=λw _=>laidMetH Tryz.prog laid3 w) (λ_ _ _ hh h=>h.of_heap hh) own started (by kernel_rfl) Tryz.func3
  (ChangeSpec.witness_shaped (enc:=enc) (C:=Tryz.checked) (os:=os) (X:=λw _=>laidMetH Tryz.prog laid3 w) false (World.doorLaid Tryz.prog 400 os) #[.slice none 0 0] 8 rfl (World.shaped_of_RefB (by kernel_rfl) (by kernel_rfl)) (by kernel_rfl) (by kernel_rfl) (by kernel_rfl) (door_met os _)) ?_
 intro W base args ds gs before hval0 hW _ hsz hL _
 have hval:∀(j:Nat) t v,Tryz.f3.params[j]?=some t->args[j]?=some v->Value.okWide Tryz.prog W .any base t v:=hval0;have hW':DataW.Whole enc Tryz.prog Tryz.f3.params.toList Rows.dirPlaysSpec.vars false W args.toList ds gs before:=hW;obtain⟨p,q,hA0,hV,rfl,hfz,hnd⟩:=hW;have hA:DataW.TrodAll enc Tryz.prog W 0 (λ_=>true) true Tryz.f3.params.toList args.toList ds p:=hA0;rw [Tryz.params3] at hA hval;obtain⟨v0,d0,rfl,rfl,h0⟩:=trodAll_one hA;obtain⟨rfl,rfl⟩:=trodVars_none hV;obtain⟨f0,hf0⟩:=h0;obtain⟨A,l,c,e0,hs0⟩:=open_rd (fe:=eAc) (k:=5) Tryz.underlying22 (by kernel_rfl) (by decide) act_cells hf0;obtain⟨ba0,bl0,bc0,rfl⟩:=okWide_slice Tryz.underlying22 (hval 0 22 v0 rfl rfl)
 injection e0 with e0
 injection e0 with xa0 xb0 xc0
 subst xa0;subst xb0;subst xc0;clear hA0 hval0;refine(spec_law (plays12_S l) ⟨of_laid hL,hs0⟩).mono λe W' ⟨he,hb⟩=>?_;exact⟨_,he,law_post (by kernel_rfl) rfl dirPlays_types hW' rfl hb⟩
theorem dirPlays_holds:Rows.DirPlaysSaid :=
 OpenClaim.holds_of_wide 3 Tryz.f3 rfl rfl rfl rfl rfl rfl rfl ⟨rfl,rfl,rfl,rfl,rfl⟩ rfl rfl rfl rfl rfl (by kernel_rfl) Tryz.func3 (by kernel_rfl)
  (of_decide_eq_true (by kernel_rfl)) (by unfold Func.isWrapper;first|(rw [if_pos (by decide +kernel)];kernel_rfl)|(rw [if_neg (by decide +kernel)];exact⟨rfl,rfl⟩))
  (λos started H enc _=>dirPlays_lifted os started H enc)
theorem dirPlays_card_holds:Rows.DirPlaysCardSaid :=
 Claim7.holds_tied_plain_at .later [] [.data,.data,.data] true Rows.dirPlaysCard.stood.harness true
  dirPlays_holds (λ_ h=>by cases h) (by kernel_rfl) (λ_ h=>by cases h) dirPlays_row_tie rfl ⟨rfl,rfl⟩ (by kernel_rfl) rfl
  (λf fn hf hfn=>by
   obtain rfl:f = 3:=cR ((show Tryz.prog.funcNamed "witan/witanlaw12.DirPlays" = some 3 by kernel_rfl).symm.trans hf) |>.symm;obtain rfl:fn=Tryz.f3:=(cR (Tryz.func3.symm.trans hfn)).symm
   exact⟨by kernel_rfl,λj t ht=>by
    have hm:=Array.mem_of_getElem? ht
    have hall:(Tryz.f3.params.toList.all λu=>!Tryz.prog.wantsStandIn u)=true:=by kernel_rfl
    have h2:=cA.1 hall t (Array.mem_toList_iff.2 hm)
    show Tryz.prog.wantsStandIn t=false
    simpa using h2⟩)
  (by kernel_rfl)
#print axioms dirPlays_card_holds
end Go.Proofs.YtlhlkofpjhpaoaaGreatDoor
