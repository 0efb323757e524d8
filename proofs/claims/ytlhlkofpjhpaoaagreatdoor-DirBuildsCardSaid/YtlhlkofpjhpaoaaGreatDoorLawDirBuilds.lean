/-
  PROVED: DirBuilds answers true for every input: a directory built of its histories is the directory, and which can't be built. No condition but the row's own: the three tables lie as the program's text lays them (the card ties it): the statement '..CardSaid' itself.
-/
import Derived.Test.YtlhlkofpjhpaoaaGreatDoorQq
set_option maxRecDepth 100000
open List renaming all_eq_true->bT
open Option.some renaming inj->bG
namespace Go.Proofs.YtlhlkofpjhpaoaaGreatDoor
open Go.RowKit Go.IntWalk Nums
open Go.ChangeShapes Go.WideShapes Go.ChangeAt
theorem dirBuilds_types:∀t∈Tryz.f5.params.toList,Tryz.prog.readableRec t=true/\t<Tryz.prog.types.size:=by
 have h:Tryz.f5.params.toList.all (λt=>Tryz.prog.readableRec t&&decide (t<Tryz.prog.types.size))=true:=by kernel_rfl
 intro t ht
 have:=bT.1 h t ht
 simpa using this
theorem dirBuilds_lifted(os:Os)(started:os.Started)(H:Type)(enc:TypeId×Value->H) :
  ReturnsInHanded {} Tryz.checked os 5 .any (λw args=>(Rows.dirBuildsSpec.pre enc Tryz.prog Tryz.f5 [] false w args/\laidMetH Tryz.prog laid3 w)/\sizedMet enc Tryz.prog Tryz.f5 (OpenSpec.ofChange Rows.dirBuildsSpec) false w args)
   (Rows.dirBuildsSpec.post enc Tryz.prog Tryz.f5 false true false false):=by
 refine returnsInHanded_of_change_and (C:=Tryz.checked) (X:=λw _=>laidMetH Tryz.prog laid3 w) (λ_ _ _ hh h=>h.of_heap hh) own started (by kernel_rfl) Tryz.func5
  (ChangeSpec.witness_shaped (enc:=enc) (C:=Tryz.checked) (os:=os) (X:=λw _=>laidMetH Tryz.prog laid3 w) false (World.doorLaid Tryz.prog 400 os) #[.slice none 0 0,.int .i64 0,.slice none 0 0] 8 rfl (World.shaped_of_RefB (by kernel_rfl) (by kernel_rfl)) (by kernel_rfl) (by kernel_rfl) (by kernel_rfl) (door_met os _)) ?_
 intro W base args ds gs before hval0 hW _ hsz hL _
 have hval:∀(j:Nat) t v,Tryz.f5.params[j]?=some t->args[j]?=some v->Value.okWide Tryz.prog W .any base t v:=hval0;have hW':DataW.Whole enc Tryz.prog Tryz.f5.params.toList Rows.dirBuildsSpec.vars false W args.toList ds gs before:=hW;obtain⟨p,q,hA0,hV,rfl,hfz,hnd⟩:=hW;have hA:DataW.TrodAll enc Tryz.prog W 0 (λ_=>true) true Tryz.f5.params.toList args.toList ds p:=hA0;rw [Tryz.params5] at hA hval;obtain⟨v0,v1,v2,d0,d1,d2,p0,p1,p2,rfl,rfl,rfl,h0,h1,h2⟩:=trodAll_three hA;obtain⟨rfl,rfl⟩:=trodVars_none hV;obtain⟨f0,hf0⟩:=h0;obtain⟨A,l,c,e0,hs0⟩:=open_rd (fe:=eAc) (k:=5) Tryz.underlying22 (by kernel_rfl) (by decide) act_cells hf0;obtain⟨ba0,bl0,bc0,rfl⟩:=okWide_slice Tryz.underlying22 (hval 0 22 v0 rfl rfl)
 injection e0 with e0
 injection e0 with xa0 xb0 xc0
 subst xa0;subst xb0;subst xc0;obtain⟨ep,rfl,rfl,rfl,_⟩:=open_int Tryz.underlying3 (hval 1 3 v1 rfl rfl) h1;obtain⟨f2,hf2⟩:=h2;obtain⟨A2,ks,c2,e2,hs2⟩:=open_rd (fe:=eY 32) (k:=32) Tryz.underlying43 (by kernel_rfl) (by decide) hash_cellsT hf2;obtain⟨ba2,bl2,bc2,rfl⟩:=okWide_slice Tryz.underlying43 (hval 2 43 v2 rfl rfl)
 injection e2 with e2
 injection e2 with xa2 xb2 xc2
 subst xa2;subst xb2;subst xc2;clear hA0 hval0;refine(spec_law (builds12_S l ep ks) ⟨of_laid hL,hs0,hs2⟩).mono λe W' ⟨he,hb⟩=>?_;exact⟨_,he,law_post (by kernel_rfl) rfl dirBuilds_types hW' rfl hb⟩
theorem dirBuilds_holds:Rows.DirBuildsSaid :=
 OpenClaim.holds_of_wide 5 Tryz.f5 rfl rfl rfl rfl rfl rfl rfl ⟨rfl,rfl,rfl,rfl,rfl⟩ rfl rfl rfl rfl rfl (by kernel_rfl) Tryz.func5 (by kernel_rfl)
  (of_decide_eq_true (by kernel_rfl)) (by unfold Func.isWrapper;first|(rw [if_pos (by decide +kernel)];kernel_rfl)|(rw [if_neg (by decide +kernel)];exact⟨rfl,rfl⟩))
  (λos started H enc _=>dirBuilds_lifted os started H enc)
theorem dirBuilds_card_holds:Rows.DirBuildsCardSaid :=
 Claim7.holds_tied_plain_at .later [] [.data,.data,.data] true Rows.dirBuildsCard.stood.harness true
  dirBuilds_holds (λ_ h=>by cases h) (by kernel_rfl) (λ_ h=>by cases h) dirBuilds_row_tie rfl ⟨rfl,rfl⟩ (by kernel_rfl) rfl
  (λf fn hf hfn=>by
   obtain rfl:f = 5:=bG ((show Tryz.prog.funcNamed "witan/witanlaw12.DirBuilds" = some 5 by kernel_rfl).symm.trans hf) |>.symm;obtain rfl:fn=Tryz.f5:=(bG (Tryz.func5.symm.trans hfn)).symm
   exact⟨by kernel_rfl,λj t ht=>by
    have hm:=Array.mem_of_getElem? ht
    have hall:(Tryz.f5.params.toList.all λu=>!Tryz.prog.wantsStandIn u)=true:=by kernel_rfl
    have h2:=bT.1 hall t (Array.mem_toList_iff.2 hm)
    show Tryz.prog.wantsStandIn t=false
    simpa using h2⟩)
  (by kernel_rfl)
#print axioms dirBuilds_card_holds
end Go.Proofs.YtlhlkofpjhpaoaaGreatDoor
