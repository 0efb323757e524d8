/-
  PROVED: SignMakes answers true for every input: what keys and signatures are, and that these are verified. No condition but the row's own: the three tables lie as the program's text lays them (the card ties it): the statement '..CardSaid' itself.
-/
import Derived.Test.YtminmeljonbogaaDoorMp
namespace Go.Proofs.YtminmeljonbogaaDoor
open Go.RowKit Go.IntWalk Nums
open Go.ChangeShapes Go.WideShapes Go.ChangeAt

theorem signMakes_types : ∀ t ∈ Tryd.f3.params.toList,Tryd.prog.readableRec t = true ∧ t < Tryd.prog.types.size:=by
 have h : Tryd.f3.params.toList.all (fun t=>Tryd.prog.readableRec t && decide (t < Tryd.prog.types.size)) = true:=by kernel_rfl
 intro t ht
 have:=List.all_eq_true.1 h t ht
 simpa using this

set_option maxRecDepth 100000 in
theorem signMakes_lifted (os : Os) (started : os.Started) (H : Type) (enc : TypeId × Value → H) :
  ReturnsInHanded {} Tryd.checked os 3 .any (fun w args=>(Rows.signMakesSpec.pre enc Tryd.prog Tryd.f3 [] false w args ∧ laidMetH Tryd.prog laid3 w) ∧ sizedMet enc Tryd.prog Tryd.f3 (OpenSpec.ofChange Rows.signMakesSpec) false w args)
   (Rows.signMakesSpec.post enc Tryd.prog Tryd.f3 false true false false):=by
 refine returnsInHanded_of_change_and (C:=Tryd.checked) (X:=fun w _=>laidMetH Tryd.prog laid3 w) (fun _ _ _ hh h=>h.of_heap hh) own started (by kernel_rfl) Tryd.func3
  (ChangeSpec.witness_shaped (enc:=enc) (C:=Tryd.checked) (os:=os) (X:=fun w _=>laidMetH Tryd.prog laid3 w) false (World.doorLaid Tryd.prog 400 os) #[.agg (By (List.replicate 32 0)).toArray,.slice none 0 0,.int .i64 0] 8 rfl (World.shaped_of_RefB (by kernel_rfl) (by kernel_rfl)) (by kernel_rfl) (by kernel_rfl) (by kernel_rfl) (door_met os _)) ?_
 intro W base args ds gs before hval0 hW _ _ hL _
 have hval : ∀ (j : Nat) t v,Tryd.f3.params[j]? = some t → args[j]? = some v → Value.okWide Tryd.prog W .any base t v:=hval0;have hW' : DataW.Whole enc Tryd.prog Tryd.f3.params.toList Rows.signMakesSpec.vars false W args.toList ds gs before:=hW;obtain ⟨p,q,hA0,hV,rfl,hfz,hnd⟩:=hW;have hA : DataW.TrodAll enc Tryd.prog W 0 (fun _=>true) true Tryd.f3.params.toList args.toList ds p:=hA0;rw [Tryd.params3] at hA hval;obtain ⟨v0,v1,v2,d0,d1,d2,p0,p1,p2,rfl,rfl,rfl,h0,h1,h2⟩:=trodAll_three hA;obtain ⟨rfl,rfl⟩:=trodVars_none hV;obtain ⟨a,la,rfl⟩:=open_hash (hval 0 22 v0 rfl rfl) h0;obtain ⟨a2,len2,cap2,rfl⟩:=okWide_slice Tryd.underlying23 (hval 1 23 v1 rfl rfl);obtain ⟨f2,hf2⟩:=h1;obtain ⟨A,l,c,e2,hsl⟩:=open_bytes hf2
 injection e2 with e2
 injection e2 with x1 x2 x3
 subst x1;subst x2;subst x3;obtain ⟨n2,rfl,rfl,rfl,w2⟩:=open_int Tryd.underlying3 (hval 2 3 v2 rfl rfl) h2;clear hA0 hval0;refine (signMakes_walk n2 la W (of_laid hL) hsl).mono fun e W' ⟨he,hb⟩=>?_;exact ⟨_,he,law_post (by kernel_rfl) rfl signMakes_types hW' rfl hb⟩

theorem signMakes_holds : Rows.SignMakesSaid :=
 OpenClaim.holds_of_wide 3 Tryd.f3 rfl rfl rfl rfl rfl rfl rfl ⟨rfl,rfl,rfl,rfl,rfl⟩ rfl rfl rfl rfl rfl (by kernel_rfl) Tryd.func3 (by kernel_rfl)
  (of_decide_eq_true (by kernel_rfl)) (by unfold Func.isWrapper; first | (rw [if_pos (by decide +kernel)]; kernel_rfl) | (rw [if_neg (by decide +kernel)]; exact ⟨rfl,rfl⟩))
  (fun os started H enc _=>signMakes_lifted os started H enc)

theorem signMakes_card_holds : Rows.SignMakesCardSaid :=
 Claim7.holds_tied_plain_at .later [] [.data,.data,.data] true Rows.signMakesCard.stood.harness false
  signMakes_holds (fun _ h=>by cases h) (by kernel_rfl) (fun _ h=>by cases h) signMakes_row_tie rfl ⟨rfl,rfl⟩ (by kernel_rfl) rfl
  (fun f fn hf hfn=>by
   obtain rfl : f = 3:=Option.some.inj ((show Tryd.prog.funcNamed "witan/witanlaw06.SignMakes" = some 3 by kernel_rfl).symm.trans hf) |>.symm;obtain rfl : fn = Tryd.f3:=(Option.some.inj (Tryd.func3.symm.trans hfn)).symm
   exact ⟨by kernel_rfl,fun j t ht=>by
    have hm:=Array.mem_of_getElem? ht
    have hall : (Tryd.f3.params.toList.all fun u=>!Tryd.prog.wantsStandIn u) = true:=by kernel_rfl
    have h2:=List.all_eq_true.1 hall t (Array.mem_toList_iff.2 hm)
    show Tryd.prog.wantsStandIn t = false
    simpa using h2⟩)
  (by kernel_rfl)
#print axioms signMakes_card_holds
end Go.Proofs.YtminmeljonbogaaDoor
