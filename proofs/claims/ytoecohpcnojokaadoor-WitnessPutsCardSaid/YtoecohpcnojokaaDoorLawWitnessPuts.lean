/-
  PROVED: WitnessPuts answers true for every input: a part tells of the keys that it was cut for what the tree does, and keeps the tree's root whatever is put for these keys. No condition but the row's own: the two tables of the digests lie as the program's text lays them (the card ties it): the statement '..CardSaid' itself.
-/
import Derived.Test.YtoecohpcnojokaaDoorMq
import Derived.Test.YtoecohpcnojokaaDoorMn
namespace Go.Proofs.YtoecohpcnojokaaDoor
open Go.RowKit Go.IntWalk Nums
open Go.ChangeShapes Go.WideShapes Go.ChangeAt

theorem witnessPuts_types : ∀ t ∈ Tryd.f5.params.toList, Tryd.prog.readableRec t = true ∧ t < Tryd.prog.types.size := by
  have h : Tryd.f5.params.toList.all (fun t => Tryd.prog.readableRec t && decide (t < Tryd.prog.types.size)) = true := by kernel_rfl
  intro t ht
  have := List.all_eq_true.1 h t ht
  simpa using this

set_option maxRecDepth 100000 in
theorem witnessPuts_lifted (os : Os) (started : os.Started) (H : Type) (enc : TypeId × Value → H) :
    ReturnsInHanded {} Tryd.checked os 5 .any (fun w args => (Rows.witnessPutsSpec.pre enc Tryd.prog Tryd.f5 [] false w args ∧ laidMetH Tryd.prog laid2 w) ∧ sizedMet enc Tryd.prog Tryd.f5 (OpenSpec.ofChange Rows.witnessPutsSpec) false w args)
      (Rows.witnessPutsSpec.post enc Tryd.prog Tryd.f5 false true false false) := by
  refine returnsInHanded_of_change_and (C := Tryd.checked) (X := fun w _ => laidMetH Tryd.prog laid2 w) (fun _ _ _ hh h => h.of_heap hh) own started (by kernel_rfl) Tryd.func5
    (ChangeSpec.witness_shaped (enc := enc) (C := Tryd.checked) (os := os) (X := fun w _ => laidMetH Tryd.prog laid2 w) false (World.doorLaid Tryd.prog 400 os) #[.slice none 0 0, .slice none 0 0, .slice none 0 0] 8 rfl (World.shaped_of_RefB (by kernel_rfl) (by kernel_rfl)) (by kernel_rfl) (by kernel_rfl) (by kernel_rfl) (door_met2 os _)) ?_
  intro W base args ds gs before hval0 hW _ hsz hL _
  have hval : ∀ (j : Nat) t v, Tryd.f5.params[j]? = some t → args[j]? = some v → Value.okWide Tryd.prog W .any base t v := hval0
  have hW' : DataW.Whole enc Tryd.prog Tryd.f5.params.toList Rows.witnessPutsSpec.vars false W args.toList ds gs before := hW
  obtain ⟨p, q, hA0, hV, rfl, hfz, hnd⟩ := hW
  have hA : DataW.TrodAll enc Tryd.prog W 0 (fun _ => true) true Tryd.f5.params.toList args.toList ds p := hA0
  rw [Tryd.params5] at hA hval
  obtain ⟨v0, v1, v2, d0, d1, d2, p0, p1, p2, rfl, rfl, rfl, h0, h1, h2⟩ := trodAll_three hA
  obtain ⟨rfl, rfl⟩ := trodVars_none hV
  obtain ⟨f0, hf0⟩ := h0
  obtain ⟨A, l, c, e0, hs0⟩ := open_rd (fe := eP) (k := 64) Tryd.underlying22 (by kernel_rfl) (by decide) pair_cellsT hf0
  obtain ⟨ba0, bl0, bc0, rfl⟩ := okWide_slice Tryd.underlying22 (hval 0 22 v0 rfl rfl)
  injection e0 with e0
  injection e0 with xa0 xb0 xc0
  subst xa0
  subst xb0
  subst xc0
  obtain ⟨f1, hf1⟩ := h1
  obtain ⟨A2, ks, c2, e1, hs1⟩ := open_rd (fe := eY 32) (k := 32) Tryd.underlying23 (by kernel_rfl) (by decide) hash_cellsT hf1
  obtain ⟨ba1, bl1, bc1, rfl⟩ := okWide_slice Tryd.underlying23 (hval 1 23 v1 rfl rfl)
  injection e1 with e1
  injection e1 with xa1 xb1 xc1
  subst xa1
  subst xb1
  subst xc1
  obtain ⟨f2, hf2⟩ := h2
  obtain ⟨A3, ps, c3, e2, hs2⟩ := open_rd (fe := eP) (k := 64) Tryd.underlying22 (by kernel_rfl) (by decide) pair_cellsT hf2
  obtain ⟨ba2, bl2, bc2, rfl⟩ := okWide_slice Tryd.underlying22 (hval 2 22 v2 rfl rfl)
  injection e2 with e2
  injection e2 with xa2 xb2 xc2
  subst xa2
  subst xb2
  subst xc2
  clear hA0 hval0
  refine (spec_law (wputsL_S l ks ps) ⟨of_laid2 hL, hs0, hs1, hs2⟩).mono fun e W' ⟨he, hb⟩ => ?_
  exact ⟨_, he, law_post (by kernel_rfl) rfl witnessPuts_types hW' rfl hb⟩

theorem witnessPuts_holds : Rows.WitnessPutsSaid :=
  OpenClaim.holds_of_wide 5 Tryd.f5 rfl rfl rfl rfl rfl rfl rfl ⟨rfl, rfl, rfl, rfl, rfl⟩ rfl rfl rfl rfl rfl (by kernel_rfl) Tryd.func5 (by kernel_rfl)
    (of_decide_eq_true (by kernel_rfl)) (by unfold Func.isWrapper; first | (rw [if_pos (by decide +kernel)]; kernel_rfl) | (rw [if_neg (by decide +kernel)]; exact ⟨rfl, rfl⟩))
    (fun os started H enc _ => witnessPuts_lifted os started H enc)

theorem witnessPuts_card_holds : Rows.WitnessPutsCardSaid :=
  Claim7.holds_tied_plain_at .later [] [.data, .data] true Rows.witnessPutsCard.stood.harness true
    witnessPuts_holds (fun _ h => by cases h) (by kernel_rfl) (fun _ h => by cases h) witnessPuts_row_tie rfl ⟨rfl, rfl⟩ (by kernel_rfl) rfl
    (fun f fn hf hfn => by
      obtain rfl : f = 5 := Option.some.inj ((show Tryd.prog.funcNamed "witan/witanlaw10.WitnessPuts" = some 5 by kernel_rfl).symm.trans hf) |>.symm
      obtain rfl : fn = Tryd.f5 := (Option.some.inj (Tryd.func5.symm.trans hfn)).symm
      exact ⟨by kernel_rfl, fun j t ht => by
        have hm := Array.mem_of_getElem? ht
        have hall : (Tryd.f5.params.toList.all fun u => !Tryd.prog.wantsStandIn u) = true := by kernel_rfl
        have h2 := List.all_eq_true.1 hall t (Array.mem_toList_iff.2 hm)
        show Tryd.prog.wantsStandIn t = false
        simpa using h2⟩)
    (by kernel_rfl)
#print axioms witnessPuts_card_holds
end Go.Proofs.YtoecohpcnojokaaDoor
