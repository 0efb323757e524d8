/-
  PROVED: HistChains answers true for every input: updates that were made one for each version are a history, and none of them fits in another place. No condition but the row's own: the three tables lie as the program's text lays them (the card ties it): the statement '..CardSaid' itself.
-/
import Derived.Test.YtfkchihlchlfdaaDoorMr
import Derived.Test.YtfkchihlchlfdaaDoorMp
import Derived.Test.YtfkchihlchlfdaaDoorMn
set_option maxRecDepth 100000
open List renaming all_eq_true->cE
open Option.some renaming inj->eW
namespace Go.Proofs.YtfkchihlchlfdaaDoor
open Go.RowKit Go.IntWalk Nums
open Go.ChangeShapes Go.WideShapes Go.ChangeAt
theorem Aa : ∀ t ∈ Tryd.f4.params.toList,Tryd.prog.readableRec t = true /\ t < Tryd.prog.types.size:=by
 have h : Tryd.f4.params.toList.all (λt=>Tryd.prog.readableRec t && decide (t < Tryd.prog.types.size)) = true:=by kernel_rfl
 intro t ht
 have:=cE.1 h t ht
 simpa using this
theorem yS (os : Os) (started : os.Started) (H : Type) (enc : TypeId × Value -> H) :
  ReturnsInHanded {} Tryd.checked os 4 .any (λw args=>(Rows.histChainsSpec.pre enc Tryd.prog Tryd.f4 [] false w args /\ laidMetH Tryd.prog AK w) /\ sizedMet enc Tryd.prog Tryd.f4 (OpenSpec.ofChange Rows.histChainsSpec) false w args)
   (Rows.histChainsSpec.post enc Tryd.prog Tryd.f4 false true false false):=by
 refine returnsInHanded_of_change_and (C:=Tryd.checked) (X:=λw _=>laidMetH Tryd.prog AK w) (λ_ _ _ hh h=>h.of_heap hh) own started (by kernel_rfl) Tryd.func4
  (ChangeSpec.witness_shaped (enc:=enc) (C:=Tryd.checked) (os:=os) (X:=λw _=>laidMetH Tryd.prog AK w) false (World.doorLaid Tryd.prog 400 os) #[.int .i64 0,.int .i64 0,.int .i64 0] 8 rfl (World.shaped_of_RefB (by kernel_rfl) (by kernel_rfl)) (by kernel_rfl) (by kernel_rfl) (by kernel_rfl) (G7 os _)) ?_
 intro W base args ds gs before hval0 hW _ hsz hL _
 have hval : ∀ (j : Nat) t v,Tryd.f4.params[j]? = some t -> args[j]? = some v -> Value.okWide Tryd.prog W .any base t v:=hval0;have hW' : DataW.Whole enc Tryd.prog Tryd.f4.params.toList Rows.histChainsSpec.vars false W args.toList ds gs before:=hW;obtain ⟨p,q,hA0,hV,rfl,hfz,hnd⟩:=hW;have hA : DataW.TrodAll enc Tryd.prog W 0 (λ_=>true) true Tryd.f4.params.toList args.toList ds p:=hA0;rw [Tryd.params4] at hA hval;obtain ⟨v0,v1,v2,d0,d1,d2,p0,p1,p2,rfl,rfl,rfl,h0,h1,h2⟩:=trodAll_three hA;obtain ⟨rfl,rfl⟩:=trodVars_none hV;obtain ⟨n,rfl,rfl,rfl,_⟩:=open_int Tryd.underlying3 (hval 0 3 v0 rfl rfl) h0;obtain ⟨a,rfl,rfl,rfl,_⟩:=open_int Tryd.underlying3 (hval 1 3 v1 rfl rfl) h1;obtain ⟨b0,rfl,rfl,rfl,_⟩:=open_int Tryd.underlying3 (hval 2 3 v2 rfl rfl) h2;clear hA0 hval0;refine (FF (EK n a b0) (JY hL)).mono λe W' ⟨he,hb⟩=>?_;exact ⟨_,he,GD (by kernel_rfl) rfl Aa hW' rfl hb⟩
theorem Ab : Rows.HistChainsSaid :=
 OpenClaim.holds_of_wide 4 Tryd.f4 rfl rfl rfl rfl rfl rfl rfl ⟨rfl,rfl,rfl,rfl,rfl⟩ rfl rfl rfl rfl rfl (by kernel_rfl) Tryd.func4 (by kernel_rfl)
  (of_decide_eq_true (by kernel_rfl)) (by unfold Func.isWrapper; first | (rw [if_pos (by decide +kernel)]; kernel_rfl) | (rw [if_neg (by decide +kernel)]; exact ⟨rfl,rfl⟩))
  (λos started H enc _=>yS os started H enc)
theorem histChains_card_holds : Rows.HistChainsCardSaid :=
 Claim7.holds_tied_plain_at .later [] [.data,.data,.data] true Rows.histChainsCard.stood.harness false
  Ab (λ_ h=>by cases h) (by kernel_rfl) (λ_ h=>by cases h) histChains_row_tie rfl ⟨rfl,rfl⟩ (by kernel_rfl) rfl
  (λf fn hf hfn=>by
   obtain rfl : f = 4:=eW ((show Tryd.prog.funcNamed "witan/witanlaw11.HistChains" = some 4 by kernel_rfl).symm.trans hf) |>.symm;obtain rfl : fn = Tryd.f4:=(eW (Tryd.func4.symm.trans hfn)).symm
   exact ⟨by kernel_rfl,λj t ht=>by
    have hm:=Array.mem_of_getElem? ht
    have hall : (Tryd.f4.params.toList.all λu=>!Tryd.prog.wantsStandIn u) = true:=by kernel_rfl
    have h2:=cE.1 hall t (Array.mem_toList_iff.2 hm)
    show Tryd.prog.wantsStandIn t = false
    simpa using h2⟩)
  (by kernel_rfl)
#print axioms histChains_card_holds
end Go.Proofs.YtfkchihlchlfdaaDoor
