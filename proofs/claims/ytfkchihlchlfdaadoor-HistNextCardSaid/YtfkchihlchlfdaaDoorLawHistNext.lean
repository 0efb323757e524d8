/-
  PROVED: HistNext answers true for every input: which update is a history's next one, and what the history and its value are then. No condition but the row's own: the three tables lie as the program's text lays them (the card ties it): the statement '..CardSaid' itself.
-/
import Derived.Test.YtfkchihlchlfdaaDoorMq
import Derived.Test.YtfkchihlchlfdaaDoorMp
import Derived.Test.YtfkchihlchlfdaaDoorMn
set_option maxRecDepth 100000
open List renaming all_eq_true->cE
open Option.some renaming inj->eW
namespace Go.Proofs.YtfkchihlchlfdaaDoor
open Go.RowKit Go.IntWalk Nums
open Go.ChangeShapes Go.WideShapes Go.ChangeAt
theorem Cb : ∀ t ∈ Tryd.f3.params.toList,Tryd.prog.readableRec t = true /\ t < Tryd.prog.types.size:=by
 have h : Tryd.f3.params.toList.all (λt=>Tryd.prog.readableRec t && decide (t < Tryd.prog.types.size)) = true:=by kernel_rfl
 intro t ht
 have:=cE.1 h t ht
 simpa using this
theorem AY (os : Os) (started : os.Started) (H : Type) (enc : TypeId × Value -> H) :
  ReturnsInHanded {} Tryd.checked os 3 .any (λw args=>(Rows.histNextSpec.pre enc Tryd.prog Tryd.f3 [] false w args /\ laidMetH Tryd.prog AK w) /\ sizedMet enc Tryd.prog Tryd.f3 (OpenSpec.ofChange Rows.histNextSpec) false w args)
   (Rows.histNextSpec.post enc Tryd.prog Tryd.f3 false true false false):=by
 refine returnsInHanded_of_change_and (C:=Tryd.checked) (X:=λw _=>laidMetH Tryd.prog AK w) (λ_ _ _ hh h=>h.of_heap hh) own started (by kernel_rfl) Tryd.func3
  (ChangeSpec.witness_shaped (enc:=enc) (C:=Tryd.checked) (os:=os) (X:=λw _=>laidMetH Tryd.prog AK w) false (World.doorLaid Tryd.prog 400 os) #[.slice none 0 0,.int .i64 0,.bool false] 8 rfl (World.shaped_of_RefB (by kernel_rfl) (by kernel_rfl)) (by kernel_rfl) (by kernel_rfl) (by kernel_rfl) (G7 os _)) ?_
 intro W base args ds gs before hval0 hW _ hsz hL _
 have hval : ∀ (j : Nat) t v,Tryd.f3.params[j]? = some t -> args[j]? = some v -> Value.okWide Tryd.prog W .any base t v:=hval0;have hW' : DataW.Whole enc Tryd.prog Tryd.f3.params.toList Rows.histNextSpec.vars false W args.toList ds gs before:=hW;obtain ⟨p,q,hA0,hV,rfl,hfz,hnd⟩:=hW;have hA : DataW.TrodAll enc Tryd.prog W 0 (λ_=>true) true Tryd.f3.params.toList args.toList ds p:=hA0;rw [Tryd.params3] at hA hval;obtain ⟨v0,v1,v2,d0,d1,d2,p0,p1,p2,rfl,rfl,rfl,h0,h1,h2⟩:=trodAll_three hA;obtain ⟨rfl,rfl⟩:=trodVars_none hV;obtain ⟨f0,hf0⟩:=h0;obtain ⟨A,l,c,e0,hs0⟩:=Qt (fe:=eY 32) (k:=32) Tryd.underlying22 (by kernel_rfl) (by decide) GM hf0;obtain ⟨ba0,bl0,bc0,rfl⟩:=okWide_slice Tryd.underlying22 (hval 0 22 v0 rfl rfl)
 injection e0 with e0
 injection e0 with xa0 xb0 xc0
 subst xa0;subst xb0;subst xc0;obtain ⟨v,rfl,rfl,rfl,_⟩:=open_int Tryd.underlying3 (hval 1 3 v1 rfl rfl) h1;obtain ⟨wr,rfl,rfl,rfl⟩:=open_bool Tryd.underlying4 (hval 2 4 v2 rfl rfl) h2;clear hA0 hval0;refine (FF (II l v wr) ⟨JY hL,hs0⟩).mono λe W' ⟨he,hb⟩=>?_;exact ⟨_,he,GD (by kernel_rfl) rfl Cb hW' rfl hb⟩
theorem Cc : Rows.HistNextSaid :=
 OpenClaim.holds_of_wide 3 Tryd.f3 rfl rfl rfl rfl rfl rfl rfl ⟨rfl,rfl,rfl,rfl,rfl⟩ rfl rfl rfl rfl rfl (by kernel_rfl) Tryd.func3 (by kernel_rfl)
  (of_decide_eq_true (by kernel_rfl)) (by unfold Func.isWrapper; first | (rw [if_pos (by decide +kernel)]; kernel_rfl) | (rw [if_neg (by decide +kernel)]; exact ⟨rfl,rfl⟩))
  (λos started H enc _=>AY os started H enc)
theorem histNext_card_holds : Rows.HistNextCardSaid :=
 Claim7.holds_tied_plain_at .later [] [.data,.data,.data] true Rows.histNextCard.stood.harness false
  Cc (λ_ h=>by cases h) (by kernel_rfl) (λ_ h=>by cases h) histNext_row_tie rfl ⟨rfl,rfl⟩ (by kernel_rfl) rfl
  (λf fn hf hfn=>by
   obtain rfl : f = 3:=eW ((show Tryd.prog.funcNamed "witan/witanlaw11.HistNext" = some 3 by kernel_rfl).symm.trans hf) |>.symm;obtain rfl : fn = Tryd.f3:=(eW (Tryd.func3.symm.trans hfn)).symm
   exact ⟨by kernel_rfl,λj t ht=>by
    have hm:=Array.mem_of_getElem? ht
    have hall : (Tryd.f3.params.toList.all λu=>!Tryd.prog.wantsStandIn u) = true:=by kernel_rfl
    have h2:=cE.1 hall t (Array.mem_toList_iff.2 hm)
    show Tryd.prog.wantsStandIn t = false
    simpa using h2⟩)
  (by kernel_rfl)
#print axioms histNext_card_holds
end Go.Proofs.YtfkchihlchlfdaaDoor
