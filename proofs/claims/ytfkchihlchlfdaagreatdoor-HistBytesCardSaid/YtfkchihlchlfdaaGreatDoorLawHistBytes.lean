/-
  PROVED: HistBytes answers true for every input: what a batch's bytes and its digest are, what every bytes are read as, and back. No condition but the row's own: the three tables lie as the program's text lays them (the card ties it): the statement '..CardSaid' itself.
-/
import Derived.Test.YtfkchihlchlfdaaGreatDoorMp
import Derived.Test.YtfkchihlchlfdaaGreatDoorMq
import Derived.Test.YtfkchihlchlfdaaGreatDoorMm
set_option maxRecDepth 100000
open List renaming all_eq_true->cL
open Option.some renaming inj->fV
namespace Go.Proofs.YtfkchihlchlfdaaGreatDoor
open Go.RowKit Go.IntWalk Nums
open Go.ChangeShapes Go.WideShapes Go.ChangeAt
theorem Bt : ∀ t ∈ Tryz.f3.params.toList,Tryz.prog.readableRec t = true /\ t < Tryz.prog.types.size:=by
 have h : Tryz.f3.params.toList.all (λt=>Tryz.prog.readableRec t && decide (t < Tryz.prog.types.size)) = true:=by kernel_rfl
 intro t ht
 have:=cL.1 h t ht
 simpa using this
theorem AA (os : Os) (started : os.Started) (H : Type) (enc : TypeId × Value -> H) :
  ReturnsInHanded {} Tryz.checked os 3 .any (λw args=>(Rows.histBytesSpec.pre enc Tryz.prog Tryz.f3 [] false w args /\ laidMetH Tryz.prog HI w) /\ sizedMet enc Tryz.prog Tryz.f3 (OpenSpec.ofChange Rows.histBytesSpec) false w args)
   (Rows.histBytesSpec.post enc Tryz.prog Tryz.f3 false true false false):=by
 refine returnsInHanded_of_change_and (C:=Tryz.checked) (X:=λw _=>laidMetH Tryz.prog HI w) (λ_ _ _ hh h=>h.of_heap hh) own started (by kernel_rfl) Tryz.func3
  (ChangeSpec.witness_shaped (enc:=enc) (C:=Tryz.checked) (os:=os) (X:=λw _=>laidMetH Tryz.prog HI w) false (World.doorLaid Tryz.prog 400 os) #[.slice none 0 0,.slice none 0 0] 8 rfl (World.shaped_of_RefB (by kernel_rfl) (by kernel_rfl)) (by kernel_rfl) (by kernel_rfl) (by kernel_rfl) (Q2 os _)) ?_
 intro W base args ds gs before hval0 hW _ hsz hL _
 have hval : ∀ (j : Nat) t v,Tryz.f3.params[j]? = some t -> args[j]? = some v -> Value.okWide Tryz.prog W .any base t v:=hval0;have hW' : DataW.Whole enc Tryz.prog Tryz.f3.params.toList Rows.histBytesSpec.vars false W args.toList ds gs before:=hW;obtain ⟨p,q,hA0,hV,rfl,hfz,hnd⟩:=hW;have hA : DataW.TrodAll enc Tryz.prog W 0 (λ_=>true) true Tryz.f3.params.toList args.toList ds p:=hA0;rw [Tryz.params3] at hA hval;obtain ⟨v0,v1,d0,d1,p0,p1,rfl,rfl,rfl,h0,h1⟩:=trodAll_two hA;obtain ⟨rfl,rfl⟩:=trodVars_none hV;obtain ⟨f0,hf0⟩:=h0;obtain ⟨A,us,c,e0,hs0⟩:=Td (fe:=eU) (k:=129) Tryz.underlying22 (by kernel_rfl) (by decide) Mg hf0;obtain ⟨ba0,bl0,bc0,rfl⟩:=okWide_slice Tryz.underlying22 (hval 0 22 v0 rfl rfl)
 injection e0 with e0
 injection e0 with xa0 xb0 xc0
 subst xa0;subst xb0;subst xc0;obtain ⟨f1,hf1⟩:=h1;obtain ⟨A2,x,c2,e1,hs1⟩:=JI hf1;obtain ⟨ba1,bl1,bc1,rfl⟩:=okWide_slice Tryz.underlying23 (hval 1 23 v1 rfl rfl)
 have hlen1 : bl1 <= 140737488355312:=by
  rcases DataW.trod_slice Tryz.underlying23 hf1 with ⟨e,_⟩ | ⟨a,len,cap,elems,rest,n,_,e,hx,_,_,_,hl,_⟩
  ·injection e with e
   injection e with _ e
   omega
  ·injection e with e
   injection e with _ e
   injection hx with hx _
   subst hx;have:=sized_slice hsz (j:=1) (t:=23) (e:=5) rfl rfl Tryz.underlying23;rw [show Tryz.checked.prog.bytesOf 5 = 1 by kernel_rfl,Nat.mul_one,List.length_map] at this
   have hrb : reachBytes <= 140737488351232:=by decide
   omega
 injection e1 with e1
 injection e1 with xa1 xb1 xc1
 subst xa1;subst xb1;subst xc1;clear hA0 hval0;refine (Om (H8 us x hlen1) ⟨Th hL,hs0,Rd.UI hs1⟩).mono λe W' ⟨he,hb⟩=>?_;exact ⟨_,he,P9 (by kernel_rfl) rfl Bt hW' rfl hb⟩
theorem Bu : Rows.HistBytesSaid :=
 OpenClaim.holds_of_wide 3 Tryz.f3 rfl rfl rfl rfl rfl rfl rfl ⟨rfl,rfl,rfl,rfl,rfl⟩ rfl rfl rfl rfl rfl (by kernel_rfl) Tryz.func3 (by kernel_rfl)
  (of_decide_eq_true (by kernel_rfl)) (by unfold Func.isWrapper; first | (rw [if_pos (by decide +kernel)]; kernel_rfl) | (rw [if_neg (by decide +kernel)]; exact ⟨rfl,rfl⟩))
  (λos started H enc _=>AA os started H enc)
theorem histBytes_card_holds : Rows.HistBytesCardSaid :=
 Claim7.holds_tied_plain_at .later [] [.data,.data,.data] true Rows.histBytesCard.stood.harness false
  Bu (λ_ h=>by cases h) (by kernel_rfl) (λ_ h=>by cases h) histBytes_row_tie rfl ⟨rfl,rfl⟩ (by kernel_rfl) rfl
  (λf fn hf hfn=>by
   obtain rfl : f = 3:=fV ((show Tryz.prog.funcNamed "witan/witanlaw11.HistBytes" = some 3 by kernel_rfl).symm.trans hf) |>.symm;obtain rfl : fn = Tryz.f3:=(fV (Tryz.func3.symm.trans hfn)).symm
   exact ⟨by kernel_rfl,λj t ht=>by
    have hm:=Array.mem_of_getElem? ht
    have hall : (Tryz.f3.params.toList.all λu=>!Tryz.prog.wantsStandIn u) = true:=by kernel_rfl
    have h2:=cL.1 hall t (Array.mem_toList_iff.2 hm)
    show Tryz.prog.wantsStandIn t = false
    simpa using h2⟩)
  (by kernel_rfl)
#print axioms histBytes_card_holds
end Go.Proofs.YtfkchihlchlfdaaGreatDoor
