/-
  PROVED: RingOthers answers true for every input: any bytes are opened just as layer 6 verifies them. No condition but the row's own: the three tables lie as the program's text lays them (the card ties it): the statement '..CardSaid' itself.
-/
import Derived.Test.YtminmeljonbogaaDoorMn
import Derived.Test.YtminmeljonbogaaDoorMl
namespace Go.Proofs.YtminmeljonbogaaDoor
open Go.RowKit Go.IntWalk Nums
open Go.ChangeShapes Go.WideShapes Go.ChangeAt

theorem ringOthers_types : ∀ t ∈ Tryd.f6.params.toList,Tryd.prog.readableRec t = true ∧ t < Tryd.prog.types.size:=by
 have h : Tryd.f6.params.toList.all (fun t=>Tryd.prog.readableRec t && decide (t < Tryd.prog.types.size)) = true:=by kernel_rfl
 intro t ht
 have:=List.all_eq_true.1 h t ht
 simpa using this

set_option maxRecDepth 100000 in
theorem ringOthers_lifted (os : Os) (started : os.Started) (H : Type) (enc : TypeId × Value → H) :
  ReturnsInHanded {} Tryd.checked os 6 .any (fun w args=>(Rows.ringOthersSpec.pre enc Tryd.prog Tryd.f6 [] false w args ∧ laidMetH Tryd.prog laid3 w) ∧ sizedMet enc Tryd.prog Tryd.f6 (OpenSpec.ofChange Rows.ringOthersSpec) false w args)
   (Rows.ringOthersSpec.post enc Tryd.prog Tryd.f6 false true false false):=by
 refine returnsInHanded_of_change_and (C:=Tryd.checked) (X:=fun w _=>laidMetH Tryd.prog laid3 w) (fun _ _ _ hh h=>h.of_heap hh) own started (by kernel_rfl) Tryd.func6
  (ChangeSpec.witness_shaped (enc:=enc) (C:=Tryd.checked) (os:=os) (X:=fun w _=>laidMetH Tryd.prog laid3 w) false (World.doorLaid Tryd.prog 400 os) #[.int .u8 0,.slice none 0 0,.agg (By (List.replicate 64 0)).toArray] 8 rfl (World.shaped_of_RefB (by kernel_rfl) (by kernel_rfl)) (by kernel_rfl) (by kernel_rfl) (by kernel_rfl) (door_met os _)) ?_
 intro W base args ds gs before hval0 hW _ hsz hL _
 have hval : ∀ (j : Nat) t v,Tryd.f6.params[j]? = some t → args[j]? = some v → Value.okWide Tryd.prog W .any base t v:=hval0;have hW' : DataW.Whole enc Tryd.prog Tryd.f6.params.toList Rows.ringOthersSpec.vars false W args.toList ds gs before:=hW;obtain ⟨p,q,hA0,hV,rfl,hfz,hnd⟩:=hW;have hA : DataW.TrodAll enc Tryd.prog W 0 (fun _=>true) true Tryd.f6.params.toList args.toList ds p:=hA0;rw [Tryd.params6] at hA hval;obtain ⟨v0,v1,v2,d0,d1,d2,p0,p1,p2,rfl,rfl,rfl,h0,h1,h2⟩:=trodAll_three hA;obtain ⟨rfl,rfl⟩:=trodVars_none hV;obtain ⟨n0,rfl,rfl,rfl,w0⟩:=open_int Tryd.underlying49 (hval 0 49 v0 rfl rfl) h0;have hb0:=bounds_u8 w0;obtain ⟨t,rfl⟩ : ∃ t : UInt8,n0 = (t.toNat : Int):=⟨UInt8.ofNat n0.toNat,by rw [UInt8.toNat_ofNat']; omega⟩;obtain ⟨a2,len2,cap2,rfl⟩:=okWide_slice Tryd.underlying23 (hval 1 23 v1 rfl rfl);obtain ⟨b,lb,rfl⟩:=open_w64 (hval 2 32 v2 rfl rfl) h2;obtain ⟨f2,hf2⟩:=h1
 have hlen : len2 ≤ 140737488355312:=by
  rcases DataW.trod_slice Tryd.underlying23 hf2 with ⟨e,_⟩ | ⟨a,len,cap,elems,rest,n,_,e,hx,_,_,_,hl,_⟩
  ·injection e with e
   injection e with _ e
   omega
  ·injection e with e
   injection e with _ e
   injection hx with hx _
   subst hx;have:=sized_slice hsz (j:=1) (t:=23) (e:=5) rfl rfl Tryd.underlying23;rw [show Tryd.checked.prog.bytesOf 5 = 1 by kernel_rfl,Nat.mul_one,List.length_map] at this
   have hrb : reachBytes ≤ 140737488351232:=by decide
   omega
 obtain ⟨A,l,c,e2,hsl⟩:=open_bytes hf2
 injection e2 with e2
 injection e2 with x1 x2 x3
 subst x1;subst x2;subst x3;clear hA0 hval0;refine (ringOthers_walk t lb hlen W (of_laid hL) hsl).mono fun e W' ⟨he,hb⟩=>?_;exact ⟨_,he,law_post (by kernel_rfl) rfl ringOthers_types hW' rfl hb⟩

theorem ringOthers_holds : Rows.RingOthersSaid :=
 OpenClaim.holds_of_wide 6 Tryd.f6 rfl rfl rfl rfl rfl rfl rfl ⟨rfl,rfl,rfl,rfl,rfl⟩ rfl rfl rfl rfl rfl (by kernel_rfl) Tryd.func6 (by kernel_rfl)
  (of_decide_eq_true (by kernel_rfl)) (by unfold Func.isWrapper; first | (rw [if_pos (by decide +kernel)]; kernel_rfl) | (rw [if_neg (by decide +kernel)]; exact ⟨rfl,rfl⟩))
  (fun os started H enc _=>ringOthers_lifted os started H enc)

theorem ringOthers_card_holds : Rows.RingOthersCardSaid :=
 Claim7.holds_tied_plain_at .later [] [.data,.data,.data] true Rows.ringOthersCard.stood.harness false
  ringOthers_holds (fun _ h=>by cases h) (by kernel_rfl) (fun _ h=>by cases h) ringOthers_row_tie rfl ⟨rfl,rfl⟩ (by kernel_rfl) rfl
  (fun f fn hf hfn=>by
   obtain rfl : f = 6:=Option.some.inj ((show Tryd.prog.funcNamed "witan/witanlaw07.RingOthers" = some 6 by kernel_rfl).symm.trans hf) |>.symm;obtain rfl : fn = Tryd.f6:=(Option.some.inj (Tryd.func6.symm.trans hfn)).symm
   exact ⟨by kernel_rfl,fun j t ht=>by
    have hm:=Array.mem_of_getElem? ht
    have hall : (Tryd.f6.params.toList.all fun u=>!Tryd.prog.wantsStandIn u) = true:=by kernel_rfl
    have h2:=List.all_eq_true.1 hall t (Array.mem_toList_iff.2 hm)
    show Tryd.prog.wantsStandIn t = false
    simpa using h2⟩)
  (by kernel_rfl)
#print axioms ringOthers_card_holds
end Go.Proofs.YtminmeljonbogaaDoor
