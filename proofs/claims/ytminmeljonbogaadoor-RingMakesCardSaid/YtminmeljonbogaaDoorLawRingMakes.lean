/-
  PROVED: RingMakes answers true for every input: which keys make a ring, and what it tells of its replicas. No condition but the row's own: the three tables lie as the program's text lays them (the card ties it): the statement '..CardSaid' itself.
-/
import Derived.Test.YtminmeljonbogaaDoorMm
import Derived.Test.YtminmeljonbogaaDoorMl
namespace Go.Proofs.YtminmeljonbogaaDoor
open Go.RowKit Go.IntWalk Nums
open Go.ChangeShapes Go.WideShapes Go.ChangeAt

theorem ringMakes_types : ∀ t ∈ Tryd.f5.params.toList,Tryd.prog.readableRec t = true ∧ t < Tryd.prog.types.size:=by
 have h : Tryd.f5.params.toList.all (fun t=>Tryd.prog.readableRec t && decide (t < Tryd.prog.types.size)) = true:=by kernel_rfl
 intro t ht
 have:=List.all_eq_true.1 h t ht
 simpa using this

set_option maxRecDepth 100000 in
theorem ringMakes_lifted (os : Os) (started : os.Started) (H : Type) (enc : TypeId × Value → H) :
  ReturnsInHanded {} Tryd.checked os 5 .any (fun w args=>(Rows.ringMakesSpec.pre enc Tryd.prog Tryd.f5 [] false w args ∧ laidMetH Tryd.prog laid3 w) ∧ sizedMet enc Tryd.prog Tryd.f5 (OpenSpec.ofChange Rows.ringMakesSpec) false w args)
   (Rows.ringMakesSpec.post enc Tryd.prog Tryd.f5 false true false false):=by
 refine returnsInHanded_of_change_and (C:=Tryd.checked) (X:=fun w _=>laidMetH Tryd.prog laid3 w) (fun _ _ _ hh h=>h.of_heap hh) own started (by kernel_rfl) Tryd.func5
  (ChangeSpec.witness_shaped (enc:=enc) (C:=Tryd.checked) (os:=os) (X:=fun w _=>laidMetH Tryd.prog laid3 w) false (World.doorLaid Tryd.prog 400 os) #[.slice none 0 0,.int .i64 0] 8 rfl (World.shaped_of_RefB (by kernel_rfl) (by kernel_rfl)) (by kernel_rfl) (by kernel_rfl) (by kernel_rfl) (door_met os _)) ?_
 intro W base args ds gs before hval0 hW _ hsz hL _
 have hval : ∀ (j : Nat) t v,Tryd.f5.params[j]? = some t → args[j]? = some v → Value.okWide Tryd.prog W .any base t v:=hval0;have hW' : DataW.Whole enc Tryd.prog Tryd.f5.params.toList Rows.ringMakesSpec.vars false W args.toList ds gs before:=hW;obtain ⟨p,q,hA0,hV,rfl,hfz,hnd⟩:=hW;have hA : DataW.TrodAll enc Tryd.prog W 0 (fun _=>true) true Tryd.f5.params.toList args.toList ds p:=hA0;rw [Tryd.params5] at hA hval;obtain ⟨v0,v1,d0,d1,p0,p1,rfl,rfl,rfl,h0,h1⟩:=trodAll_two hA;obtain ⟨rfl,rfl⟩:=trodVars_none hV;obtain ⟨a2,len2,cap2,rfl⟩:=okWide_slice Tryd.underlying40 (hval 0 40 v0 rfl rfl);obtain ⟨f2,hf2⟩:=h0;obtain ⟨A,ks,c,e2,hnil,hn,hc,hV7,hs⟩:=open_hashes hf2
 injection e2 with e2
 injection e2 with x1 x2 x3
 subst x1;subst x2;subst x3
 have hlen : ks.length * 32 ≤ 140737488355328:=by
  rcases hs with ⟨_,rfl⟩ | ⟨es,rs,hx,hl⟩
  ·decide
  ·dsimp only at hx
   subst hx;have:=sized_slice hsz (j:=0) (t:=40) (e:=22) rfl rfl Tryd.underlying40;rw [show Tryd.checked.prog.bytesOf 22 = 32 by kernel_rfl] at this;have:=reachBytes_lt
   omega
 obtain ⟨n1,rfl,rfl,rfl,w1⟩:=open_int Tryd.underlying3 (hval 1 3 v1 rfl rfl) h1;clear hA0 hval0;refine (ringMakes_walk n1 hnil hn hc hlen W (of_laid hL) hV7).mono fun e W' ⟨he,hb⟩=>?_;exact ⟨_,he,law_post (by kernel_rfl) rfl ringMakes_types hW' rfl hb⟩

theorem ringMakes_holds : Rows.RingMakesSaid :=
 OpenClaim.holds_of_wide 5 Tryd.f5 rfl rfl rfl rfl rfl rfl rfl ⟨rfl,rfl,rfl,rfl,rfl⟩ rfl rfl rfl rfl rfl (by kernel_rfl) Tryd.func5 (by kernel_rfl)
  (of_decide_eq_true (by kernel_rfl)) (by unfold Func.isWrapper; first | (rw [if_pos (by decide +kernel)]; kernel_rfl) | (rw [if_neg (by decide +kernel)]; exact ⟨rfl,rfl⟩))
  (fun os started H enc _=>ringMakes_lifted os started H enc)

theorem ringMakes_card_holds : Rows.RingMakesCardSaid :=
 Claim7.holds_tied_plain_at .later [] [.data,.data,.data] true Rows.ringMakesCard.stood.harness false
  ringMakes_holds (fun _ h=>by cases h) (by kernel_rfl) (fun _ h=>by cases h) ringMakes_row_tie rfl ⟨rfl,rfl⟩ (by kernel_rfl) rfl
  (fun f fn hf hfn=>by
   obtain rfl : f = 5:=Option.some.inj ((show Tryd.prog.funcNamed "witan/witanlaw07.RingMakes" = some 5 by kernel_rfl).symm.trans hf) |>.symm;obtain rfl : fn = Tryd.f5:=(Option.some.inj (Tryd.func5.symm.trans hfn)).symm
   exact ⟨by kernel_rfl,fun j t ht=>by
    have hm:=Array.mem_of_getElem? ht
    have hall : (Tryd.f5.params.toList.all fun u=>!Tryd.prog.wantsStandIn u) = true:=by kernel_rfl
    have h2:=List.all_eq_true.1 hall t (Array.mem_toList_iff.2 hm)
    show Tryd.prog.wantsStandIn t = false
    simpa using h2⟩)
  (by kernel_rfl)
#print axioms ringMakes_card_holds
end Go.Proofs.YtminmeljonbogaaDoor
