/-
  PROVED: CertMakes answers true for every input: certificates are made just of a quorum's right shares, whatever else comes, and are checked. No condition but the row's own: the three tables lie as the program's text lays them (the card ties it): the statement '..CardSaid' itself.
-/
import Derived.Test.YtlcbhbahchiofaaDoorMp
import Derived.Test.YtlcbhbahchiofaaDoorMn
import Derived.Test.YtlcbhbahchiofaaDoorMo
namespace Go.Proofs.YtlcbhbahchiofaaDoor
open Go.RowKit Go.IntWalk Nums
open Go.ChangeShapes Go.WideShapes Go.ChangeAt

theorem certMakes_types : ∀ t ∈ Tryd.f3.params.toList,Tryd.prog.readableRec t = true ∧ t < Tryd.prog.types.size:=by
 have h : Tryd.f3.params.toList.all (fun t=>Tryd.prog.readableRec t && decide (t < Tryd.prog.types.size)) = true:=by kernel_rfl
 intro t ht
 have:=List.all_eq_true.1 h t ht
 simpa using this

set_option maxRecDepth 100000 in
theorem certMakes_lifted (os : Os) (started : os.Started) (H : Type) (enc : TypeId × Value → H) :
  ReturnsInHanded {} Tryd.checked os 3 .any (fun w args=>(Rows.certMakesSpec.pre enc Tryd.prog Tryd.f3 [] false w args ∧ laidMetH Tryd.prog laid3 w) ∧ sizedMet enc Tryd.prog Tryd.f3 (OpenSpec.ofChange Rows.certMakesSpec) false w args)
   (Rows.certMakesSpec.post enc Tryd.prog Tryd.f3 false true false false):=by
 refine returnsInHanded_of_change_and (C:=Tryd.checked) (X:=fun w _=>laidMetH Tryd.prog laid3 w) (fun _ _ _ hh h=>h.of_heap hh) own started (by kernel_rfl) Tryd.func3
  (ChangeSpec.witness_shaped (enc:=enc) (C:=Tryd.checked) (os:=os) (X:=fun w _=>laidMetH Tryd.prog laid3 w) false (World.doorLaid Tryd.prog 400 os) #[.int .i64 0,.slice none 0 0,.slice none 0 0] 8 rfl (World.shaped_of_RefB (by kernel_rfl) (by kernel_rfl)) (by kernel_rfl) (by kernel_rfl) (by kernel_rfl) (door_met os _)) ?_
 intro W base args ds gs before hval0 hW _ hsz hL _
 have hval : ∀ (j : Nat) t v,Tryd.f3.params[j]? = some t → args[j]? = some v → Value.okWide Tryd.prog W .any base t v:=hval0;have hW' : DataW.Whole enc Tryd.prog Tryd.f3.params.toList Rows.certMakesSpec.vars false W args.toList ds gs before:=hW;obtain ⟨p,q,hA0,hV,rfl,hfz,hnd⟩:=hW;have hA : DataW.TrodAll enc Tryd.prog W 0 (fun _=>true) true Tryd.f3.params.toList args.toList ds p:=hA0;rw [Tryd.params3] at hA hval;obtain ⟨v0,v1,v2,d0,d1,d2,p0,p1,p2,rfl,rfl,rfl,h0,h1,h2⟩:=trodAll_three hA;obtain ⟨rfl,rfl⟩:=trodVars_none hV;obtain ⟨n,rfl,rfl,rfl,_⟩:=open_int Tryd.underlying3 (hval 0 3 v0 rfl rfl) h0;obtain ⟨f1,hf1⟩:=h1;obtain ⟨A,x,c,e1,hs1⟩:=open_bytes hf1;obtain ⟨ba1,bl1,bc1,rfl⟩:=okWide_slice Tryd.underlying22 (hval 1 22 v1 rfl rfl)
 have hlen1 : bl1 ≤ 140737488355312:=by
  rcases DataW.trod_slice Tryd.underlying22 hf1 with ⟨e,_⟩ | ⟨a,len,cap,elems,rest,n,_,e,hx,_,_,_,hl,_⟩
  ·injection e with e
   injection e with _ e
   omega
  ·injection e with e
   injection e with _ e
   injection hx with hx _
   subst hx;have:=sized_slice hsz (j:=1) (t:=22) (e:=5) rfl rfl Tryd.underlying22;rw [show Tryd.checked.prog.bytesOf 5 = 1 by kernel_rfl,Nat.mul_one,List.length_map] at this
   have hrb : reachBytes ≤ 140737488351232:=by decide
   omega
 injection e1 with e1
 injection e1 with xa1 xb1 xc1
 subst xa1;subst xb1;subst xc1;obtain ⟨f2,hf2⟩:=h2;obtain ⟨A2,pl,c2,e2,hs2⟩:=open_rd (fe:=eP) (k:=3) Tryd.underlying23 (by kernel_rfl) (by decide) part_cells hf2;obtain ⟨ba2,bl2,bc2,rfl⟩:=okWide_slice Tryd.underlying23 (hval 2 23 v2 rfl rfl)
 injection e2 with e2
 injection e2 with xa2 xb2 xc2
 subst xa2;subst xb2;subst xc2;clear hA0 hval0;refine (spec_law (makes_S n x pl hlen1) ⟨of_laid hL,Rd.of_sl hs1,hs2⟩).mono fun e W' ⟨he,hb⟩=>?_;exact ⟨_,he,law_post (by kernel_rfl) rfl certMakes_types hW' rfl hb⟩

theorem certMakes_holds : Rows.CertMakesSaid :=
 OpenClaim.holds_of_wide 3 Tryd.f3 rfl rfl rfl rfl rfl rfl rfl ⟨rfl,rfl,rfl,rfl,rfl⟩ rfl rfl rfl rfl rfl (by kernel_rfl) Tryd.func3 (by kernel_rfl)
  (of_decide_eq_true (by kernel_rfl)) (by unfold Func.isWrapper; first | (rw [if_pos (by decide +kernel)]; kernel_rfl) | (rw [if_neg (by decide +kernel)]; exact ⟨rfl,rfl⟩))
  (fun os started H enc _=>certMakes_lifted os started H enc)

theorem certMakes_card_holds : Rows.CertMakesCardSaid :=
 Claim7.holds_tied_plain_at .later [] [.data,.data,.data] true Rows.certMakesCard.stood.harness false
  certMakes_holds (fun _ h=>by cases h) (by kernel_rfl) (fun _ h=>by cases h) certMakes_row_tie rfl ⟨rfl,rfl⟩ (by kernel_rfl) rfl
  (fun f fn hf hfn=>by
   obtain rfl : f = 3:=Option.some.inj ((show Tryd.prog.funcNamed "witan/witanlaw08.CertMakes" = some 3 by kernel_rfl).symm.trans hf) |>.symm;obtain rfl : fn = Tryd.f3:=(Option.some.inj (Tryd.func3.symm.trans hfn)).symm
   exact ⟨by kernel_rfl,fun j t ht=>by
    have hm:=Array.mem_of_getElem? ht
    have hall : (Tryd.f3.params.toList.all fun u=>!Tryd.prog.wantsStandIn u) = true:=by kernel_rfl
    have h2:=List.all_eq_true.1 hall t (Array.mem_toList_iff.2 hm)
    show Tryd.prog.wantsStandIn t = false
    simpa using h2⟩)
  (by kernel_rfl)
#print axioms certMakes_card_holds
end Go.Proofs.YtlcbhbahchiofaaDoor
