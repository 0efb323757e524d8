/-
  PROVED: CertBytes answers true for every certificate and every bytes that are together of bulk at most 1048576: what certificates' bytes are, what every bytes are read as, and that what is read is written so again. Condition: that bound (the statement '..UptoCardSaid'), and the row's own: the three tables lie as the program's text lays them (the card ties it); without the bound a body and 72 bytes for each signer add up to more bytes than a slice can have.
-/
import Derived.Test.YtlcbhbahchiofaaGreatDoorMp
import Derived.Deep.DeepHandedRow
import Derived.Deep.DeepWitnessRowRef
import Derived.JoinedCond
namespace Go.Proofs.YtlcbhbahchiofaaGreatDoor
open Go.RowKit Go.IntWalk Nums
open Go.ChangeShapes Go.WideShapes Go.ChangeAt

theorem certBytes_types : ∀ t ∈ Tryz.f3.params.toList,Tryz.prog.readableRec t = true ∧ t < Tryz.prog.types.size:=by
 have h : Tryz.f3.params.toList.all (fun t=>Tryz.prog.readableRec t && decide (t < Tryz.prog.types.size)) = true:=by kernel_rfl
 intro t ht
 have:=List.all_eq_true.1 h t ht
 simpa using this

set_option maxRecDepth 100000 in
theorem certBytes_contract (H : Type) (enc : TypeId × Value → H) (W : World) (base : Nat) (args : Array Value) (ds gs : List (DataW H)) (before : List MemPlace)
  (hval0 : ∀ (j : Nat) t v,Tryz.f3.params[j]? = some t → args[j]? = some v → Value.okWide Tryz.prog W .any base t v)
  (hW : DataW.Whole enc Tryz.prog Tryz.f3.params.toList Rows.certBytesSpec.vars false W args.toList ds gs before) (hL : laidMetH Tryz.prog laid3 W) (hk : Rows.uptoSmall H (ds ++ gs) = true) :
  Calls Tryz.prog 3 args W fun e W'=>∃ v,e = .returned v ∧ Rows.certBytesSpec.post enc Tryz.prog Tryz.f3 false true false false W args v W':=by
 have hval : ∀ (j : Nat) t v,Tryz.f3.params[j]? = some t → args[j]? = some v → Value.okWide Tryz.prog W .any base t v:=hval0;have hW' : DataW.Whole enc Tryz.prog Tryz.f3.params.toList Rows.certBytesSpec.vars false W args.toList ds gs before:=hW;obtain ⟨p,q,hA0,hV,rfl,hfz,hnd⟩:=hW;have hA : DataW.TrodAll enc Tryz.prog W 0 (fun _=>true) true Tryz.f3.params.toList args.toList ds p:=hA0;rw [Tryz.params3] at hA hval;obtain ⟨v0,v1,d0,d1,p0,p1,rfl,rfl,rfl,h0,h1⟩:=trodAll_two hA;obtain ⟨rfl,rfl⟩:=trodVars_none hV;obtain ⟨ci,cv,rfl,hcf,hb0,hb1⟩:=cert_open (hval 0 26 v0 rfl rfl) h0;obtain ⟨f1,hf1⟩:=h1;obtain ⟨A,l,c,e1,hs1⟩:=open_bytes hf1;obtain ⟨ba1,bl1,bc1,rfl⟩:=okWide_slice Tryz.underlying22 (hval 1 22 v1 rfl rfl);have hb2:=slice_bulk Tryz.underlying22 hf1
 injection e1 with e1
 injection e1 with xa1 xb1 xc1
 subst xa1;subst xb1;subst xc1;have hbulk : Rows.uptoBulkAll [d0,d1] ≤ 1048576:=of_decide_eq_true hk;simp only [Rows.uptoBulkAll] at hbulk;clear hA0 hval0;refine (spec_law (lbytes_S ci cv l (by omega) (by simp only at hb2; omega)) ⟨of_laid hL,hcf,Rd.of_sl hs1⟩).mono fun e W' ⟨he,hb⟩=>?_;exact ⟨_,he,law_post (by kernel_rfl) rfl certBytes_types hW' rfl hb⟩

theorem certBytes_reads (os : Os) {H : Type} (enc : TypeId × Value → H) : ∃ places,DataW.whole enc Tryz.prog ((World.doorLaid Tryz.prog 400 os).forCall (fun _ _=>0) ⟨#[],#[.agg #[.slice none 0 0,.slice none 0 0,.slice none 0 0],.slice none 0 0],[]⟩).memory Tryz.f3.params.toList Rows.certBytesSpec.vars false #[Value.agg #[.slice none 0 0,.slice none 0 0,.slice none 0 0],.slice none 0 0].toList 8 = some ([.agg [.nil,.nil,.nil],.nil],[],places) :=
 ⟨[],by kernel_rfl⟩

set_option maxRecDepth 100000 in
theorem certBytes_lifted (os : Os) (started : os.Started) (H : Type) (enc : TypeId × Value → H) (F : Stop.Interp) :
  ReturnsInHanded {} Tryz.checked os 3 .any ((Rows.OpenSpec.upto Rows.certBytesSpec).preRow enc Tryz.prog Tryz.f3 Rows.certBytesUptoRow.domain false Rows.certBytesUptoRow.laid) (((Rows.OpenSpec.upto Rows.certBytesSpec).at F).post enc Tryz.prog Tryz.f3 false true false false):=by
 obtain ⟨places,hx⟩:=certBytes_reads os enc
 refine returnsInHanded_of_row (C:=Tryz.checked) (s:=Rows.OpenSpec.upto Rows.certBytesSpec) own started (by kernel_rfl) Tryz.func3
  (witness_row_atRef (enc:=enc) (C:=Tryz.checked) false (World.doorLaid Tryz.prog 400 os) #[.agg #[.slice none 0 0,.slice none 0 0,.slice none 0 0],.slice none 0 0] rfl (by kernel_rfl) (by kernel_rfl) (by kernel_rfl)
   (OpenSpec.preRow_of_cond 8 hx (by kernel_rfl) (fun k hk=>by cases hk; kernel_rfl) (by kernel_rfl) (door_met os _))) ?_
 intro W base args ds gs before hval hW _ hcond _ hL _ _
 exact certBytes_contract H enc W base args ds gs before hval hW hL (hcond _ rfl)

theorem certBytes_holds : Rows.CertBytesUptoSaid :=
 OpenClaim.holds_of_cond 3 Tryz.f3 rfl rfl rfl rfl rfl rfl rfl ⟨rfl,rfl,rfl,rfl,rfl⟩ rfl rfl rfl rfl rfl (by kernel_rfl) Tryz.func3 (by kernel_rfl)
  (of_decide_eq_true (by kernel_rfl)) (by unfold Func.isWrapper; first | (rw [if_pos (by decide +kernel)]; kernel_rfl) | (rw [if_neg (by decide +kernel)]; exact ⟨rfl,rfl⟩))
  (fun os started H enc _ F=>by rw [OpenClaim.pre_eq_preRow]; exact certBytes_lifted os started H enc F)

theorem certBytes_card_holds : Rows.CertBytesUptoCardSaid :=
 Claim7.holds_tied_plain_at .later [] [.data,.data,.data] true Rows.certBytesUptoCard.stood.harness false
  certBytes_holds (fun _ h=>by cases h) (by kernel_rfl) (fun _ h=>by cases h) certBytesUpto_row_tie rfl ⟨rfl,rfl⟩ (by kernel_rfl) rfl
  (fun f fn hf hfn=>by
   obtain rfl : f = 3:=Option.some.inj ((show Tryz.prog.funcNamed "witan/witanlaw08.CertBytes" = some 3 by kernel_rfl).symm.trans hf) |>.symm;obtain rfl : fn = Tryz.f3:=(Option.some.inj (Tryz.func3.symm.trans hfn)).symm
   exact ⟨by kernel_rfl,fun j t ht=>by
    have hm:=Array.mem_of_getElem? ht
    have hall : (Tryz.f3.params.toList.all fun u=>!Tryz.prog.wantsStandIn u) = true:=by kernel_rfl
    have h2:=List.all_eq_true.1 hall t (Array.mem_toList_iff.2 hm)
    show Tryz.prog.wantsStandIn t = false
    simpa using h2⟩)
  (by kernel_rfl)
#print axioms certBytes_card_holds
end Go.Proofs.YtlcbhbahchiofaaGreatDoor
