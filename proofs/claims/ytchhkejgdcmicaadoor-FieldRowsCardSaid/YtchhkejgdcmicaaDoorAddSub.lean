/-
  THE DOCUMENT'S OWN NUMBERS: Add, Sub.
-/
import Derived.Test.YtchhkejgdcmicaaDoorLoad
namespace Go.Proofs.YtchhkejgdcmicaaDoor
open Go.RowKit Go.IntWalk Nums

set_option maxRecDepth 100000 in
set_option maxHeartbeats 1000000 in
theorem add_any (a b : List Int) (w : World) (ha : a.length = 16) (hb : b.length = 16) (hba : Bnd 2305843009213693952 a) (hbb : Bnd 2305843009213693952 b) :
    Calls Tryd.prog 17 #[.agg (Is a).toArray, .agg (Is b).toArray] w fun e w' => e = .returned (.agg (Is (adds a b)).toArray) ∧ Below w.heap.size w w' := by
  have hlo := adds_len ha hb
  go_enter Tryd.func17, Tryd.ntmps17
  go_wp2
  go_loopw [6, 7] (fun _ i wr => ∃ k : Nat, k ≤ 16 ∧ i = .int .i64 k ∧ Blk wr w.heap.size 30 (Is a).toArray ∧ Blk wr (w.heap.size + 1) 30 (Is b).toArray ∧ Blk wr (w.heap.size + 1 + 1) 30 (Is (List.replicate 16 0)).toArray ∧ Blk wr (w.heap.size + 1 + 1 + 1) 30 (Is (fil (adds a b) 16 k)).toArray ∧ Below w.heap.size w wr) (fun _ i _ => 16 - (intOf i).toNat)
  case atStart =>
    refine ⟨0, by omega, rfl, blk4_0 w _ _ _ _ _, blk4_1 w _ _ _ _ _, blk4_2 w _ _ _ _ _, ?_, below4 _ _ _ _ _⟩
    rw [fil_zero]
    exact blk4_3 w _ _ _ _ _
  case round =>
    obtain ⟨k, hk, rfl, h0, h1, h2, h3, hbel⟩ := hrel
    by_cases hlt : k < 16
    · have hN := fil_next (l := adds a b) (n := 16) (k := k) hlo hlt (adds_get (by omega) (by omega)).symm
      have c1 := (h0.drew.cell k).trans (Is_at (by omega))
      have c2 := (h1.drew.cell k).trans (Is_at (by omega))
      have b1 := bnd_get hba (k := k) (by omega)
      have b2 := bnd_get hbb (k := k) (by omega)
      have hf := h3.drew.free k
      have hc := (h3.drew.cell k).trans (Is_at (by rw [fil_len hlo (by omega)]; omega))
      generalize a[k]! = x at *
      generalize b[k]! = y at *
      have q1 : IntKind.i64.wrap (x + y) = x + y := by rw [i64_left, wrap64_in _ (by omega)]
      have q2 : (0 : Int) ≤ (k : Int) := by omega
      have HK := Lib.hid (And.intro h0 (And.intro h1 (And.intro h2 (And.intro h3 (And.intro hbel hN)))))
      clear h0 h1 h2 h3 hbel hN
      go_wp2
      go_still_tail 8, (by kernel_rfl)
      go_wp2
      go_roundw
      case rel =>
        obtain ⟨h0, h1, h2, h3, hbel, hN⟩ := HK.out
        have h4 := h3.set k (.int .i64 (x + y))
        rw [Is_set, hN] at h4
        exact ⟨k + 1, by omega, by go_num, h0.far (by simp <;> omega) _, h1.far (by simp <;> omega) _, h2.far (by simp) _, h4, (hbel.setCell (by simp; omega) _).drew⟩
      case measure => simp [intOf]; omega
    · obtain rfl : k = 16 := by omega
      rw [fil_all hlo] at h3
      have hz : (Is (adds a b)).toArray.size = 16 := by rw [List.size_toArray, Is_len, hlo]
      have hz0 : (Is (List.replicate 16 0)).toArray.size = (Is (adds a b)).toArray.size := by rw [hz]; rfl
      go_wp2_with (first
        | (refine wpList_load_row rfl 30 _ rfl (w.heap.size + 1 + 1 + 1) rfl 30 (Is (adds a b)).toArray (0, 0) _ h3 Tryd.underlying30 rfl (size_num _ hz) ?_)
        | (refine wpList_store_row rfl 30 _ _ rfl (w.heap.size + 1 + 1) rfl (Is (adds a b)).toArray rfl 30 _ h2 (size_num _ hz) hz0 (Is_one _) ?_))
      refine bodyPost_ret (results_cell_row rfl _ _ (w.heap.size + 1 + 1) 30 (Is (adds a b)).toArray (0, 0) _ rfl (h2.row _) Tryd.underlying30 rfl (size_num _ hz)) rfl ⟨rfl, ?_⟩
      exact below_setRow hbel (by omega) _

set_option maxRecDepth 100000 in
set_option maxHeartbeats 1000000 in
theorem sub_any (a b : List Int) (w : World) (ha : a.length = 16) (hb : b.length = 16) (hba : Bnd 2305843009213693952 a) (hbb : Bnd 2305843009213693952 b) :
    Calls Tryd.prog 19 #[.agg (Is a).toArray, .agg (Is b).toArray] w fun e w' => e = .returned (.agg (Is (subs a b)).toArray) ∧ Below w.heap.size w w' := by
  have hlo := subs_len ha hb
  go_enter Tryd.func19, Tryd.ntmps19
  go_wp2
  go_loopw [6, 7] (fun _ i wr => ∃ k : Nat, k ≤ 16 ∧ i = .int .i64 k ∧ Blk wr w.heap.size 30 (Is a).toArray ∧ Blk wr (w.heap.size + 1) 30 (Is b).toArray ∧ Blk wr (w.heap.size + 1 + 1) 30 (Is (List.replicate 16 0)).toArray ∧ Blk wr (w.heap.size + 1 + 1 + 1) 30 (Is (fil (subs a b) 16 k)).toArray ∧ Below w.heap.size w wr) (fun _ i _ => 16 - (intOf i).toNat)
  case atStart =>
    refine ⟨0, by omega, rfl, blk4_0 w _ _ _ _ _, blk4_1 w _ _ _ _ _, blk4_2 w _ _ _ _ _, ?_, below4 _ _ _ _ _⟩
    rw [fil_zero]
    exact blk4_3 w _ _ _ _ _
  case round =>
    obtain ⟨k, hk, rfl, h0, h1, h2, h3, hbel⟩ := hrel
    by_cases hlt : k < 16
    · have hN := fil_next (l := subs a b) (n := 16) (k := k) hlo hlt (subs_get (by omega) (by omega)).symm
      have c1 := (h0.drew.cell k).trans (Is_at (by omega))
      have c2 := (h1.drew.cell k).trans (Is_at (by omega))
      have b1 := bnd_get hba (k := k) (by omega)
      have b2 := bnd_get hbb (k := k) (by omega)
      have hf := h3.drew.free k
      have hc := (h3.drew.cell k).trans (Is_at (by rw [fil_len hlo (by omega)]; omega))
      generalize a[k]! = x at *
      generalize b[k]! = y at *
      have q1 : IntKind.i64.wrap (x - y) = x - y := by rw [i64_left, wrap64_in _ (by omega)]
      have q2 : (0 : Int) ≤ (k : Int) := by omega
      have HK := Lib.hid (And.intro h0 (And.intro h1 (And.intro h2 (And.intro h3 (And.intro hbel hN)))))
      clear h0 h1 h2 h3 hbel hN
      go_wp2
      go_still_tail 8, (by kernel_rfl)
      go_wp2
      go_roundw
      case rel =>
        obtain ⟨h0, h1, h2, h3, hbel, hN⟩ := HK.out
        have h4 := h3.set k (.int .i64 (x - y))
        rw [Is_set, hN] at h4
        exact ⟨k + 1, by omega, by go_num, h0.far (by simp <;> omega) _, h1.far (by simp <;> omega) _, h2.far (by simp) _, h4, (hbel.setCell (by simp; omega) _).drew⟩
      case measure => simp [intOf]; omega
    · obtain rfl : k = 16 := by omega
      rw [fil_all hlo] at h3
      have hz : (Is (subs a b)).toArray.size = 16 := by rw [List.size_toArray, Is_len, hlo]
      have hz0 : (Is (List.replicate 16 0)).toArray.size = (Is (subs a b)).toArray.size := by rw [hz]; rfl
      go_wp2_with (first
        | (refine wpList_load_row rfl 30 _ rfl (w.heap.size + 1 + 1 + 1) rfl 30 (Is (subs a b)).toArray (0, 0) _ h3 Tryd.underlying30 rfl (size_num _ hz) ?_)
        | (refine wpList_store_row rfl 30 _ _ rfl (w.heap.size + 1 + 1) rfl (Is (subs a b)).toArray rfl 30 _ h2 (size_num _ hz) hz0 (Is_one _) ?_))
      refine bodyPost_ret (results_cell_row rfl _ _ (w.heap.size + 1 + 1) 30 (Is (subs a b)).toArray (0, 0) _ rfl (h2.row _) Tryd.underlying30 rfl (size_num _ hz)) rfl ⟨rfl, ?_⟩
      exact below_setRow hbel (by omega) _

end Go.Proofs.YtchhkejgdcmicaaDoor
