/-
  THE DOCUMENT'S OWN NUMBERS: Load, Add, Sub.
-/
import Derived.Test.YtchhkejgdcmicaaDoorNum
import Derived.Test.YtchhkejgdcmicaaDoorLent
import Derived.StillTailTactics
namespace Go.Proofs.YtchhkejgdcmicaaDoor
open Go.RowKit Go.IntWalk Nums

theorem Is_zeros16 : (Is (List.replicate 16 0)).toArray = #[.int .i64 0, .int .i64 0, .int .i64 0, .int .i64 0, .int .i64 0, .int .i64 0, .int .i64 0, .int .i64 0, .int .i64 0, .int .i64 0, .int .i64 0, .int .i64 0, .int .i64 0, .int .i64 0, .int .i64 0, .int .i64 0] := rfl

set_option maxRecDepth 100000 in
set_option maxHeartbeats 1000000 in
theorem load_any (b : List UInt8) (w : World) (hl : b.length = 32) :
    Calls Tryd.prog 13 #[.agg (By b).toArray] w fun e w' => e = .returned (.agg (Is (low b)).toArray) ∧ Below w.heap.size w w' := by
  obtain ⟨hj, hjV⟩ := V_join 16 b (by omega)
  have hlow := low_all hl
  go_enter Tryd.func13, Tryd.ntmps13
  go_wp2
  go_loopw [4] (fun i wr => ∃ k : Nat, k ≤ 16 ∧ i = .int .i64 k ∧ Blk wr w.heap.size 22 (By b).toArray ∧ Blk wr (w.heap.size + 1) 30 (Is (List.replicate 16 0)).toArray ∧ Blk wr (w.heap.size + 1 + 1) 30 (Is (fil (join b) 16 k)).toArray ∧ Below w.heap.size w wr) (fun i _ => 16 - (intOf i).toNat)
  case atStart =>
    refine ⟨0, by omega, rfl, blk3_0 w _ _ _ _, blk3_1 w _ _ _ _, ?_, (((Below.refl _ _).alloc (Nat.le_refl _) _).alloc (by simp) _).alloc (by simp; omega) _⟩
    rw [fil_zero]
    exact blk3_2 w _ _ _ _
  case round =>
    obtain ⟨k, hk, rfl, h0, h1, h2, hbel⟩ := hrel
    by_cases hlt : k < 16
    · have hN := fil_next (l := join b) (n := 16) (k := k) hj hlt (join_get k b (by omega)).symm
      have c1 := (h0.drew.cell (2 * k)).trans (By_get (by omega))
      have c2 := (h0.drew.cell (2 * k + 1)).trans (By_get (by omega))
      have b1 := (b[2*k]!).toNat_lt
      have b2 := (b[2*k+1]!).toNat_lt
      have hf := h2.drew.free k
      have hc := (h2.drew.cell k).trans (Is_at (by rw [fil_len hj (by omega)]; omega))
      generalize (b[2*k]!).toNat = x at *
      generalize (b[2*k+1]!).toNat = y at *
      have q1 : IntKind.i64.wrap (2 * (k : Int)) = ((2 * k : Nat) : Int) := by rw [i64_left, wrap64_in _ (by omega)]; omega
      have q2 : IntKind.i64.wrap (((2 * k : Nat) : Int) + 1) = ((2 * k + 1 : Nat) : Int) := by rw [i64_left, wrap64_in _ (by omega)]; omega
      have q3 : ((2 * k : Nat) : Int) < 32 := by omega
      have q4 : ((2 * k + 1 : Nat) : Int) < 32 := by omega
      have q5 : (0 : Int) ≤ ((2 * k : Nat) : Int) := by omega
      have q6 : (0 : Int) ≤ ((2 * k + 1 : Nat) : Int) := by omega
      have q7 : IntKind.i64.wrap (x : Int) = (x : Int) := by rw [i64_left, wrap64_in _ (by omega)]
      have q8 : IntKind.i64.wrap (y : Int) = (y : Int) := by rw [i64_left, wrap64_in _ (by omega)]
      have q9 : IntKind.i64.wrap (256 * (y : Int)) = 256 * (y : Int) := by rw [i64_left, wrap64_in _ (by omega)]
      have q10 : IntKind.i64.wrap ((x : Int) + 256 * (y : Int)) = (x : Int) + 256 * (y : Int) := by rw [i64_left, wrap64_in _ (by omega)]
      have HK := Lib.hid (And.intro h0 (And.intro h1 (And.intro h2 (And.intro hbel hN))))
      clear h0 h1 h2 hbel hN
      generalize 2 * k + 1 = m at *
      generalize 2 * k = j at *
      go_wp2
      go_still_tail 14, (by kernel_rfl)
      go_wp2
      go_roundw
      case rel =>
        obtain ⟨h0, h1, h2, hbel, hN⟩ := HK.out
        have h3 := h2.set k (.int .i64 ((x : Int) + 256 * (y : Int)))
        rw [Is_set, hN] at h3
        exact ⟨k + 1, by omega, by go_num, h0.far (by simp; omega) _, h1.far (by simp) _, h3, (hbel.setCell (by simp; omega) _).drew⟩
      case measure => simp [intOf]; omega
    · obtain rfl : k = 16 := by omega
      rw [fil_all hj] at h2
      have hd := join_small b (join b)[15]! (by rw [getElem!_pos _ 15 (by omega)]; exact List.getElem_mem _)
      have hc := (h2.cell 15).trans (Is_at (by omega))
      have hf := h2.free 15
      have hL : (join b).set 15 ((join b)[15]! % 32768) = low b := rfl
      generalize (join b)[15]! = d at *
      have h3 := h2.set 15 (.int .i64 (d % 32768))
      rw [Is_set, hL] at h3
      have h4 : Blk (wr.setCell ⟨w.heap.size + 1 + 1, 15, none⟩ (.int .i64 (d % 32768))) (w.heap.size + 1) 30 _ := h1.far (by simp) _
      have hz : (Is (low b)).toArray.size = 16 := by rw [List.size_toArray, Is_len, hlow.1]
      have hz0 : (Is (List.replicate 16 0)).toArray.size = (Is (low b)).toArray.size := by rw [hz]; rfl
      have hbe : Below w.heap.size w (wr.setCell ⟨w.heap.size + 1 + 1, 15, none⟩ (.int .i64 (d % 32768))) := hbel.setCell (by simp; omega) _
      go_wp2_with (first
        | (refine wpList_load_row rfl 30 _ rfl (w.heap.size + 1 + 1) rfl 30 (Is (low b)).toArray (0, 0) _ h3 Tryd.underlying30 rfl (size_num _ hz) ?_)
        | (refine wpList_store_row rfl 30 _ _ rfl (w.heap.size + 1) rfl (Is (low b)).toArray rfl 30 _ h4 (size_num _ hz) hz0 (Is_one _) ?_))
      refine bodyPost_ret (results_cell_row rfl _ _ (w.heap.size + 1) 30 (Is (low b)).toArray (0, 0) _ rfl (h4.row _) Tryd.underlying30 rfl (size_num _ hz)) rfl ⟨rfl, ?_⟩
      exact below_setRow hbe (by omega) _
end Go.Proofs.YtchhkejgdcmicaaDoor
