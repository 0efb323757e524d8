/-
  THE PROGRAM'S SCALARS: sum: four words and four words, modulo 2^256.
-/
import Derived.Test.YthejahhhmkkhoaaSub64
import Derived.Test.YthejahhhmkkhoaaWs
import Derived.StillTailTactics
namespace Go.Proofs.Ythejahhhmkkhoaa
open Go.RowKit Go.IntWalk Nums

theorem size_w4 (cs : Array Value) (h : cs.size = 4) : (Try.prog.info? 25).map (·.size) = some cs.size := by
  rw [h]
  kernel_rfl
theorem size_sc (cs : Array Value) (h : cs.size = 4) : (Try.prog.info? 27).map (·.size) = some cs.size := by
  rw [h]
  kernel_rfl
def z4 : Array Value := (Us [0, 0, 0, 0]).toArray
theorem len_u4 {l : List Nat} (h : l.length = 4) : (Us l).toArray.size = 4 := by rw [List.size_toArray, Us_len, h]

set_option maxRecDepth 100000 in
set_option maxHeartbeats 1000000 in
theorem wsum_f {A B : Nat} (hA : A < 115792089237316195423570985008687907853269984665640564039457584007913129639936) (hB : B < 115792089237316195423570985008687907853269984665640564039457584007913129639936) (w : World) :
    Calls Try.prog 22 #[.agg (Us (ws A)).toArray, .agg (Us (ws B)).toArray] w fun e w' => e = .returned (.agg (Us (ws ((A + B) % 115792089237316195423570985008687907853269984665640564039457584007913129639936))).toArray) ∧ Below w.heap.size w w' := by
  rw [← sum_ws hA hB]
  have ha := fun k => ws_get_lt A (k := k)
  have hb := fun k => ws_get_lt B (k := k)
  have la := ws_len A
  have lb := ws_len B
  have hc := sup_le ha hb
  clear hA hB
  generalize ws A = a at *
  generalize ws B = b at *
  go_enter Try.func22, Try.ntmps22
  go_wp2
  go_loopw [7, 5] (fun i u wr => ∃ k : Nat, k ≤ 4 ∧ i = .int .i64 k ∧ u = .int .u64 (sup a b k : Nat) ∧ Blk wr w.heap.size 25 (Us (mxl (swd a b) a k)).toArray ∧ Blk wr (w.heap.size + 1) 25 (Us b).toArray ∧ Blk wr (w.heap.size + 1 + 1) 25 z4 ∧ Below w.heap.size w wr) (fun i _ _ => 4 - (intOf i).toNat)
  case atStart =>
    refine ⟨0, by omega, rfl, rfl, ?_, blk3_1 w _ _ _ _, blk3_2 w _ _ _ _, (((Below.refl _ _).alloc (Nat.le_refl _) _).alloc (by simp) _).alloc (by simp; omega) _⟩
    rw [mxl_zero]
    exact blk3_0 w _ _ _ _
  case round =>
    obtain ⟨k, hk, rfl, rfl, h0, h1, h2, hbel⟩ := hrel
    by_cases hlt : k < 4
    · have hN := mxl_set (swd a b) a (k := k)
      have hU : sup a b (k + 1) = (a[k]! + b[k]! + sup a b k) / 18446744073709551616 := rfl
      have hS : swd a b k = (a[k]! + b[k]! + sup a b k) % 18446744073709551616 := rfl
      have hg := mxl_get (swd a b) a (k := k) (by omega)
      have c0 := (h0.drew.cell k).trans (Us_at (by rw [mxl_len]; omega))
      rw [hg] at c0
      have c1 := (h1.drew.cell k).trans (Us_at (by omega))
      have b0 := ha k hlt
      have b1 := hb k hlt
      have b2 := hc k (by omega)
      have hf := h0.drew.free k
      rw [hS] at hN
      generalize a[k]! = u at *
      generalize b[k]! = v at *
      generalize sup a b k = c at *
      have hA := add64_run u v c b2
      have q2 : (0 : Int) ≤ (k : Int) := by omega
      have HK := Lib.hid (And.intro h0 (And.intro h1 (And.intro h2 (And.intro hbel (And.intro hN hU)))))
      clear h0 h1 h2 hbel hN hg hU hS ha hb hc
      generalize (u + v + c) % 18446744073709551616 = s at *
      generalize (u + v + c) / 18446744073709551616 = t at *
      go_wp2
      go_region_with (simp only [hA])
      all_goals (
        go_wp2
        go_roundw
        case rel =>
          obtain ⟨h0, h1, h2, hbel, hN, hU⟩ := HK.out
          have h4 := h0.set k (.int .u64 ((s : Nat) : Int))
          rw [Us_set, hN] at h4
          exact ⟨k + 1, by omega, by go_num, by rw [hU], h4, h1.far (by simp) _, h2.far (by simp; omega) _, (hbel.setCell (by simp) _).drew⟩
        case measure => simp [intOf]; omega)
    · obtain rfl : k = 4 := by omega
      have hz : (Us (mxl (swd a b) a 4)).toArray.size = 4 := len_u4 (by rw [mxl_len, la])
      go_wp2_with (first
        | (refine wpList_load_row rfl 25 _ rfl w.heap.size rfl 25 (Us (mxl (swd a b) a 4)).toArray (0, 0) _ h0 Try.underlying25 rfl (size_w4 _ hz) ?_)
        | (refine wpList_store_row rfl 25 _ _ rfl (w.heap.size + 1 + 1) rfl (Us (mxl (swd a b) a 4)).toArray rfl 25 _ h2 (size_w4 _ hz) (by rw [hz]; rfl) (Us_one _) ?_))
      refine bodyPost_ret (results_cell_row rfl _ _ (w.heap.size + 1 + 1) 25 (Us (mxl (swd a b) a 4)).toArray (0, 0) _ rfl (h2.row _) Try.underlying25 rfl (size_w4 _ hz)) rfl ⟨rfl, ?_⟩
      exact below_setRow hbel (by omega) _
end Go.Proofs.Ythejahhhmkkhoaa
