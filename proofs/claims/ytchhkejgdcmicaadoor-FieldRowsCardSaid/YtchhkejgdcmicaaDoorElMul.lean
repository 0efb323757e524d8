/-
  THE FIELD'S NUMBERS: Mul.
-/
import Derived.Test.YtchhkejgdcmicaaDoorElSteps
import Derived.Test.YtchhkejgdcmicaaDoorCalls
namespace Go.Proofs.YtchhkejgdcmicaaDoor
open Go.RowKit Go.IntWalk Nums

set_option maxRecDepth 100000 in
set_option maxHeartbeats 2000000 in
theorem elmul_f {a b : List Nat} {x y : F} (ha : EB a x) (hb : EB b y) (w : World) :
    Calls Tryd.prog 20 #[.agg (Us a).toArray, .agg (Us b).toArray] w fun e w' => ∃ r, EB r (x * y) ∧ e = .returned (.agg (Us r).toArray) ∧ Below w.heap.size w w' := by
  obtain ⟨b0, b1, b2, b3, b4, rfl, r0, r1, r2, r3, r4, rv⟩ := hb.five
  have e0 : (Us [b0, b1, b2, b3, b4]).toArray = #[.int .u64 (b0 : Int), .int .u64 (b1 : Int), .int .u64 (b2 : Int), .int .u64 (b3 : Int), .int .u64 (b4 : Int)] := rfl
  rw [e0]
  go_enter Tryd.func20, Tryd.ntmps20
  go_wp2
  go_region
  go_wp2
  go_loopw [32, 5, 6, 7, 8, 9] (fun i v5 v6 v7 v8 v9 wr => ∃ k : Nat, k ≤ 5 ∧ i = .int .i64 k ∧ ∃ c0 c1 c2 c3 c4 s0 s1 s2 s3 s4 : Nat, v5 = .int .u64 c0 ∧ v6 = .int .u64 c1 ∧ v7 = .int .u64 c2 ∧ v8 = .int .u64 c3 ∧ v9 = .int .u64 c4 ∧ MM a y k c0 c1 c2 c3 c4 s0 s1 s2 s3 s4 ∧ MSt w wr a s0 s1 s2 s3 s4) (fun i _ _ _ _ _ _ => 5 - (intOf i).toNat)
  case atStart =>
    exact ⟨0, by omega, rfl, b0, b1, b2, b3, b4, 0, 0, 0, 0, 0, rfl, rfl, rfl, rfl, rfl, MM.start r0 r1 r2 r3 r4 rv, mst_start w a _⟩
  case round =>
    obtain ⟨k, hk, rfl, c0, c1, c2, c3, c4, s0, s1, s2, s3, s4, rfl, rfl, rfl, rfl, rfl, hM, hS⟩ := hrel
    by_cases hlt : k < 5
    · have hN := hM.next ha hlt
      have hd := (hS.ba.cell k).trans (Us_at (by rw [ha.len]; exact hlt))
      have hv := eb_get ha hlt
      obtain ⟨g0, g1, g2, g3, g4, u4, t0, t1, t2, t3, t4⟩ : c0 < 42784196465000448 ∧ c1 < 42784196465000448 ∧ c2 < 42784196465000448 ∧ c3 < 42784196465000448 ∧ c4 < 42784196465000448 ∧ c4 < 2251799813947392 ∧ s0 < 41538374868278621028243970633760768 ∧ s1 < 41538374868278621028243970633760768 ∧ s2 < 41538374868278621028243970633760768 ∧ s3 < 41538374868278621028243970633760768 ∧ s4 < 41538374868278621028243970633760768 := by
        obtain ⟨_, _, g0, g1, g2, g3, g4, u0, u1, u2, u3, u4, t0, t1, t2, t3, t4⟩ := hM
        exact ⟨g0, g1, g2, g3, g4, u4 (by omega), by omega, by omega, by omega, by omega, by omega⟩
      have p0 := prod_le hv g0
      have p1 := prod_le hv g1
      have p2 := prod_le hv g2
      have p3 := prod_le hv g3
      have p4 := prod_le hv g4
      generalize a[k]! = v at *
      have HP0 := fun w1 => Lib.hid (plus_f s0 v c0 (by omega) (by omega) (by omega) w1)
      have HP1 := fun w1 => Lib.hid (plus_f s1 v c1 (by omega) (by omega) (by omega) w1)
      have HP2 := fun w1 => Lib.hid (plus_f s2 v c2 (by omega) (by omega) (by omega) w1)
      have HP3 := fun w1 => Lib.hid (plus_f s3 v c3 (by omega) (by omega) (by omega) w1)
      have HP4 := fun w1 => Lib.hid (plus_f s4 v c4 (by omega) (by omega) (by omega) w1)
      have HN := Lib.hid hN
      have q1 : IntKind.u64.wrap (19 * (c4 : Int)) = ((19 * c4 : Nat) : Int) := by rw [IntKind.wrap_u64]; omega
      have q2 : (0 : Int) ≤ (k : Int) := by omega
      clear hN hM p0 p1 p2 p3 p4 g0 g1 g2 g3 g4 u4 t0 t1 t2 t3 t4 hv rv r0 r1 r2 r3 r4 hb
      generalize s0 + v * c0 = n0 at *
      generalize s1 + v * c1 = n1 at *
      generalize s2 + v * c2 = n2 at *
      generalize s3 + v * c3 = n3 at *
      generalize s4 + v * c4 = n4 at *
      generalize 19 * c4 = d at *
      have hk0 := hS.k0
      have HS := Lib.hid hS
      clear hS
      go_wp2_with (refine wpList_load_row rfl 54 _ rfl (w.heap.size + 1 + 1 + 1) rfl 54 (W2 s0) (0, 0) _ hk0 Tryd.underlying54 rfl (size_sum _ (W2_size _)) ?_)
      refine (HP0 _).out.mono ?_
      rintro e w1 ⟨rfl, hw⟩
      have hS := HS.out.step hw
      have hk := hS.k0
      have hS2 := hS.set0 n0
      have hk2 := hS2.k1
      clear HS hw hS
      have HS := Lib.hid hS2
      clear hS2
      go_wp2_with (first
        | (refine wpList_store_row rfl 54 _ _ rfl (w.heap.size + 1 + 1 + 1) rfl (W2 n0) rfl 54 _ hk (size_sum _ (W2_size _)) rfl (W2_one _) ?_)
        | (refine wpList_load_row rfl 54 _ rfl (w.heap.size + 1 + 1 + 1 + 1) rfl 54 (W2 s1) (0, 0) _ hk2 Tryd.underlying54 rfl (size_sum _ (W2_size _)) ?_))
      clear hk hk2
      refine (HP1 _).out.mono ?_
      rintro e w2 ⟨rfl, hw⟩
      have hS := HS.out.step hw
      have hk := hS.k1
      have hS2 := hS.set1 n1
      have hk2 := hS2.k2
      clear HS hw hS
      have HS := Lib.hid hS2
      clear hS2
      go_wp2_with (first
        | (refine wpList_store_row rfl 54 _ _ rfl (w.heap.size + 1 + 1 + 1 + 1) rfl (W2 n1) rfl 54 _ hk (size_sum _ (W2_size _)) rfl (W2_one _) ?_)
        | (refine wpList_load_row rfl 54 _ rfl (w.heap.size + 1 + 1 + 1 + 1 + 1) rfl 54 (W2 s2) (0, 0) _ hk2 Tryd.underlying54 rfl (size_sum _ (W2_size _)) ?_))
      clear hk hk2
      refine (HP2 _).out.mono ?_
      rintro e w3 ⟨rfl, hw⟩
      have hS := HS.out.step hw
      have hk := hS.k2
      have hS2 := hS.set2 n2
      have hk2 := hS2.k3
      clear HS hw hS
      have HS := Lib.hid hS2
      clear hS2
      go_wp2_with (first
        | (refine wpList_store_row rfl 54 _ _ rfl (w.heap.size + 1 + 1 + 1 + 1 + 1) rfl (W2 n2) rfl 54 _ hk (size_sum _ (W2_size _)) rfl (W2_one _) ?_)
        | (refine wpList_load_row rfl 54 _ rfl (w.heap.size + 1 + 1 + 1 + 1 + 1 + 1) rfl 54 (W2 s3) (0, 0) _ hk2 Tryd.underlying54 rfl (size_sum _ (W2_size _)) ?_))
      clear hk hk2
      refine (HP3 _).out.mono ?_
      rintro e w4 ⟨rfl, hw⟩
      have hS := HS.out.step hw
      have hk := hS.k3
      have hS2 := hS.set3 n3
      have hk2 := hS2.k4
      clear HS hw hS
      have HS := Lib.hid hS2
      clear hS2
      go_wp2_with (first
        | (refine wpList_store_row rfl 54 _ _ rfl (w.heap.size + 1 + 1 + 1 + 1 + 1 + 1) rfl (W2 n3) rfl 54 _ hk (size_sum _ (W2_size _)) rfl (W2_one _) ?_)
        | (refine wpList_load_row rfl 54 _ rfl (w.heap.size + 1 + 1 + 1 + 1 + 1 + 1 + 1) rfl 54 (W2 s4) (0, 0) _ hk2 Tryd.underlying54 rfl (size_sum _ (W2_size _)) ?_))
      clear hk hk2
      refine (HP4 _).out.mono ?_
      rintro e w5 ⟨rfl, hw⟩
      have hS := HS.out.step hw
      have hk := hS.k4
      have hS2 := hS.set4 n4
      clear HS hw hS
      have HS := Lib.hid hS2
      clear hS2
      go_wp2_with (refine wpList_store_row rfl 54 _ _ rfl (w.heap.size + 1 + 1 + 1 + 1 + 1 + 1 + 1) rfl (W2 n4) rfl 54 _ hk (size_sum _ (W2_size _)) rfl (W2_one _) ?_)
      clear hk
      go_roundw
      case rel =>
        exact ⟨k + 1, by omega, by go_num, d, c0, c1, c2, c3, n0, n1, n2, n3, n4, rfl, rfl, rfl, rfl, rfl, HN.out, HS.out⟩
      case measure => simp [intOf]; omega
    · obtain rfl : k = 5 := by omega
      obtain ⟨hv, m0, m1, m2, m3, m4, d0, d1, d2, d3, d4⟩ := hM.fin ha
      obtain ⟨hba, hbr, k0, k1, k2, k3, k4, hbe⟩ := hS
      have hE := crd_eb (a0 := s0 % 2251799813685248 + 19 * (s4 / 2251799813685248)) (a1 := s1 % 2251799813685248 + s0 / 2251799813685248) (a2 := s2 % 2251799813685248 + s1 / 2251799813685248) (a3 := s3 % 2251799813685248 + s2 / 2251799813685248) (a4 := s4 % 2251799813685248 + s3 / 2251799813685248) (by omega) (by omega) (by omega) (by omega) (by omega)
      have hE2 : EB (crd (s0 % 2251799813685248 + 19 * (s4 / 2251799813685248)) (s1 % 2251799813685248 + s0 / 2251799813685248) (s2 % 2251799813685248 + s1 / 2251799813685248) (s3 % 2251799813685248 + s2 / 2251799813685248) (s4 % 2251799813685248 + s3 / 2251799813685248)) (x * y) := by
        have h : fof (lv (crd s0 s1 s2 s3 s4)) = x * y := hv
        unfold crd at h
        rw [h] at hE
        exact hE
      have HC := fun w1 => carried_f (s0 % 2251799813685248 + 19 * (s4 / 2251799813685248)) (s1 % 2251799813685248 + s0 / 2251799813685248) (s2 % 2251799813685248 + s1 / 2251799813685248) (s3 % 2251799813685248 + s2 / 2251799813685248) (s4 % 2251799813685248 + s3 / 2251799813685248) (by omega) (by omega) (by omega) (by omega) (by omega) w1
      generalize crd (s0 % 2251799813685248 + 19 * (s4 / 2251799813685248)) (s1 % 2251799813685248 + s0 / 2251799813685248) (s2 % 2251799813685248 + s1 / 2251799813685248) (s3 % 2251799813685248 + s2 / 2251799813685248) (s4 % 2251799813685248 + s3 / 2251799813685248) = r at *
      clear hE hv hM hba rv r0 r1 r2 r3 r4 hb
      have HC2 := Lib.hid HC
      have HE := Lib.hid hE2
      clear HC hE2
      go_wp2
      refine reg_set 29 (.tmp 4) 27 (.tmp 94) rfl rfl rfl rfl (by kernel_rfl) (tail_ok (by kernel_rfl)) (fun _ _ d _ _ h => by cases d <;> exact h) ?_
      simp only [List.take_succ_cons, List.take_zero]
      refine b_sum (w.heap.size + 1 + 1 + 1) _ rfl rfl rfl (fun _ h => h.blk k0) ?_; simp only [Act.put, List.setIfInBounds_toArray, List.set_cons_zero, List.set_cons_succ]
      refine b_one rfl own_low (fun w1 => low_f s0 w1) rfl rfl ?_; simp only [Act.put, List.setIfInBounds_toArray, List.set_cons_zero, List.set_cons_succ]
      refine b_sum (w.heap.size + 1 + 1 + 1 + 1 + 1 + 1 + 1) _ rfl rfl rfl (fun _ h => h.blk k4) ?_; simp only [Act.put, List.setIfInBounds_toArray, List.set_cons_zero, List.set_cons_succ]
      refine b_one rfl own_high (fun w1 => high_f s4 m4 w1) rfl rfl ?_; simp only [Act.put, List.setIfInBounds_toArray, List.set_cons_zero, List.set_cons_succ]
      refine b_mulu 19 (s4 / 2251799813685248) rfl rfl rfl rfl (by omega) ?_; simp only [Act.put, List.setIfInBounds_toArray, List.set_cons_zero, List.set_cons_succ]
      refine b_addu (s0 % 2251799813685248) (19 * (s4 / 2251799813685248)) rfl rfl rfl rfl (by omega) ?_; simp only [Act.put, List.setIfInBounds_toArray, List.set_cons_zero, List.set_cons_succ]
      refine b_sum (w.heap.size + 1 + 1 + 1 + 1) _ rfl rfl rfl (fun _ h => h.blk k1) ?_; simp only [Act.put, List.setIfInBounds_toArray, List.set_cons_zero, List.set_cons_succ]
      refine b_one rfl own_low (fun w1 => low_f s1 w1) rfl rfl ?_; simp only [Act.put, List.setIfInBounds_toArray, List.set_cons_zero, List.set_cons_succ]
      refine b_sum (w.heap.size + 1 + 1 + 1) _ rfl rfl rfl (fun _ h => h.blk k0) ?_; simp only [Act.put, List.setIfInBounds_toArray, List.set_cons_zero, List.set_cons_succ]
      refine b_one rfl own_high (fun w1 => high_f s0 m0 w1) rfl rfl ?_; simp only [Act.put, List.setIfInBounds_toArray, List.set_cons_zero, List.set_cons_succ]
      refine b_addu (s1 % 2251799813685248) (s0 / 2251799813685248) rfl rfl rfl rfl (by omega) ?_; simp only [Act.put, List.setIfInBounds_toArray, List.set_cons_zero, List.set_cons_succ]
      refine b_sum (w.heap.size + 1 + 1 + 1 + 1 + 1) _ rfl rfl rfl (fun _ h => h.blk k2) ?_; simp only [Act.put, List.setIfInBounds_toArray, List.set_cons_zero, List.set_cons_succ]
      refine b_one rfl own_low (fun w1 => low_f s2 w1) rfl rfl ?_; simp only [Act.put, List.setIfInBounds_toArray, List.set_cons_zero, List.set_cons_succ]
      refine b_sum (w.heap.size + 1 + 1 + 1 + 1) _ rfl rfl rfl (fun _ h => h.blk k1) ?_; simp only [Act.put, List.setIfInBounds_toArray, List.set_cons_zero, List.set_cons_succ]
      refine b_one rfl own_high (fun w1 => high_f s1 m1 w1) rfl rfl ?_; simp only [Act.put, List.setIfInBounds_toArray, List.set_cons_zero, List.set_cons_succ]
      refine b_addu (s2 % 2251799813685248) (s1 / 2251799813685248) rfl rfl rfl rfl (by omega) ?_; simp only [Act.put, List.setIfInBounds_toArray, List.set_cons_zero, List.set_cons_succ]
      refine b_sum (w.heap.size + 1 + 1 + 1 + 1 + 1 + 1) _ rfl rfl rfl (fun _ h => h.blk k3) ?_; simp only [Act.put, List.setIfInBounds_toArray, List.set_cons_zero, List.set_cons_succ]
      refine b_one rfl own_low (fun w1 => low_f s3 w1) rfl rfl ?_; simp only [Act.put, List.setIfInBounds_toArray, List.set_cons_zero, List.set_cons_succ]
      refine b_sum (w.heap.size + 1 + 1 + 1 + 1 + 1) _ rfl rfl rfl (fun _ h => h.blk k2) ?_; simp only [Act.put, List.setIfInBounds_toArray, List.set_cons_zero, List.set_cons_succ]
      refine b_one rfl own_high (fun w1 => high_f s2 m2 w1) rfl rfl ?_; simp only [Act.put, List.setIfInBounds_toArray, List.set_cons_zero, List.set_cons_succ]
      refine b_addu (s3 % 2251799813685248) (s2 / 2251799813685248) rfl rfl rfl rfl (by omega) ?_; simp only [Act.put, List.setIfInBounds_toArray, List.set_cons_zero, List.set_cons_succ]
      refine b_sum (w.heap.size + 1 + 1 + 1 + 1 + 1 + 1 + 1) _ rfl rfl rfl (fun _ h => h.blk k4) ?_; simp only [Act.put, List.setIfInBounds_toArray, List.set_cons_zero, List.set_cons_succ]
      refine b_one rfl own_low (fun w1 => low_f s4 w1) rfl rfl ?_; simp only [Act.put, List.setIfInBounds_toArray, List.set_cons_zero, List.set_cons_succ]
      refine b_sum (w.heap.size + 1 + 1 + 1 + 1 + 1 + 1) _ rfl rfl rfl (fun _ h => h.blk k3) ?_; simp only [Act.put, List.setIfInBounds_toArray, List.set_cons_zero, List.set_cons_succ]
      refine b_one rfl own_high (fun w1 => high_f s3 m3 w1) rfl rfl ?_; simp only [Act.put, List.setIfInBounds_toArray, List.set_cons_zero, List.set_cons_succ]
      refine b_addu (s4 % 2251799813685248) (s3 / 2251799813685248) rfl rfl rfl rfl (by omega) ?_; simp only [Act.put, List.setIfInBounds_toArray, List.set_cons_zero, List.set_cons_succ]
      refine b_build _ _ rfl rfl rfl (built_u5 _ _ _ _ _) ?_; simp only [Act.put, List.setIfInBounds_toArray, List.set_cons_zero, List.set_cons_succ]
      refine b_build _ _ rfl rfl rfl (built_el _ _ _ _ _) ?_; simp only [Act.put, List.setIfInBounds_toArray, List.set_cons_zero, List.set_cons_succ]
      refine b_one rfl own_carried (fun w1 => HC2.out w1) rfl rfl ?_; simp only [Act.put, List.setIfInBounds_toArray, List.set_cons_zero, List.set_cons_succ]
      have hzr := len_us HE.out.len
      refine wpB_nil ⟨_, z5, (Us r).toArray, rfl, rfl, hbr, by rw [hzr]; rfl, size_el _ hzr, Us_one _, fun w1 hw1 => ?_⟩
      have hfin := hw1.blk hbr
      have hbe2 := below_up hbe hw1
      go_wp2
      refine bodyPost_ret (results_cell_row rfl _ _ (w.heap.size + 1 + 1) 27 (Us r).toArray (0, 0) _ rfl (hfin.row _) Tryd.underlying27 rfl (size_el _ hzr)) rfl ⟨r, HE.out, rfl, ?_⟩
      exact below_setRow hbe2 (by omega) _
end Go.Proofs.YtchhkejgdcmicaaDoor
