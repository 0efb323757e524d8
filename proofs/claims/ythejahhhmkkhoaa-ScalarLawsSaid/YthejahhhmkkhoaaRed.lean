/-
  THE PROGRAM'S SCALARS: reduced: five words modulo L.
-/
import Derived.Test.YthejahhhmkkhoaaWSum
namespace Go.Proofs.Ythejahhhmkkhoaa
open Go.RowKit Go.IntWalk Nums

theorem own_wsum : Own 22 := fun _ _ => by go_simp
theorem ws_LL : ws LL = [6346243789798364141, 1503914060200516822, 0, 1152921504606846976] := by decide
theorem cell4 (a b c d : Nat) : (Us [a, b, c, d]).toArray = #[.int .u64 (a : Int), .int .u64 (b : Int), .int .u64 (c : Int), .int .u64 (d : Int)] := rfl

theorem mask60 (a : Nat) (ha : a < 18446744073709551616) : bits .and .u64 (a : Int) 1152921504606846975 = ((a % 1152921504606846976 : Nat) : Int) := by
  have h := u64_and_nat a 1152921504606846975 ha (by omega)
  have e : a &&& 1152921504606846975 = a % 1152921504606846976 := Nat.and_two_pow_sub_one_eq_mod a 60
  rw [e] at h
  exact h

set_option maxRecDepth 100000 in
set_option maxHeartbeats 2000000 in
theorem red_f {v0 v1 v2 v3 u : Nat} (h0 : v0 < 18446744073709551616) (h1 : v1 < 18446744073709551616) (h2 : v2 < 18446744073709551616) (h3 : v3 < 18446744073709551616) (hu : u < 1073741824) (w : World) :
    Calls Try.prog 23 #[.agg (Us [v0, v1, v2, v3, u]).toArray] w fun e w' => e = .returned (.agg (Us (ws ((v4 v0 v1 v2 v3 + 115792089237316195423570985008687907853269984665640564039457584007913129639936 * u) % LL))).toArray) ∧ Below w.heap.size w w' := by
  obtain ⟨t, ht⟩ : ∃ t, t = u * 16 + v3 / 1152921504606846976 := ⟨_, rfl⟩
  have htb : t < 34359738368 := by omega
  have qt : bits .or .u64 ((u : Int) * 16) ((v3 : Int) / 1152921504606846976) = (t : Int) := by
    have e := orW 4 (u * 16) (v3 / 1152921504606846976) (by omega) (by omega) (by omega) (by omega)
    rw [ht, ← e]
    rfl
  have HM0 := fun w1 => Lib.hid (mul64_any t 6346243789798364141 (by omega) (by omega) w1)
  have HM1 := fun w1 => Lib.hid (mul64_any t 1503914060200516822 (by omega) (by omega) w1)
  obtain ⟨V, hV⟩ : ∃ V, V = v4 v0 v1 v2 v3 + 115792089237316195423570985008687907853269984665640564039457584007913129639936 * u := ⟨_, rfl⟩
  rw [← hV]
  have hV2 : V = v4 v0 v1 v2 (v3 % 1152921504606846976) + 7237005577332262213973186563042994240829374041602535252466099000494570602496 * t := by
    rw [hV, ht]
    unfold v4
    omega
  have q3 := mask60 v3 h3
  have hv3 : v3 % 1152921504606846976 < 1152921504606846976 := by omega
  obtain ⟨m0, hm0⟩ : ∃ m, m = t * 6346243789798364141 := ⟨_, rfl⟩
  obtain ⟨m1, hm1⟩ : ∃ m, m = t * 1503914060200516822 := ⟨_, rfl⟩
  rw [← hm0] at HM0
  rw [← hm1] at HM1
  obtain ⟨p1, hp1⟩ : ∃ p, p = m1 % 18446744073709551616 + m0 / 18446744073709551616 := ⟨_, rfl⟩
  have hA : ∀ w1, (callFunc 26 #[.int .u64 ((m1 % 18446744073709551616 : Nat) : Int), .int .u64 ((m0 / 18446744073709551616 : Nat) : Int), .int .u64 0]).run Try.prog w1 = .ok (.value (.tuple #[.int .u64 ((p1 % 18446744073709551616 : Nat) : Int), .int .u64 ((p1 / 18446744073709551616 : Nat) : Int)])) w1 := by
    rw [hp1]
    exact fun w1 => add64_run (m1 % 18446744073709551616) (m0 / 18446744073709551616) 0 (by omega) w1
  have qd : IntKind.u64.wrap (((m1 / 18446744073709551616 : Nat) : Int) + ((p1 / 18446744073709551616 : Nat) : Int)) = ((m1 / 18446744073709551616 + p1 / 18446744073709551616 : Nat) : Int) := by
    rw [IntKind.wrap_u64]
    omega
  obtain ⟨r0, l0, hr0, hl0, H0⟩ : ∃ r0 l0 : Nat, r0 = (v0 + 18446744073709551616 - m0 % 18446744073709551616 - 0) % 18446744073709551616 ∧ l0 = (if v0 < m0 % 18446744073709551616 + 0 then 1 else 0) ∧
      ∀ w1, (callFunc 28 #[.int .u64 (v0 : Int), .int .u64 ((m0 % 18446744073709551616 : Nat) : Int), .int .u64 0]).run Try.prog w1 = .ok (.value (.tuple #[.int .u64 (r0 : Int), .int .u64 (l0 : Int)])) w1 :=
    ⟨_, _, rfl, rfl, fun w1 => sub64_run v0 (m0 % 18446744073709551616) 0 (by omega) w1⟩
  have b0 : l0 ≤ 1 := by rw [hl0]; split <;> omega
  obtain ⟨r1, l1, hr1, hl1, H1⟩ : ∃ r1 l1 : Nat, r1 = (v1 + 18446744073709551616 - p1 % 18446744073709551616 - l0) % 18446744073709551616 ∧ l1 = (if v1 < p1 % 18446744073709551616 + l0 then 1 else 0) ∧
      ∀ w1, (callFunc 28 #[.int .u64 (v1 : Int), .int .u64 ((p1 % 18446744073709551616 : Nat) : Int), .int .u64 (l0 : Int)]).run Try.prog w1 = .ok (.value (.tuple #[.int .u64 (r1 : Int), .int .u64 (l1 : Int)])) w1 :=
    ⟨_, _, rfl, rfl, fun w1 => sub64_run v1 (p1 % 18446744073709551616) l0 b0 w1⟩
  have b1 : l1 ≤ 1 := by rw [hl1]; split <;> omega
  obtain ⟨r2, l2, hr2, hl2, H2⟩ : ∃ r2 l2 : Nat, r2 = (v2 + 18446744073709551616 - (m1 / 18446744073709551616 + p1 / 18446744073709551616) - l1) % 18446744073709551616 ∧ l2 = (if v2 < m1 / 18446744073709551616 + p1 / 18446744073709551616 + l1 then 1 else 0) ∧
      ∀ w1, (callFunc 28 #[.int .u64 (v2 : Int), .int .u64 ((m1 / 18446744073709551616 + p1 / 18446744073709551616 : Nat) : Int), .int .u64 (l1 : Int)]).run Try.prog w1 = .ok (.value (.tuple #[.int .u64 (r2 : Int), .int .u64 (l2 : Int)])) w1 :=
    ⟨_, _, rfl, rfl, fun w1 => sub64_run v2 (m1 / 18446744073709551616 + p1 / 18446744073709551616) l1 b1 w1⟩
  have b2 : l2 ≤ 1 := by rw [hl2]; split <;> omega
  obtain ⟨r3, l3, hr3, hl3, H3⟩ : ∃ r3 l3 : Nat, r3 = (v3 % 1152921504606846976 + 18446744073709551616 - 0 - l2) % 18446744073709551616 ∧ l3 = (if v3 % 1152921504606846976 < 0 + l2 then 1 else 0) ∧
      ∀ w1, (callFunc 28 #[.int .u64 ((v3 % 1152921504606846976 : Nat) : Int), .int .u64 0, .int .u64 (l2 : Int)]).run Try.prog w1 = .ok (.value (.tuple #[.int .u64 (r3 : Int), .int .u64 (l3 : Int)])) w1 :=
    ⟨_, _, rfl, rfl, fun w1 => sub64_run (v3 % 1152921504606846976) 0 l2 b2 w1⟩
  obtain ⟨e0, e1, b3, _, _, _, c0, c1, c2, c3⟩ := rest_L (V := V) h0 h1 h2 hv3 htb hm0 hm1 hp1 hl0 hr0 hl1 hr1 hl2 hr2 hl3 hr3 hV2
  have hR : v4 r0 r1 r2 r3 < 115792089237316195423570985008687907853269984665640564039457584007913129639936 := by unfold v4; omega
  have HW := fun w1 => wsum_f hR (B := LL) (by rw [LL_eq]; omega) w1
  rw [ws_v4 c0 c1 c2 c3, ws_LL, cell4, cell4] at HW
  have hwR := ws_v4 c0 c1 c2 c3
  clear hm0 hm1 hp1 hl0 hr0 hl1 hr1 hl2 hr2 hl3 hr3 hV2 hV ht htb
  generalize hmh0 : m0 / 18446744073709551616 = mh0 at *
  generalize hml0 : m0 % 18446744073709551616 = ml0 at *
  generalize hmh1 : m1 / 18446744073709551616 = mh1 at *
  generalize hml1 : m1 % 18446744073709551616 = ml1 at *
  generalize hph1 : p1 / 18446744073709551616 = ph1 at *
  generalize hpl1 : p1 % 18446744073709551616 = pl1 at *
  generalize mh1 + ph1 = d at *
  generalize v3 % 1152921504606846976 = v3' at *
  clear hmh0 hml0 hmh1 hml1 hph1 hpl1
  have e0' : (Us [v0, v1, v2, v3, u]).toArray = #[.int .u64 (v0 : Int), .int .u64 (v1 : Int), .int .u64 (v2 : Int), .int .u64 (v3 : Int), .int .u64 (u : Int)] := rfl
  rw [e0']
  clear e0'
  rcases (show l3 = 0 ∨ l3 = 1 by omega) with rfl | rfl
  · have hF := e0 rfl
    rw [← hF, hwR, cell4]
    have HK := Lib.hid (And.intro hF hR)
    clear e0 e1 HW hF hR hwR
    go_enter Try.func23, Try.ntmps23
    go_wp2_with (fail)
    refine (HM0 _).out.mono ?_
    rintro e w1 ⟨rfl, rfl⟩
    go_wp2_with (fail)
    refine (HM1 _).out.mono ?_
    rintro e w1 ⟨rfl, rfl⟩
    go_wp2_with (fail)
    refine bodyPost_ret (results_cell_row rfl _ _ (w.heap.size + 1) 27 _ (0, 0) _ rfl (blk3_1 w _ _ _ _) Try.underlying27 rfl (size_sc _ rfl)) rfl ⟨rfl, ?_⟩
    exact (((Below.refl _ _).alloc (Nat.le_refl _) _).alloc (by simp) _).alloc (by simp; omega) _
  · have hF := e1 rfl
    rw [hF] at HW
    rw [← hF]
    have hn : V % LL < 115792089237316195423570985008687907853269984665640564039457584007913129639936 := Nat.lt_trans (Nat.mod_lt _ (by decide)) (by decide)
    rw [hF]
    obtain ⟨x0, x1, x2, x3, _, hx, _⟩ := ws_cut hn
    rw [hx, cell4] at HW ⊢
    have HW := fun w1 => Lib.hid (HW w1)
    clear e0 e1 hF hR hwR hx hn
    go_enter Try.func23, Try.ntmps23
    go_wp2_with (fail)
    refine (HM0 _).out.mono ?_
    rintro e w1 ⟨rfl, rfl⟩
    go_wp2_with (fail)
    refine (HM1 _).out.mono ?_
    rintro e w1 ⟨rfl, rfl⟩
    go_wp2_with (fail)
    refine (HW _).out.mono ?_
    rintro e w1 ⟨rfl, hw1⟩
    have k1 := (blk3_1 w 27 (Us [0, 0, 0, 0]).toArray (.cells (Us [v0, v1, v2, v3, u]).toArray 49) (.cells (Us [r0, r1, r2, r3]).toArray 25)).later hw1
    have k2 := (blk3_2 w 25 (Us [r0, r1, r2, r3]).toArray (.cells (Us [v0, v1, v2, v3, u]).toArray 49) (.cells (Us [0, 0, 0, 0]).toArray 27)).later hw1
    have hbe := below_up ((((Below.refl w.heap.size w).alloc (Nat.le_refl _) _).alloc (by simp) _).alloc (by simp; omega) _) hw1
    have k1' := k1.rowFar (g' := w.heap.size + 1 + 1) (by omega) (Us [x0, x1, x2, x3]).toArray
    have k2' := k2.row (Us [x0, x1, x2, x3]).toArray
    have hbe' := below_setRow hbe (g := w.heap.size + 1 + 1) (cs := (Us [x0, x1, x2, x3]).toArray) (by omega)
    clear hw1
    go_wp2_with (first
      | (refine wpList_store_row rfl 25 _ _ rfl (w.heap.size + 1 + 1) rfl (Us [x0, x1, x2, x3]).toArray rfl 25 _ k2 (size_w4 _ rfl) rfl (Us_one _) ?_)
      | (refine wpList_load_row rfl 25 _ rfl (w.heap.size + 1 + 1) rfl 25 #[.int .u64 (x0 : Int), .int .u64 (x1 : Int), .int .u64 (x2 : Int), .int .u64 (x3 : Int)] (0, 0) _ k2' Try.underlying25 rfl (size_w4 _ rfl) ?_)
      | (refine wpList_store_row rfl 27 _ _ rfl (w.heap.size + 1) rfl (Us [x0, x1, x2, x3]).toArray rfl 27 _ k1' (size_sc _ rfl) rfl (Us_one _) ?_))
    refine bodyPost_ret (results_cell_row rfl _ _ (w.heap.size + 1) 27 (Us [x0, x1, x2, x3]).toArray (0, 0) _ rfl (k1'.row _) Try.underlying27 rfl (size_sc _ rfl)) rfl ⟨rfl, ?_⟩
    exact below_setRow hbe' (by omega) _
end Go.Proofs.Ythejahhhmkkhoaa
