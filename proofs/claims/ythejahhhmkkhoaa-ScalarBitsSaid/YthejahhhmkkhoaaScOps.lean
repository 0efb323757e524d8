/-
  THE PROGRAM'S SCALARS: Add and Mul.
-/
import Derived.Test.YthejahhhmkkhoaaWide
import Derived.Test.YthejahhhmkkhoaaPick
import Derived.Test.YthejahhhmkkhoaaScHash
namespace Go.Proofs.Ythejahhhmkkhoaa
open Go.RowKit Go.IntWalk Nums

theorem own_wred : Own 23 := fun _ _ => by go_simp

set_option maxRecDepth 100000 in
set_option maxHeartbeats 1000000 in
theorem scadd_f {x y : Nat} (hx : x < LL) (hy : y < LL) (w : World) :
    Calls Try.prog 12 #[.agg (Us (ws x)).toArray, .agg (Us (ws y)).toArray] w fun e w' => e = .returned (.agg (Us (ws ((x + y) % LL))).toArray) ∧ Below w.heap.size w w' := by
  rw [LL_eq] at hx hy
  have hx2 : x < 115792089237316195423570985008687907853269984665640564039457584007913129639936 := by omega
  have hy2 : y < 115792089237316195423570985008687907853269984665640564039457584007913129639936 := by omega
  have hs2 : x + y < 115792089237316195423570985008687907853269984665640564039457584007913129639936 := by omega
  have HS := fun w1 => wsum_f hx2 hy2 w1
  rw [Nat.mod_eq_of_lt hs2] at HS
  obtain ⟨a0, a1, a2, a3, _, wA, _⟩ := ws_cut hx2
  obtain ⟨b0, b1, b2, b3, _, wB, _⟩ := ws_cut hy2
  obtain ⟨s0, s1, s2, s3, eS, wS, q0, q1, q2, q3⟩ := ws_cut hs2
  have HR := fun w1 => red_f q0 q1 q2 q3 (u := 0) (by omega) w1
  rw [← eS, Nat.mul_zero, Nat.add_zero] at HR
  rw [wA, wB, wS, cell4, cell4, cell4] at HS
  rw [wA, wB, cell4, cell4]
  have HS := fun w1 => Lib.hid (HS w1)
  have HR := fun w1 => Lib.hid (HR w1)
  have hz := len_u4 (ws_len ((x + y) % LL))
  clear hx hy hx2 hy2 hs2 wA wB wS eS q0 q1 q2 q3
  generalize ws ((x + y) % LL) = r at *
  have k2 := blk3_2 w 27 z4 (.cells #[.int .u64 (a0 : Int), .int .u64 (a1 : Int), .int .u64 (a2 : Int), .int .u64 (a3 : Int)] 27) (.cells #[.int .u64 (b0 : Int), .int .u64 (b1 : Int), .int .u64 (b2 : Int), .int .u64 (b3 : Int)] 27)
  have hbe : Below w.heap.size w (((w.alloc (.cells #[.int .u64 (a0 : Int), .int .u64 (a1 : Int), .int .u64 (a2 : Int), .int .u64 (a3 : Int)] 27)).alloc (.cells #[.int .u64 (b0 : Int), .int .u64 (b1 : Int), .int .u64 (b2 : Int), .int .u64 (b3 : Int)] 27)).alloc (.cells z4 27)) :=
    (((Below.refl _ _).alloc (Nat.le_refl _) _).alloc (by simp) _).alloc (by simp; omega) _
  have HK := Lib.hid (And.intro k2 hbe)
  clear k2 hbe
  go_enter Try.func12, Try.ntmps12
  go_wp2_with (fail)
  refine (HS _).out.mono ?_
  rintro e w1 ⟨rfl, hw1⟩
  go_wp2_with (fail)
  refine (HR _).out.mono ?_
  rintro e w2 ⟨rfl, hw2⟩
  obtain ⟨k2, hbe⟩ := HK.out
  have k3 := ((k2.later hw1).alloc _).later hw2
  have hbe3 := below_up (((below_up hbe hw1)).alloc (below_up hbe hw1).size _) hw2
  clear HK HS HR k2 hbe hw1 hw2
  go_wp2_with (refine wpList_store_row rfl 27 _ _ rfl (w.heap.size + 1 + 1) rfl (Us r).toArray rfl 27 _ k3 (size_sc _ hz) (by rw [hz]; rfl) (Us_one _) ?_)
  refine bodyPost_ret (results_cell_row rfl _ _ (w.heap.size + 1 + 1) 27 (Us r).toArray (0, 0) _ rfl (k3.row _) Try.underlying27 rfl (size_sc _ hz)) rfl ⟨rfl, ?_⟩
  exact below_setRow hbe3 (by omega) _

/-! ### Mul -/
/-- What Mul's rows lie in. -/
structure MS4 (w wr : World) (a b : List Nat) (n : Nat) : Prop where
  b0 : Blk wr w.heap.size 27 (Us a).toArray
  b1 : Blk wr (w.heap.size + 1) 27 (Us b).toArray
  b2 : Blk wr (w.heap.size + 1 + 1) 27 z4
  b3 : Blk wr (w.heap.size + 1 + 1 + 1) 27 (Us (ws n)).toArray
  be : Below w.heap.size w wr
theorem MS4.up {w wr w1 : World} {a b : List Nat} {n : Nat} (h : MS4 w wr a b n) (k : Up wr w1) : MS4 w w1 a b n := ⟨k.blk h.b0, k.blk h.b1, k.blk h.b2, k.blk h.b3, below_up h.be k⟩
theorem MS4.set {w wr : World} {a b : List Nat} {n : Nat} (h : MS4 w wr a b n) (m : Nat) : MS4 w (wr.setRow (w.heap.size + 1 + 1 + 1) (Us (ws m)).toArray) a b m :=
  ⟨h.b0.rowFar (by omega) _, h.b1.rowFar (by omega) _, h.b2.rowFar (by omega) _, h.b3.row _, below_setRow h.be (by omega) _⟩

theorem mul_split (x Y u v L : Nat) : (4294967296 * ((4294967296 * (x * Y % L) + x * u) % L) + x * v) % L = x * (18446744073709551616 * Y + (4294967296 * u + v)) % L := by
  have e : x * (18446744073709551616 * Y + (4294967296 * u + v)) = 4294967296 * (4294967296 * (x * Y) + x * u) + x * v := by grind only
  rw [e, Nat.add_mod, Nat.mul_mod_mod, ← Nat.add_mod]
  have e2 : (4294967296 * (x * Y % L) + x * u) % L = (4294967296 * (x * Y) + x * u) % L := by
    rw [Nat.add_mod, Nat.mul_mod_mod, ← Nat.add_mod]
  rw [Nat.add_mod (4294967296 * (4294967296 * (x * Y % L) + x * u)), Nat.mul_mod, e2, ← Nat.mul_mod, ← Nat.add_mod]

section
variable {ops : Array Oper} {C0 : World → Prop} {Q : Act → Prop} {a : Act} {o : Oper} {rest : List Oper}
/-- A number is read. -/
theorem b_sc {l : List Nat} (g : Nat) (hl : l.length = 4) (x : Operand) (hg : Region.wanted o (yielded ops a.tmps) = true) (ho : o.op = .load 27 x) (hx : a.eval x = .pointer (some ⟨g, 0, none⟩))
    (hc : ∀ w, C0 w → Blk w g 27 (Us l).toArray) (hk : wpB Try.prog ops C0 Q rest (a.put o.dst (.agg (Us l).toArray))) : wpB Try.prog ops C0 Q (o :: rest) a :=
  b_mid hg 27 x ho g 0 hx (Us l) _ (fun w h => (hc w h).range) Try.underlying27 rfl (size_sc (Us l).toArray (len_u4 hl)) hk
/-- A word of it. -/
theorem b_word {x i : Operand} (g k : Nat) (hk4 : k < 4) (hg : Region.wanted o (yielded ops a.tmps) = true) (ho : o.op = .indexAddr 25 x i) (hx : a.eval x = .pointer (some ⟨g, 0, none⟩)) (hi : a.eval i = .int .i64 (k : Int))
    (hk : wpB Try.prog ops C0 Q rest (a.put o.dst (.pointer (some ⟨g, k, none⟩)))) : wpB Try.prog ops C0 Q (o :: rest) a :=
  b_val hg (fun w _ => by
    have h1 : (k : Int) < 4 := by omega
    have h2 : (0 : Int) ≤ (k : Int) := by omega
    unfold execOp
    simp only [ho, hx, hi]
    go_simp) hk
theorem b_cell {x : Operand} (g k v : Nat) (hg : Region.wanted o (yielded ops a.tmps) = true) (ho : o.op = .load 24 x) (hx : a.eval x = .pointer (some ⟨g, k, none⟩)) (hc : ∀ w, C0 w → w.cell? ⟨g, k, none⟩ = some (.int .u64 (v : Int)))
    (hk : wpB Try.prog ops C0 Q rest (a.put o.dst (.int .u64 (v : Int)))) : wpB Try.prog ops C0 Q (o :: rest) a :=
  b_val hg (fun w hw => by
    have h1 := hc w hw
    unfold execOp
    simp only [ho, hx]
    go_simp) hk
theorem b_shr32 {x : Operand} {t : TypeId} (v : Nat) (hg : Region.wanted o (yielded ops a.tmps) = true) (ho : o.op = .binOp .shr 24 x (.const (.int .u64 32)) t) (hx : a.eval x = .int .u64 (v : Int))
    (hk : wpB Try.prog ops C0 Q rest (a.put o.dst (.int .u64 ((v / 4294967296 : Nat) : Int)))) : wpB Try.prog ops C0 Q (o :: rest) a :=
  b_val hg (fun w _ => by
    have e := div32 v
    generalize v / 4294967296 = z at *
    unfold execOp
    simp only [ho, hx]
    go_simp) hk
theorem b_and32 {x : Operand} {t : TypeId} (v : Nat) (hv : v < 18446744073709551616) (hg : Region.wanted o (yielded ops a.tmps) = true) (ho : o.op = .binOp .and 24 x (.const (.int .u64 4294967295)) t) (hx : a.eval x = .int .u64 (v : Int))
    (hk : wpB Try.prog ops C0 Q rest (a.put o.dst (.int .u64 ((v % 4294967296 : Nat) : Int)))) : wpB Try.prog ops C0 Q (o :: rest) a :=
  b_val hg (fun w _ => by
    have e := mask32 v hv
    generalize v % 4294967296 = z at *
    unfold execOp
    simp only [ho, hx]
    go_simp) hk
end
theorem fld_sc (g : Nat) (w : World) : (Instr.fieldAt 27 (.pointer (some ⟨g, 0, none⟩)) 0).run Try.prog w = .ok (.pointer (some ⟨g, 0, none⟩)) w := by go_simp

set_option maxRecDepth 100000 in
set_option maxHeartbeats 2000000 in
theorem scmul_f {x y : Nat} (hx : x < LL) (hy : y < LL) (w : World) :
    Calls Try.prog 14 #[.agg (Us (ws x)).toArray, .agg (Us (ws y)).toArray] w fun e w' => e = .returned (.agg (Us (ws (x * y % LL))).toArray) ∧ Below w.heap.size w w' := by
  have hN := fun A h w1 (hA : A < LL) (hh : h < 4294967296) => next_f hA hx hh w1
  have hwy : ∀ k, k < 4 → y / 18446744073709551616 ^ k = 18446744073709551616 * (y / 18446744073709551616 ^ (k + 1)) + (4294967296 * ((ws y)[k]! / 4294967296) + (ws y)[k]! % 4294967296) := by
    intro k hk
    rw [ws_wd y hk, Nat.pow_succ, ← Nat.div_div_eq_div_mul]
    unfold wd
    omega
  have hy0 : y / 18446744073709551616 ^ 4 = 0 := Nat.div_eq_of_lt (Nat.lt_trans hy (by decide))
  have ha := ws_len x
  have hb := ws_len y
  have hbl := fun k => ws_get_lt y (k := k)
  clear hy
  generalize ws y = b at *
  generalize hwx : ws x = a at *
  go_enter Try.func14, Try.ntmps14
  go_wp2
  go_loopw [6] (fun i wr => ∃ k : Nat, k ≤ 4 ∧ i = .int .i64 ((k : Int) - 1) ∧ MS4 w wr a b (x * (y / 18446744073709551616 ^ k) % LL)) (fun i _ => (intOf i + 1).toNat)
  case atStart =>
    refine ⟨4, by omega, rfl, ?_⟩
    rw [hy0, Nat.mul_zero, Nat.zero_mod]
    exact ⟨blk4_0 w _ _ _ _ _, blk4_1 w _ _ _ _ _, blk4_2 w _ _ _ _ _, blk4_3 w _ _ _ _ _, below4 w _ _ _ _⟩
  case round =>
    obtain ⟨k, hk, rfl, hS⟩ := hrel
    by_cases hlt : 0 < k
    · obtain ⟨i, rfl⟩ : ∃ i, k = i + 1 := ⟨k - 1, by omega⟩
      have e0 : ((i + 1 : Nat) : Int) - 1 = (i : Int) := by omega
      rw [e0]
      have hW := hwy i (by omega)
      have hv := hbl i (by omega)
      have hcell : ∀ w1, MS4 w w1 a b (x * (y / 18446744073709551616 ^ (i + 1)) % LL) → w1.cell? ⟨w.heap.size + 1, i, none⟩ = some (.int .u64 (b[i]! : Nat)) := fun w1 h => (h.b1.cell i).trans (Us_at (by omega))
      have hcell2 : ∀ w1 n, MS4 w w1 a b n → w1.cell? ⟨w.heap.size + 1, i, none⟩ = some (.int .u64 (b[i]! : Nat)) := fun w1 n h => (h.b1.cell i).trans (Us_at (by omega))
      generalize b[i]! = v at *
      have hD := Lib.hid (show x * (y / 18446744073709551616 ^ i) % LL = (4294967296 * ((4294967296 * (x * (y / 18446744073709551616 ^ (i + 1)) % LL) + x * (v / 4294967296)) % LL) + x * (v % 4294967296)) % LL by rw [mul_split, ← hW])
      have hX : x * (y / 18446744073709551616 ^ (i + 1)) % LL < LL := Nat.mod_lt _ (by decide)
      generalize x * (y / 18446744073709551616 ^ (i + 1)) % LL = X at *
      have hY : (4294967296 * X + x * (v / 4294967296)) % LL < LL := Nat.mod_lt _ (by decide)
      have hN1 := fun w1 => hN X (v / 4294967296) w1 hX (by omega)
      have hN2 := fun w1 => hN ((4294967296 * X + x * (v / 4294967296)) % LL) (v % 4294967296) w1 hY (by omega)
      generalize (4294967296 * X + x * (v / 4294967296)) % LL = Y at *
      generalize (4294967296 * Y + x * (v % 4294967296)) % LL = Z at *
      clear hN hW hcell hX hY e0 hy0 hwy hbl hwx hx
      have hi3 : i < 4 := by omega
      go_wp2
      refine reg_set 8 (.tmp 5) 27 (.tmp 18) rfl rfl rfl rfl (by kernel_rfl) (tail_ok (by kernel_rfl)) (fun _ _ d _ _ h => by cases d <;> exact h) ?_
      simp only [List.take_succ_cons, List.take_zero]
      refine b_sc (w.heap.size + 1 + 1 + 1) (ws_len X) _ rfl rfl rfl (fun _ h => h.blk hS.b3) ?_; simp only [Act.put, List.setIfInBounds_toArray, List.set_cons_zero, List.set_cons_succ]
      refine b_sc w.heap.size ha _ rfl rfl rfl (fun _ h => h.blk hS.b0) ?_; simp only [Act.put, List.setIfInBounds_toArray, List.set_cons_zero, List.set_cons_succ]
      refine b_move rfl rfl ?_; simp only [Act.put, List.setIfInBounds_toArray, List.set_cons_zero, List.set_cons_succ]
      refine b_field (w.heap.size + 1) 0 0 rfl rfl rfl (fld_sc _) ?_; simp only [Act.put, List.setIfInBounds_toArray, List.set_cons_zero, List.set_cons_succ]
      refine b_word (w.heap.size + 1) i hi3 rfl rfl rfl rfl ?_; simp only [Act.put, List.setIfInBounds_toArray, List.set_cons_zero, List.set_cons_succ]
      refine b_cell (w.heap.size + 1) i v rfl rfl rfl (fun w1 h => hcell2 w1 _ (hS.up h)) ?_; simp only [Act.put, List.setIfInBounds_toArray, List.set_cons_zero, List.set_cons_succ]
      refine b_shr32 v rfl rfl rfl ?_; simp only [Act.put, List.setIfInBounds_toArray, List.set_cons_zero, List.set_cons_succ]
      refine b_one rfl own_next (fun w1 => hN1 w1) rfl rfl ?_; simp only [Act.put, List.setIfInBounds_toArray, List.set_cons_zero, List.set_cons_succ]
      refine wpB_nil ⟨_, _, (Us (ws Y)).toArray, rfl, rfl, hS.b3, by rw [len_u4 (ws_len X), len_u4 (ws_len Y)], size_sc _ (len_u4 (ws_len Y)), Us_one _, fun w1 hw1 => ?_⟩
      have hS2 := (hS.up hw1).set Y
      clear hS hw1 hN1
      generalize w1.setRow (w.heap.size + 1 + 1 + 1) (Us (ws Y)).toArray = w2 at *
      have HS := Lib.hid hS2
      clear hS2
      go_wp2
      have hS := HS.out
      clear HS
      refine reg_set 8 (.tmp 5) 27 (.tmp 26) rfl rfl rfl rfl (by kernel_rfl) (tail_ok (by kernel_rfl)) (fun _ _ d _ _ h => by cases d <;> exact h) ?_
      simp only [List.take_succ_cons, List.take_zero]
      refine b_sc (w.heap.size + 1 + 1 + 1) (ws_len Y) _ rfl rfl rfl (fun _ h => h.blk hS.b3) ?_; simp only [Act.put, List.setIfInBounds_toArray, List.set_cons_zero, List.set_cons_succ]
      refine b_sc w.heap.size ha _ rfl rfl rfl (fun _ h => h.blk hS.b0) ?_; simp only [Act.put, List.setIfInBounds_toArray, List.set_cons_zero, List.set_cons_succ]
      refine b_move rfl rfl ?_; simp only [Act.put, List.setIfInBounds_toArray, List.set_cons_zero, List.set_cons_succ]
      refine b_field (w.heap.size + 1) 0 0 rfl rfl rfl (fld_sc _) ?_; simp only [Act.put, List.setIfInBounds_toArray, List.set_cons_zero, List.set_cons_succ]
      refine b_word (w.heap.size + 1) i hi3 rfl rfl rfl rfl ?_; simp only [Act.put, List.setIfInBounds_toArray, List.set_cons_zero, List.set_cons_succ]
      refine b_cell (w.heap.size + 1) i v rfl rfl rfl (fun w1 h => hcell2 w1 _ (hS.up h)) ?_; simp only [Act.put, List.setIfInBounds_toArray, List.set_cons_zero, List.set_cons_succ]
      refine b_and32 v hv rfl rfl rfl ?_; simp only [Act.put, List.setIfInBounds_toArray, List.set_cons_zero, List.set_cons_succ]
      refine b_one rfl own_next (fun w1 => hN2 w1) rfl rfl ?_; simp only [Act.put, List.setIfInBounds_toArray, List.set_cons_zero, List.set_cons_succ]
      refine wpB_nil ⟨_, _, (Us (ws Z)).toArray, rfl, rfl, hS.b3, by rw [len_u4 (ws_len Y), len_u4 (ws_len Z)], size_sc _ (len_u4 (ws_len Z)), Us_one _, fun w1 hw1 => ?_⟩
      have hS2 := (hS.up hw1).set Z
      clear hS hw1 hN2
      generalize w1.setRow (w.heap.size + 1 + 1 + 1) (Us (ws Z)).toArray = w3 at *
      have HS := Lib.hid hS2
      clear hS2 hcell2 hv
      go_wp2
      go_roundw
      case rel =>
        refine ⟨i, by omega, by go_num, ?_⟩
        rw [hD.out]
        exact HS.out
      case measure => simp [intOf]
    · obtain rfl : k = 0 := by omega
      rw [Nat.pow_zero, Nat.div_one] at hS
      obtain ⟨b0, b1, b2, b3, be⟩ := hS
      have hzs := len_u4 (ws_len (x * y % LL))
      clear b0 b1
      go_wp2_with (first
        | (refine wpList_load_row rfl 27 _ rfl (w.heap.size + 1 + 1 + 1) rfl 27 (Us (ws (x * y % LL))).toArray (0, 0) _ b3 Try.underlying27 rfl (size_sc _ hzs) ?_)
        | (refine wpList_store_row rfl 27 _ _ rfl (w.heap.size + 1 + 1) rfl (Us (ws (x * y % LL))).toArray rfl 27 _ b2 (size_sc _ hzs) (by rw [hzs]; rfl) (Us_one _) ?_))
      refine bodyPost_ret (results_cell_row rfl _ _ (w.heap.size + 1 + 1) 27 (Us (ws (x * y % LL))).toArray (0, 0) _ rfl (b2.row _) Try.underlying27 rfl (size_sc _ hzs)) rfl ⟨rfl, ?_⟩
      exact below_setRow be (by omega) _
end Go.Proofs.Ythejahhhmkkhoaa
