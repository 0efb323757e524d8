/-
  PROVED: ScalarNews answers true for every input: which bytes are numbers, what 64 bytes come to, and which bits there are. No condition: the statement '..Said' itself.
-/
import Derived.Test.YthejahhhmkkhoaaLaw
import Derived.Test.YthejahhhmkkhoaaScFirst
namespace Go.Proofs.Ythejahhhmkkhoaa
open Go.RowKit Go.IntWalk Nums
open Go.ChangeShapes Go.WideShapes Go.ChangeAt

theorem okWide_b64 {P : Program} {w : World} {r : Reach} {base n : Nat} {t e : TypeId} {v : Value} (ht : P.underlying t = some (.array n e)) (h : Value.okWide P w r base t v) : ∃ cs, v = .agg cs ∧ cs.size = P.cellsOf t := okWide_array ht h
theorem cells_w : Try.prog.cellsOf 35 = 64 := by kernel_rfl
theorem by_of64 {cs : List Value} (hl : cs.length = 64) (h : ∀ i, i < 64 → ∃ n : Int, cs[i]? = some (.int .u8 n) ∧ 0 ≤ n ∧ n < 256) : ∃ l : List UInt8, l.length = 64 ∧ cs = By l := by
  refine ⟨cs.map fun v => match v with | .int _ n => UInt8.ofNat n.toNat | _ => 0, by simp [hl], ?_⟩
  apply List.ext_getElem (by simp [By])
  intro i h1 h2
  obtain ⟨n, hn, h0, h3⟩ := h i (by omega)
  have e : cs[i] = .int .u8 n := by
    have := List.getElem?_eq_getElem h1
    rw [hn] at this
    exact (Option.some.inj this).symm
  simp only [By, List.getElem_map, e]
  congr 1
  rw [UInt8.toNat_ofNat']
  omega
theorem open_w64 {H : Type} {enc : TypeId × Value → H} {W : World} {base : Nat} {v : Value} {d : DataW H} {p : List MemPlace} (hv : Value.okWide Try.prog W .any base 35 v) (h : DataW.Trod enc Try.prog W 0 (fun _ => true) true 35 v d p) :
    ∃ l : List UInt8, l.length = 64 ∧ v = .agg (By l).toArray := by
  obtain ⟨cs, rfl, _⟩ := okWide_array Try.underlying35 hv
  obtain ⟨fuel, hf⟩ := h
  obtain ⟨xs, m, rfl, _, hlen, hn, hel⟩ := DataW.trod_array Try.underlying35 hf
  rw [cells_w] at hlen
  obtain ⟨l, hl, e⟩ := by_of64 hlen (fun i hi => by
    have h0 := hel i hi
    rw [cells8] at h0
    obtain ⟨x, hx⟩ : ∃ x, xs[i]? = some x := ⟨xs[i]'(by omega), List.getElem?_eq_getElem (by omega)⟩
    rw [hx] at h0
    obtain ⟨n, e1, _, hw⟩ := DataW.trod_int Try.underlying5 h0
    have hb := bounds_u8 hw
    exact ⟨n, one_of e1, by omega, by omega⟩)
  refine ⟨l, hl, ?_⟩
  congr 1
  apply Array.ext'
  exact e
theorem scnew_good {b : List UInt8} (hb : b.length = 32) (h : le b < LL) (w : World) :
    Calls Try.prog 16 #[.agg (By b).toArray] w fun e w' => e = .returned (.tuple #[.agg (Us (ws (le b))).toArray, .bool true]) ∧ Below w.heap.size w w' := by
  have h1 := scnew_f hb w
  rw [if_pos h, decide_eq_true h] at h1
  exact h1
theorem scnew_bad {b : List UInt8} (hb : b.length = 32) (h : ¬ le b < LL) (w : World) :
    Calls Try.prog 16 #[.agg (By b).toArray] w fun e w' => e = .returned (.tuple #[.agg (Us (ws 0)).toArray, .bool false]) ∧ Below w.heap.size w w' := by
  have h1 := scnew_f hb w
  rw [if_neg h, decide_eq_false h] at h1
  exact h1
theorem bytes_le32 {b : List UInt8} (hb : b.length = 32) (h : le b < LL) : Nums.bytes 32 (le b) = b :=
  le_inj (by rw [bytes_len, hb]) (le_bytes32 h)
theorem bitI_zero (i : Int) : bitI 0 i = false := by
  unfold bitI
  rw [Nat.zero_div]
  simp
/-- The byte's bit is the number's. -/
theorem byte_bit {b : List UInt8} (hb : b.length = 32) (h : le b < LL) {k : Nat} (hk : k < 256) : (b[k / 8]!).toNat / 2 ^ (k % 8) % 2 = le b / 2 ^ k % 2 := by
  have e0 := bytes_get 32 (le b) (m := k / 8) (by omega)
  rw [bytes_le32 hb h] at e0
  rw [e0]
  have e : (2 : Nat) ^ k = 256 ^ (k / 8) * 2 ^ (k % 8) := by
    rw [show (256 : Nat) = 2 ^ 8 from rfl, ← Nat.pow_mul, ← Nat.pow_add]
    congr 1
    omega
  rw [e, ← Nat.div_div_eq_div_mul]
  generalize le b / 256 ^ (k / 8) = z
  have hs : k % 8 < 8 := Nat.mod_lt _ (by decide)
  generalize k % 8 = s at *
  have e2 : 256 = 2 ^ s * (2 * 2 ^ (7 - s)) := by
    rw [← Nat.pow_succ', ← Nat.pow_add]
    rw [show s + (7 - s + 1) = 8 by omega]
  rw [e2, Nat.mod_mul_right_div_self, Nat.mod_mul_right_mod]

set_option maxRecDepth 100000 in
set_option maxHeartbeats 4000000 in
theorem scalarNews_walk {a : List UInt8} {d : List UInt8} (i : Int) (la : a.length = 32) (ld : d.length = 64) (w : World) :
    Calls Try.prog 4 #[.agg (By a).toArray, .agg (By d).toArray, .int .i64 i] w fun e w' => e = .returned (.bool true) ∧ Below w.heap.size w w' := by
  go_enter Try.func4, Try.ntmps4
  refine wp_seq_k fun K hK => ?_
  refine wp_region_lit ?_
  refine wpl_box (By a).toArray rfl rfl rfl ?_
  refine wpl_box (By d).toArray rfl rfl rfl ?_
  refine wpl_assign rfl rfl ?_
  refine wpl_nil ?_
  go_simp
  refine hK _ _ ?_
  clear hK K
  refine wp_at (fun W => Blk W (w.heap.size) 22 (By a).toArray ∧ Blk W (w.heap.size + 1) 35 (By d).toArray ∧ Below w.heap.size w W)
    ⟨heap_alloc2_old w _ _, heap_alloc2_new w _ _, ((Below.refl _ _).alloc (Nat.le_refl _) _).alloc (by simp) _⟩ ?_
  rintro W ⟨ha, hd, hbe⟩
  -- walk news
  refine wp_seq_k fun K hK => ?_
  refine wp_seq_k fun K2 hK2 => ?_
  refine reg_qF ?_
  refine b_one rfl own_first4 (fun w1 => first4_f w1) rfl rfl ?_
  simp only [Act.put, List.setIfInBounds_toArray, List.set_cons_zero, List.set_cons_succ]
  refine b_not _ rfl rfl rfl ?_
  simp only [Act.put, List.setIfInBounds_toArray, List.set_cons_zero, List.set_cons_succ]
  refine wpB_nil ?_
  intro W1 hw1
  simp only [Exit.then]
  refine hK2 _ _ ?_
  clear hK2 K2
  have ha := hw1.blk ha
  have hd := hw1.blk hd
  have hbe := below_up hbe hw1
  clear hw1
  refine wp_cond (t := false) rfl ?_
  rw [if_neg (by decide)]
  refine wp_skip ?_
  simp only [Exit.then]
  refine hK _ _ ?_
  clear hK K
  by_cases hG : le a < LL
  · refine wp_seq_k fun K hK => ?_
    refine reg_tailF 5 ?_
    simp only [List.take_succ_cons, List.take_zero, List.drop_succ_cons, List.drop_zero]
    refine b_by w.heap.size la _ rfl rfl rfl (fun _ h => h.blk ha) ?_
    simp only [Act.put, List.setIfInBounds_toArray, List.set_cons_zero, List.set_cons_succ]
    refine b_one rfl own_scnew (fun w1 => scnew_good la hG w1) rfl rfl ?_
    simp only [Act.put, List.setIfInBounds_toArray, List.set_cons_zero, List.set_cons_succ]
    refine b_moveV (.tuple #[.agg (Us (ws (le a))).toArray, .bool true]) rfl rfl rfl ?_
    simp only [Act.put, List.setIfInBounds_toArray, List.set_cons_zero, List.set_cons_succ]
    refine b_extract (.agg (Us (ws (le a))).toArray) rfl rfl rfl rfl ?_
    simp only [Act.put, List.setIfInBounds_toArray, List.set_cons_zero, List.set_cons_succ]
    refine b_extract (.bool true) rfl rfl rfl rfl ?_
    simp only [Act.put, List.setIfInBounds_toArray, List.set_cons_zero, List.set_cons_succ]
    refine wpB_nil ?_
    intro W0 hw0
    refine wpl_alloc (zs := z4) rfl rfl (by kernel_rfl) ?_
    simp only [Act.put, List.setIfInBounds_toArray, List.set_cons_zero, List.set_cons_succ]
    have hb0 := Blk.new W0 27 z4
    have hg0 := hw0.size
    have hw1 := hw0.alloc (Obj.cells z4 27)
    clear hw0
    generalize W0.alloc (Obj.cells z4 27) = W1 at *
    generalize W0.heap.size = gx at *
    refine wpList_store_row rfl 27 _ _ rfl gx rfl (Us (ws (le a))).toArray rfl 27 _ hb0 (size_sc _ (len_u4 (ws_len _))) (len_u4 (ws_len _)).symm (Us_one _) ?_
    refine wpl_assignV (.bool true) rfl rfl rfl ?_
    refine wpl_nil ?_
    simp only [Exit.then, Act.put, List.setIfInBounds_toArray, List.set_cons_zero, List.set_cons_succ]
    refine hK _ _ ?_
    clear hK K
    have ha := (hw1.blk ha).rowFar (Nat.ne_of_lt (Nat.lt_of_lt_of_le (ha).lt hg0)) (g' := gx) (Us (ws (le a))).toArray
    have hd := (hw1.blk hd).rowFar (Nat.ne_of_lt (Nat.lt_of_lt_of_le (hd).lt hg0)) (g' := gx) (Us (ws (le a))).toArray
    have hbx := hb0.row (Us (ws (le a))).toArray
    have hbe := below_setRow (below_up hbe hw1) (Nat.le_trans hbe.size hg0) (Us (ws (le a))).toArray
    clear hw1 hb0
    generalize World.setRow _ gx (Us (ws (le a))).toArray = W2 at *
    refine wp_seq_k fun K hK => ?_
    refine wp_seq_k fun K2 hK2 => ?_
    refine reg_q (by kernel_rfl) (tail_ok (by kernel_rfl)) (fun _ _ d _ _ h => by cases d <;> exact h) ?_
    refine b_move rfl rfl ?_
    simp only [Act.put, List.setIfInBounds_toArray, List.set_cons_zero, List.set_cons_succ]
    refine b_by w.heap.size la _ rfl rfl rfl (fun _ h => h.blk ha) ?_
    simp only [Act.put, List.setIfInBounds_toArray, List.set_cons_zero, List.set_cons_succ]
    refine b_one (v := .bool true) rfl own_rgood (fun w1 => (good4_f a la w1).mono fun e w' h => by rw [h.1, decide_eq_true hG]; exact ⟨rfl, h.2⟩) rfl rfl ?_
    simp only [Act.put, List.setIfInBounds_toArray, List.set_cons_zero, List.set_cons_succ]
    refine b_neqb _ rfl rfl rfl rfl ?_
    simp only [Act.put, List.setIfInBounds_toArray, List.set_cons_zero, List.set_cons_succ]
    refine b_move rfl rfl ?_
    simp only [Act.put, List.setIfInBounds_toArray, List.set_cons_zero, List.set_cons_succ]
    refine b_move rfl rfl ?_
    simp only [Act.put, List.setIfInBounds_toArray, List.set_cons_zero, List.set_cons_succ]
    refine b_move rfl rfl ?_
    simp only [Act.put, List.setIfInBounds_toArray, List.set_cons_zero, List.set_cons_succ]
    refine b_sc gx (ws_len _) _ rfl rfl rfl (fun _ h => h.blk hbx) ?_
    simp only [Act.put, List.setIfInBounds_toArray, List.set_cons_zero, List.set_cons_succ]
    refine b_one rfl own_schash (fun w1 => schash_f (le a) w1) rfl rfl ?_
    simp only [Act.put, List.setIfInBounds_toArray, List.set_cons_zero, List.set_cons_succ]
    refine b_by w.heap.size la _ rfl rfl rfl (fun _ h => h.blk ha) ?_
    simp only [Act.put, List.setIfInBounds_toArray, List.set_cons_zero, List.set_cons_succ]
    refine b_neq (q := true) (By (Nums.bytes 32 (le a))).toArray (By a).toArray rfl rfl rfl rfl (by kernel_rfl) (fun w1 => by rw [bytes_le32 la hG, equal32 a a la la w1, decide_eq_true rfl]) ?_
    simp only [Act.put, List.setIfInBounds_toArray, List.set_cons_zero, List.set_cons_succ]
    refine b_pick rfl rfl rfl ?_
    simp only [Act.put, List.setIfInBounds_toArray, List.set_cons_zero, List.set_cons_succ]
    refine b_pickF rfl rfl rfl ?_
    simp only [Act.put, List.setIfInBounds_toArray, List.set_cons_zero, List.set_cons_succ]
    refine b_move rfl rfl ?_
    simp only [Act.put, List.setIfInBounds_toArray, List.set_cons_zero, List.set_cons_succ]
    refine b_move rfl rfl ?_
    simp only [Act.put, List.setIfInBounds_toArray, List.set_cons_zero, List.set_cons_succ]
    refine b_not _ rfl rfl rfl ?_
    simp only [Act.put, List.setIfInBounds_toArray, List.set_cons_zero, List.set_cons_succ]
    refine b_move rfl rfl ?_
    simp only [Act.put, List.setIfInBounds_toArray, List.set_cons_zero, List.set_cons_succ]
    refine b_skip rfl ?_
    simp only [Act.put, List.setIfInBounds_toArray, List.set_cons_zero, List.set_cons_succ]
    refine b_skip rfl ?_
    simp only [Act.put, List.setIfInBounds_toArray, List.set_cons_zero, List.set_cons_succ]
    refine b_skip rfl ?_
    simp only [Act.put, List.setIfInBounds_toArray, List.set_cons_zero, List.set_cons_succ]
    refine b_skip rfl ?_
    simp only [Act.put, List.setIfInBounds_toArray, List.set_cons_zero, List.set_cons_succ]
    refine b_pickF rfl rfl rfl ?_
    simp only [Act.put, List.setIfInBounds_toArray, List.set_cons_zero, List.set_cons_succ]
    refine b_pickF rfl rfl rfl ?_
    simp only [Act.put, List.setIfInBounds_toArray, List.set_cons_zero, List.set_cons_succ]
    refine wpB_nil ?_
    intro W3 hw1
    simp only [Exit.then]
    refine hK2 _ _ ?_
    clear hK2 K2
    have ha := hw1.blk ha
    have hd := hw1.blk hd
    have hbx := hw1.blk hbx
    have hbe := below_up hbe hw1
    clear hw1
    refine wp_cond (t := false) rfl ?_
    rw [if_neg (by decide)]
    refine wp_skip ?_
    simp only [Exit.then]
    refine hK _ _ ?_
    clear hK K
    have HS := Lib.hid (And.intro ha (And.intro hd (And.intro hbx hbe)))
    by_cases h0 : 0 ≤ i
    · by_cases h1 : i < 256
      · obtain ⟨k, rfl⟩ := Int.eq_ofNat_of_zero_le h0
        have hk : k < 256 := by omega
        have hbit := byte_bit la hG hk
        have hbI := bitI_in (x := le a) hk
        rw [← hbit] at hbI
        have c0 := (ha.cell (k / 8)).trans (By_get (by omega))
        have hv := (a[k / 8]!).toNat_lt
        generalize (a[k / 8]!).toNat = y at *
        have qd : (k : Int).tdiv 8 = ((k / 8 : Nat) : Int) := rfl
        have qm : (k : Int).tmod 8 = ((k % 8 : Nat) : Int) := rfl
        have g1 : ((k / 8 : Nat) : Int) < 32 := by omega
        have g2 : ((k % 8 : Nat) : Int) < 8 := by omega
        have g3 : IntKind.u64.wrap ((k % 8 : Nat) : Int) = ((k % 8 : Nat) : Int) := wrapN _ (by omega)
        generalize k / 8 = q at *
        generalize k % 8 = s at *
        have hrem : ((y : Int) / 2 ^ s).tmod 2 = ((y / 2 ^ s % 2 : Nat) : Int) := by
          have f1 : ((y : Int) / 2 ^ s) = ((y / 2 ^ s : Nat) : Int) := by simp
          rw [f1]
          rfl
        generalize y / 2 ^ s % 2 = m at *
        have hdec : ((m : Int) == 1) = decide (m = 1) := by
          rw [Bool.eq_iff_iff]
          simp
          omega
        clear hbit ha hd hbx hbe
        go_wp2
        obtain ⟨ha, hd, hbx, hbe⟩ := HS.out
        refine reg_q (by kernel_rfl) (tail_ok (by kernel_rfl)) (fun _ _ d _ _ h => by cases d <;> exact h) ?_
        refine b_sc gx (ws_len _) _ rfl rfl rfl (fun _ h => h.blk hbx) ?_
        simp only [Act.put, List.setIfInBounds_toArray, List.set_cons_zero, List.set_cons_succ]
        refine b_move rfl rfl ?_
        simp only [Act.put, List.setIfInBounds_toArray, List.set_cons_zero, List.set_cons_succ]
        refine b_one (v := .bool (decide (m = 1))) rfl own_scbit (fun w1 => (scbit_f (le a) (k : Int) w1).mono fun e w' h => by rw [h.1, hbI]; exact ⟨rfl, h.2⟩) rfl rfl ?_
        simp only [Act.put, List.setIfInBounds_toArray, List.set_cons_zero, List.set_cons_succ]
        refine b_move rfl rfl ?_
        simp only [Act.put, List.setIfInBounds_toArray, List.set_cons_zero, List.set_cons_succ]
        refine b_eqb (decide (m = 1)) rfl rfl rfl rfl ?_
        simp only [Act.put, List.setIfInBounds_toArray, List.set_cons_zero, List.set_cons_succ]
        refine b_move rfl rfl ?_
        simp only [Act.put, List.setIfInBounds_toArray, List.set_cons_zero, List.set_cons_succ]
        refine b_by64 (w.heap.size + 1) ld _ rfl rfl rfl (fun _ h => h.blk hd) ?_
        simp only [Act.put, List.setIfInBounds_toArray, List.set_cons_zero, List.set_cons_succ]
        refine b_one rfl own_wide (fun w1 => wide_f ld w1) rfl rfl ?_
        simp only [Act.put, List.setIfInBounds_toArray, List.set_cons_zero, List.set_cons_succ]
        refine b_one rfl own_schash (fun w1 => schash_f (le d % LL) w1) rfl rfl ?_
        simp only [Act.put, List.setIfInBounds_toArray, List.set_cons_zero, List.set_cons_succ]
        refine b_slice64 (w.heap.size + 1) rfl rfl rfl ?_
        simp only [Act.put, List.setIfInBounds_toArray, List.set_cons_zero, List.set_cons_succ]
        refine b_oneC rfl own_mod (fun w1 h => rmod64_f ld (w.heap.size + 1) _ w1 (h.blk hd)) rfl rfl ?_
        simp only [Act.put, List.setIfInBounds_toArray, List.set_cons_zero, List.set_cons_succ]
        refine b_eqn (le d % LL) (le d % LL) (rfl) rfl rfl rfl rfl rfl ?_
        simp only [Act.put, List.setIfInBounds_toArray, List.set_cons_zero, List.set_cons_succ]
        refine b_pick rfl rfl rfl ?_
        simp only [Act.put, List.setIfInBounds_toArray, List.set_cons_zero, List.set_cons_succ]
        refine b_assign rfl rfl ?_
        refine wpB_nil ?_
        intro W4 hw1
        have hbe := below_up hbe hw1
        clear hw1
        go_wp2
        go_ret
        exact ⟨rfl, hbe⟩
      · have hbI : bitI (le a) i = false := bitI_out (.inr (by omega))
        clear ha hd hbx hbe
        go_wp2
        obtain ⟨ha, hd, hbx, hbe⟩ := HS.out
        refine reg_q (by kernel_rfl) (tail_ok (by kernel_rfl)) (fun _ _ d _ _ h => by cases d <;> exact h) ?_
        refine b_sc gx (ws_len _) _ rfl rfl rfl (fun _ h => h.blk hbx) ?_
        simp only [Act.put, List.setIfInBounds_toArray, List.set_cons_zero, List.set_cons_succ]
        refine b_move rfl rfl ?_
        simp only [Act.put, List.setIfInBounds_toArray, List.set_cons_zero, List.set_cons_succ]
        refine b_one (v := .bool false) rfl own_scbit (fun w1 => (scbit_f (le a) i w1).mono fun e w' h => by rw [h.1, hbI]; exact ⟨rfl, h.2⟩) rfl rfl ?_
        simp only [Act.put, List.setIfInBounds_toArray, List.set_cons_zero, List.set_cons_succ]
        refine b_move rfl rfl ?_
        simp only [Act.put, List.setIfInBounds_toArray, List.set_cons_zero, List.set_cons_succ]
        refine b_eqb false rfl rfl rfl rfl ?_
        simp only [Act.put, List.setIfInBounds_toArray, List.set_cons_zero, List.set_cons_succ]
        refine b_move rfl rfl ?_
        simp only [Act.put, List.setIfInBounds_toArray, List.set_cons_zero, List.set_cons_succ]
        refine b_by64 (w.heap.size + 1) ld _ rfl rfl rfl (fun _ h => h.blk hd) ?_
        simp only [Act.put, List.setIfInBounds_toArray, List.set_cons_zero, List.set_cons_succ]
        refine b_one rfl own_wide (fun w1 => wide_f ld w1) rfl rfl ?_
        simp only [Act.put, List.setIfInBounds_toArray, List.set_cons_zero, List.set_cons_succ]
        refine b_one rfl own_schash (fun w1 => schash_f (le d % LL) w1) rfl rfl ?_
        simp only [Act.put, List.setIfInBounds_toArray, List.set_cons_zero, List.set_cons_succ]
        refine b_slice64 (w.heap.size + 1) rfl rfl rfl ?_
        simp only [Act.put, List.setIfInBounds_toArray, List.set_cons_zero, List.set_cons_succ]
        refine b_oneC rfl own_mod (fun w1 h => rmod64_f ld (w.heap.size + 1) _ w1 (h.blk hd)) rfl rfl ?_
        simp only [Act.put, List.setIfInBounds_toArray, List.set_cons_zero, List.set_cons_succ]
        refine b_eqn (le d % LL) (le d % LL) (rfl) rfl rfl rfl rfl rfl ?_
        simp only [Act.put, List.setIfInBounds_toArray, List.set_cons_zero, List.set_cons_succ]
        refine b_pick rfl rfl rfl ?_
        simp only [Act.put, List.setIfInBounds_toArray, List.set_cons_zero, List.set_cons_succ]
        refine b_assign rfl rfl ?_
        refine wpB_nil ?_
        intro W4 hw1
        have hbe := below_up hbe hw1
        clear hw1
        go_wp2
        go_ret
        exact ⟨rfl, hbe⟩
    · have hbI : bitI (le a) i = false := bitI_out (.inl (by omega))
      clear ha hd hbx hbe
      go_wp2
      obtain ⟨ha, hd, hbx, hbe⟩ := HS.out
      refine reg_q (by kernel_rfl) (tail_ok (by kernel_rfl)) (fun _ _ d _ _ h => by cases d <;> exact h) ?_
      refine b_sc gx (ws_len _) _ rfl rfl rfl (fun _ h => h.blk hbx) ?_
      simp only [Act.put, List.setIfInBounds_toArray, List.set_cons_zero, List.set_cons_succ]
      refine b_move rfl rfl ?_
      simp only [Act.put, List.setIfInBounds_toArray, List.set_cons_zero, List.set_cons_succ]
      refine b_one (v := .bool false) rfl own_scbit (fun w1 => (scbit_f (le a) i w1).mono fun e w' h => by rw [h.1, hbI]; exact ⟨rfl, h.2⟩) rfl rfl ?_
      simp only [Act.put, List.setIfInBounds_toArray, List.set_cons_zero, List.set_cons_succ]
      refine b_move rfl rfl ?_
      simp only [Act.put, List.setIfInBounds_toArray, List.set_cons_zero, List.set_cons_succ]
      refine b_eqb false rfl rfl rfl rfl ?_
      simp only [Act.put, List.setIfInBounds_toArray, List.set_cons_zero, List.set_cons_succ]
      refine b_move rfl rfl ?_
      simp only [Act.put, List.setIfInBounds_toArray, List.set_cons_zero, List.set_cons_succ]
      refine b_by64 (w.heap.size + 1) ld _ rfl rfl rfl (fun _ h => h.blk hd) ?_
      simp only [Act.put, List.setIfInBounds_toArray, List.set_cons_zero, List.set_cons_succ]
      refine b_one rfl own_wide (fun w1 => wide_f ld w1) rfl rfl ?_
      simp only [Act.put, List.setIfInBounds_toArray, List.set_cons_zero, List.set_cons_succ]
      refine b_one rfl own_schash (fun w1 => schash_f (le d % LL) w1) rfl rfl ?_
      simp only [Act.put, List.setIfInBounds_toArray, List.set_cons_zero, List.set_cons_succ]
      refine b_slice64 (w.heap.size + 1) rfl rfl rfl ?_
      simp only [Act.put, List.setIfInBounds_toArray, List.set_cons_zero, List.set_cons_succ]
      refine b_oneC rfl own_mod (fun w1 h => rmod64_f ld (w.heap.size + 1) _ w1 (h.blk hd)) rfl rfl ?_
      simp only [Act.put, List.setIfInBounds_toArray, List.set_cons_zero, List.set_cons_succ]
      refine b_eqn (le d % LL) (le d % LL) (rfl) rfl rfl rfl rfl rfl ?_
      simp only [Act.put, List.setIfInBounds_toArray, List.set_cons_zero, List.set_cons_succ]
      refine b_pick rfl rfl rfl ?_
      simp only [Act.put, List.setIfInBounds_toArray, List.set_cons_zero, List.set_cons_succ]
      refine b_assign rfl rfl ?_
      refine wpB_nil ?_
      intro W4 hw1
      have hbe := below_up hbe hw1
      clear hw1
      go_wp2
      go_ret
      exact ⟨rfl, hbe⟩
  · refine wp_seq_k fun K hK => ?_
    refine reg_tailF 5 ?_
    simp only [List.take_succ_cons, List.take_zero, List.drop_succ_cons, List.drop_zero]
    refine b_by w.heap.size la _ rfl rfl rfl (fun _ h => h.blk ha) ?_
    simp only [Act.put, List.setIfInBounds_toArray, List.set_cons_zero, List.set_cons_succ]
    refine b_one rfl own_scnew (fun w1 => scnew_bad la hG w1) rfl rfl ?_
    simp only [Act.put, List.setIfInBounds_toArray, List.set_cons_zero, List.set_cons_succ]
    refine b_moveV (.tuple #[.agg (Us (ws 0)).toArray, .bool false]) rfl rfl rfl ?_
    simp only [Act.put, List.setIfInBounds_toArray, List.set_cons_zero, List.set_cons_succ]
    refine b_extract (.agg (Us (ws 0)).toArray) rfl rfl rfl rfl ?_
    simp only [Act.put, List.setIfInBounds_toArray, List.set_cons_zero, List.set_cons_succ]
    refine b_extract (.bool false) rfl rfl rfl rfl ?_
    simp only [Act.put, List.setIfInBounds_toArray, List.set_cons_zero, List.set_cons_succ]
    refine wpB_nil ?_
    intro W0 hw0
    refine wpl_alloc (zs := z4) rfl rfl (by kernel_rfl) ?_
    simp only [Act.put, List.setIfInBounds_toArray, List.set_cons_zero, List.set_cons_succ]
    have hb0 := Blk.new W0 27 z4
    have hg0 := hw0.size
    have hw1 := hw0.alloc (Obj.cells z4 27)
    clear hw0
    generalize W0.alloc (Obj.cells z4 27) = W1 at *
    generalize W0.heap.size = gx at *
    refine wpList_store_row rfl 27 _ _ rfl gx rfl (Us (ws 0)).toArray rfl 27 _ hb0 (size_sc _ (len_u4 (ws_len _))) (len_u4 (ws_len _)).symm (Us_one _) ?_
    refine wpl_assignV (.bool false) rfl rfl rfl ?_
    refine wpl_nil ?_
    simp only [Exit.then, Act.put, List.setIfInBounds_toArray, List.set_cons_zero, List.set_cons_succ]
    refine hK _ _ ?_
    clear hK K
    have ha := (hw1.blk ha).rowFar (Nat.ne_of_lt (Nat.lt_of_lt_of_le (ha).lt hg0)) (g' := gx) (Us (ws 0)).toArray
    have hd := (hw1.blk hd).rowFar (Nat.ne_of_lt (Nat.lt_of_lt_of_le (hd).lt hg0)) (g' := gx) (Us (ws 0)).toArray
    have hbx := hb0.row (Us (ws 0)).toArray
    have hbe := below_setRow (below_up hbe hw1) (Nat.le_trans hbe.size hg0) (Us (ws 0)).toArray
    clear hw1 hb0
    generalize World.setRow _ gx (Us (ws 0)).toArray = W2 at *
    refine wp_seq_k fun K hK => ?_
    refine wp_seq_k fun K2 hK2 => ?_
    refine reg_q (by kernel_rfl) (tail_ok (by kernel_rfl)) (fun _ _ d _ _ h => by cases d <;> exact h) ?_
    refine b_move rfl rfl ?_
    simp only [Act.put, List.setIfInBounds_toArray, List.set_cons_zero, List.set_cons_succ]
    refine b_by w.heap.size la _ rfl rfl rfl (fun _ h => h.blk ha) ?_
    simp only [Act.put, List.setIfInBounds_toArray, List.set_cons_zero, List.set_cons_succ]
    refine b_one (v := .bool false) rfl own_rgood (fun w1 => (good4_f a la w1).mono fun e w' h => by rw [h.1, decide_eq_false hG]; exact ⟨rfl, h.2⟩) rfl rfl ?_
    simp only [Act.put, List.setIfInBounds_toArray, List.set_cons_zero, List.set_cons_succ]
    refine b_neqb _ rfl rfl rfl rfl ?_
    simp only [Act.put, List.setIfInBounds_toArray, List.set_cons_zero, List.set_cons_succ]
    refine b_move rfl rfl ?_
    simp only [Act.put, List.setIfInBounds_toArray, List.set_cons_zero, List.set_cons_succ]
    refine b_move rfl rfl ?_
    simp only [Act.put, List.setIfInBounds_toArray, List.set_cons_zero, List.set_cons_succ]
    refine b_move rfl rfl ?_
    simp only [Act.put, List.setIfInBounds_toArray, List.set_cons_zero, List.set_cons_succ]
    refine b_skip rfl ?_
    simp only [Act.put, List.setIfInBounds_toArray, List.set_cons_zero, List.set_cons_succ]
    refine b_skip rfl ?_
    simp only [Act.put, List.setIfInBounds_toArray, List.set_cons_zero, List.set_cons_succ]
    refine b_skip rfl ?_
    simp only [Act.put, List.setIfInBounds_toArray, List.set_cons_zero, List.set_cons_succ]
    refine b_skip rfl ?_
    simp only [Act.put, List.setIfInBounds_toArray, List.set_cons_zero, List.set_cons_succ]
    refine b_pickF rfl rfl rfl ?_
    simp only [Act.put, List.setIfInBounds_toArray, List.set_cons_zero, List.set_cons_succ]
    refine b_pickF rfl rfl rfl ?_
    simp only [Act.put, List.setIfInBounds_toArray, List.set_cons_zero, List.set_cons_succ]
    refine b_move rfl rfl ?_
    simp only [Act.put, List.setIfInBounds_toArray, List.set_cons_zero, List.set_cons_succ]
    refine b_move rfl rfl ?_
    simp only [Act.put, List.setIfInBounds_toArray, List.set_cons_zero, List.set_cons_succ]
    refine b_not _ rfl rfl rfl ?_
    simp only [Act.put, List.setIfInBounds_toArray, List.set_cons_zero, List.set_cons_succ]
    refine b_move rfl rfl ?_
    simp only [Act.put, List.setIfInBounds_toArray, List.set_cons_zero, List.set_cons_succ]
    refine b_sc gx (ws_len _) _ rfl rfl rfl (fun _ h => h.blk hbx) ?_
    simp only [Act.put, List.setIfInBounds_toArray, List.set_cons_zero, List.set_cons_succ]
    refine b_one rfl own_schash (fun w1 => schash_f 0 w1) rfl rfl ?_
    simp only [Act.put, List.setIfInBounds_toArray, List.set_cons_zero, List.set_cons_succ]
    refine b_build _ _ rfl rfl rfl built_b0 ?_
    simp only [Act.put, List.setIfInBounds_toArray, List.set_cons_zero, List.set_cons_succ]
    refine b_neq (q := true) (By (Nums.bytes 32 0)).toArray (By (Nums.bytes 32 0)).toArray rfl rfl rfl rfl (by kernel_rfl) (fun w1 => by rw [equal32 _ _ (bytes_len _ _) (bytes_len _ _) w1, decide_eq_true rfl]) ?_
    simp only [Act.put, List.setIfInBounds_toArray, List.set_cons_zero, List.set_cons_succ]
    refine b_pick rfl rfl rfl ?_
    simp only [Act.put, List.setIfInBounds_toArray, List.set_cons_zero, List.set_cons_succ]
    refine b_pickF rfl rfl rfl ?_
    simp only [Act.put, List.setIfInBounds_toArray, List.set_cons_zero, List.set_cons_succ]
    refine wpB_nil ?_
    intro W3 hw1
    simp only [Exit.then]
    refine hK2 _ _ ?_
    clear hK2 K2
    have ha := hw1.blk ha
    have hd := hw1.blk hd
    have hbx := hw1.blk hbx
    have hbe := below_up hbe hw1
    clear hw1
    refine wp_cond (t := false) rfl ?_
    rw [if_neg (by decide)]
    refine wp_skip ?_
    simp only [Exit.then]
    refine hK _ _ ?_
    clear hK K
    have HS := Lib.hid (And.intro ha (And.intro hd (And.intro hbx hbe)))
    clear ha hd hbx hbe
    go_wp2
    obtain ⟨ha, hd, hbx, hbe⟩ := HS.out
    refine reg_q (by kernel_rfl) (tail_ok (by kernel_rfl)) (fun _ _ d _ _ h => by cases d <;> exact h) ?_
    refine b_sc gx (ws_len _) _ rfl rfl rfl (fun _ h => h.blk hbx) ?_
    simp only [Act.put, List.setIfInBounds_toArray, List.set_cons_zero, List.set_cons_succ]
    refine b_move rfl rfl ?_
    simp only [Act.put, List.setIfInBounds_toArray, List.set_cons_zero, List.set_cons_succ]
    refine b_one (v := .bool false) rfl own_scbit (fun w1 => (scbit_f 0 i w1).mono fun e w' h => by rw [h.1, bitI_zero i]; exact ⟨rfl, h.2⟩) rfl rfl ?_
    simp only [Act.put, List.setIfInBounds_toArray, List.set_cons_zero, List.set_cons_succ]
    refine b_move rfl rfl ?_
    simp only [Act.put, List.setIfInBounds_toArray, List.set_cons_zero, List.set_cons_succ]
    refine b_eqb false rfl rfl rfl rfl ?_
    simp only [Act.put, List.setIfInBounds_toArray, List.set_cons_zero, List.set_cons_succ]
    refine b_move rfl rfl ?_
    simp only [Act.put, List.setIfInBounds_toArray, List.set_cons_zero, List.set_cons_succ]
    refine b_by64 (w.heap.size + 1) ld _ rfl rfl rfl (fun _ h => h.blk hd) ?_
    simp only [Act.put, List.setIfInBounds_toArray, List.set_cons_zero, List.set_cons_succ]
    refine b_one rfl own_wide (fun w1 => wide_f ld w1) rfl rfl ?_
    simp only [Act.put, List.setIfInBounds_toArray, List.set_cons_zero, List.set_cons_succ]
    refine b_one rfl own_schash (fun w1 => schash_f (le d % LL) w1) rfl rfl ?_
    simp only [Act.put, List.setIfInBounds_toArray, List.set_cons_zero, List.set_cons_succ]
    refine b_slice64 (w.heap.size + 1) rfl rfl rfl ?_
    simp only [Act.put, List.setIfInBounds_toArray, List.set_cons_zero, List.set_cons_succ]
    refine b_oneC rfl own_mod (fun w1 h => rmod64_f ld (w.heap.size + 1) _ w1 (h.blk hd)) rfl rfl ?_
    simp only [Act.put, List.setIfInBounds_toArray, List.set_cons_zero, List.set_cons_succ]
    refine b_eqn (le d % LL) (le d % LL) (rfl) rfl rfl rfl rfl rfl ?_
    simp only [Act.put, List.setIfInBounds_toArray, List.set_cons_zero, List.set_cons_succ]
    refine b_pick rfl rfl rfl ?_
    simp only [Act.put, List.setIfInBounds_toArray, List.set_cons_zero, List.set_cons_succ]
    refine b_assign rfl rfl ?_
    refine wpB_nil ?_
    intro W4 hw1
    have hbe := below_up hbe hw1
    clear hw1
    go_wp2
    go_ret
    exact ⟨rfl, hbe⟩
  -- end news

theorem scalarNews_types : ∀ t ∈ Try.f4.params.toList, Try.prog.readableRec t = true ∧ t < Try.prog.types.size := by
  have h : Try.f4.params.toList.all (fun t => Try.prog.readableRec t && decide (t < Try.prog.types.size)) = true := by kernel_rfl
  intro t ht
  have := List.all_eq_true.1 h t ht
  simpa using this

set_option maxRecDepth 100000 in
theorem scalarNews_lifted (os : Os) (started : os.Started) (H : Type) (enc : TypeId × Value → H) :
    ReturnsInHanded {} Try.checked os 4 .any (Rows.scalarNewsSpec.pre6 enc Try.prog Try.f4 Rows.scalarNewsRow.domain false) (Rows.scalarNewsSpec.post enc Try.prog Try.f4 false true false false) := by
  refine returnsInHanded_of_change (C := Try.checked) own started (by kernel_rfl) Try.func4
    (ChangeSpec.witness6 (enc := enc) (C := Try.checked) false ⟨#[], #[.agg (By (List.replicate 32 0)).toArray, .agg (By (List.replicate 64 0)).toArray, .int .i64 0], []⟩ 8 (by kernel_rfl) (by kernel_rfl) (by kernel_rfl) (by kernel_rfl)) ?_
  intro W base args ds gs before hval0 hW _ _
  have hval : ∀ (j : Nat) t v, Try.f4.params[j]? = some t → args[j]? = some v → Value.okWide Try.prog W .any base t v := hval0
  have hW' : DataW.Whole enc Try.prog Try.f4.params.toList Rows.scalarNewsSpec.vars false W args.toList ds gs before := hW
  obtain ⟨p, q, hA0, hV, rfl, hfz, hnd⟩ := hW
  have hA : DataW.TrodAll enc Try.prog W 0 (fun _ => true) true Try.f4.params.toList args.toList ds p := hA0
  rw [Try.params4] at hA hval
  obtain ⟨v0, v1, v2, d0, d1, d2, p0, p1, p2, rfl, rfl, rfl, h0, h1, h2⟩ := trodAll_three hA
  obtain ⟨rfl, rfl⟩ := trodVars_none hV
  obtain ⟨a, la, rfl⟩ := open_hash (hval 0 22 v0 rfl rfl) h0
  obtain ⟨d, ld, rfl⟩ := open_w64 (hval 1 35 v1 rfl rfl) h1
  obtain ⟨n2, rfl, rfl, rfl, w2⟩ := open_int Try.underlying3 (hval 2 3 v2 rfl rfl) h2
  clear hA0 hval0
  refine (scalarNews_walk n2 la ld W).mono fun e W' ⟨he, hb⟩ => ?_
  exact ⟨_, he, law_post (by kernel_rfl) rfl scalarNews_types hW' rfl hb⟩

theorem scalarNews_holds : Rows.ScalarNewsSaid :=
  OpenClaim.holds_of_wide 4 Try.f4 rfl rfl rfl rfl rfl rfl rfl ⟨rfl, rfl, rfl, rfl, rfl⟩ rfl rfl rfl rfl rfl (by kernel_rfl) Try.func4 (by kernel_rfl)
    (of_decide_eq_true (by kernel_rfl)) (by unfold Func.isWrapper; first | (rw [if_pos (by decide +kernel)]; kernel_rfl) | (rw [if_neg (by decide +kernel)]; exact ⟨rfl, rfl⟩))
    (fun os started H enc _ => scalarNews_lifted os started H enc)
#print axioms scalarNews_holds
end Go.Proofs.Ythejahhhmkkhoaa
