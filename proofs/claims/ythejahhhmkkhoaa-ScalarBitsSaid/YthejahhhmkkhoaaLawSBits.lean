/-
  PROVED: ScalarBits answers true for every input: a number is the sum of the powers of two of its bits. No condition: the statement '..Said' itself.
-/
import Derived.Test.YthejahhhmkkhoaaLaw
import Derived.Test.YthejahhhmkkhoaaScFirst
namespace Go.Proofs.Ythejahhhmkkhoaa
open Go.RowKit Go.IntWalk Nums
open Go.ChangeShapes Go.WideShapes Go.ChangeAt

/-- What the loop's numbers lie in. -/
structure BS (w wr : World) (gx gs gp X s p : Nat) : Prop where
  bx : Blk wr gx 27 (Us (ws X)).toArray
  bs : Blk wr gs 27 (Us (ws s)).toArray
  bp : Blk wr gp 27 (Us (ws p)).toArray
  be : Below w.heap.size w wr
theorem BS.later {w wr w1 : World} {gx gs gp X s p : Nat} (h : BS w wr gx gs gp X s p) (k : Below wr.heap.size wr w1) : BS w w1 gx gs gp X s p :=
  ⟨h.bx.later k, h.bs.later k, h.bp.later k, below_up h.be k⟩
theorem BS.setS {w wr : World} {gx gs gp X s p : Nat} (h : BS w wr gx gs gp X s p) (h0 : w.heap.size ≤ gx) (h1 : gx < gs) (h2 : gs < gp) (n : Nat) : BS w (wr.setRow gs (Us (ws n)).toArray) gx gs gp X n p :=
  ⟨h.bx.rowFar (by omega) _, h.bs.row _, h.bp.rowFar (by omega) _, below_setRow h.be (by omega) _⟩
theorem BS.setP {w wr : World} {gx gs gp X s p : Nat} (h : BS w wr gx gs gp X s p) (h0 : w.heap.size ≤ gx) (h1 : gx < gs) (h2 : gs < gp) (n : Nat) : BS w (wr.setRow gp (Us (ws n)).toArray) gx gs gp X s n :=
  ⟨h.bx.rowFar (by omega) _, h.bs.rowFar (by omega) _, h.bp.row _, below_setRow h.be (by omega) _⟩
theorem sum_bit1 {x k : Nat} (h : x / 2 ^ k % 2 = 1) : x % 2 ^ (k + 1) % LL = (x % 2 ^ k % LL + 2 ^ k % LL) % LL := by
  rw [Nat.mod_pow_succ, h, Nat.mul_one, ← Nat.add_mod]
theorem sum_bit0 {x k : Nat} (h : ¬ x / 2 ^ k % 2 = 1) : x % 2 ^ (k + 1) % LL = x % 2 ^ k % LL := by
  have h0 : x / 2 ^ k % 2 = 0 := by omega
  rw [Nat.mod_pow_succ, h0, Nat.mul_zero, Nat.add_zero]
theorem pow_dbl (k : Nat) : (2 ^ k % LL + 2 ^ k % LL) % LL = 2 ^ (k + 1) % LL := by
  rw [← Nat.add_mod, Nat.pow_succ, Nat.mul_two]
theorem ws_0 : ws 0 = [0, 0, 0, 0] := by decide
theorem bit_253 (x : Nat) (h : x < LL) : bitI x 253 = false := by
  have e := bitI_in (x := x) (k := 253) (by omega)
  have e2 : x / 2 ^ 253 = 0 := Nat.div_eq_of_lt (Nat.lt_trans h (by decide))
  rw [e2] at e
  exact e

set_option maxRecDepth 100000 in
set_option maxHeartbeats 4000000 in
theorem scalarBits_walk {a : List UInt8} (la : a.length = 32) (w : World) :
    Calls Try.prog 7 #[.agg (By a).toArray] w fun e w' => e = .returned (.bool true) ∧ Below w.heap.size w w' := by
  go_enter Try.func7, Try.ntmps7
  refine wp_seq_k fun K hK => ?_
  refine wp_region_lit ?_
  refine wpl_box (By a).toArray rfl rfl rfl ?_
  refine wpl_assign rfl rfl ?_
  refine wpl_nil ?_
  go_simp
  refine hK _ _ ?_
  clear hK K
  refine wp_at (fun W => Blk W (w.heap.size) 22 (By a).toArray ∧ Below w.heap.size w W)
    ⟨heap_alloc_new w _, (Below.refl _ _).alloc (Nat.le_refl _) _⟩ ?_
  rintro W ⟨ha, hbe⟩
  -- walk bits
  refine wp_seq_k fun K hK => ?_
  refine wp_seq_k fun K2 hK2 => ?_
  refine reg_qF ?_
  refine b_one rfl own_first4 (fun w1 => first4_f w1) rfl rfl ?_
  simp only [Act.put, List.setIfInBounds_toArray, List.set_cons_zero, List.set_cons_succ]
  refine b_not _ rfl rfl rfl ?_
  simp only [Act.put, List.setIfInBounds_toArray, List.set_cons_zero, List.set_cons_succ]
  refine wpB_nil ?_
  intro W1 hw1
  simp only [Exit.then]
  refine hK2 _ _ ?_
  clear hK2 K2
  have ha := hw1.blk ha
  have hbe := below_up hbe hw1
  clear hw1
  refine wp_cond (t := false) rfl ?_
  rw [if_neg (by decide)]
  refine wp_skip ?_
  simp only [Exit.then]
  refine hK _ _ ?_
  clear hK K
  have hsz0 : w.heap.size ≤ W1.heap.size := hbe.size
  refine wp_seq_k fun K hK => ?_
  refine reg_varF 2 3 27 (.tmp 11) z4 rfl rfl rfl rfl rfl rfl rfl (exec_alloc rfl (by kernel_rfl)) ?_
  simp only [List.take_succ_cons, List.take_zero]
  refine b_by w.heap.size la _ rfl rfl rfl (fun _ h => h.blk ha) ?_
  simp only [Act.put, List.setIfInBounds_toArray, List.set_cons_zero, List.set_cons_succ]
  refine b_one rfl own_in4 (fun w1 => in4_f la w1) rfl rfl ?_
  simp only [Act.put, List.setIfInBounds_toArray, List.set_cons_zero, List.set_cons_succ]
  refine wpB_nil ⟨(Us (ws (le a % LL))).toArray, fun _ => rfl, fun _ => rfl, (len_u4 (ws_len _)).symm, size_sc _ (len_u4 (ws_len _)), Us_one _, fun gx W1 hgx hw1 hbx => ?_⟩
  simp only [Exit.then, Act.put, List.setIfInBounds_toArray, List.set_cons_zero, List.set_cons_succ]
  refine hK _ _ ?_
  clear hK K
  have ha := hw1.blk ha
  have hbe := below_up hbe hw1
  clear hw1
  have hgx0 : w.heap.size ≤ gx := Nat.le_trans hsz0 hgx
  clear hgx hsz0 ha
  refine wp_seq_k fun K hK => ?_
  refine wp_region_lit ?_
  refine wpl_alloc (zs := z4) rfl rfl (by kernel_rfl) ?_
  refine wpl_nil ?_
  have hbs : Blk (W1.alloc (.cells z4 27)) W1.heap.size 27 (Us (ws 0)).toArray := by
    rw [ws_0]
    exact Blk.new W1 _ _
  have nxs := hbx.lt
  have hbx := hbx.alloc (.cells z4 27)
  have hbe := hbe.alloc hbe.size (.cells z4 27)
  simp only [Exit.then, Act.put, List.setIfInBounds_toArray, List.set_cons_zero, List.set_cons_succ]
  refine hK _ _ ?_
  clear hK K
  generalize W1.alloc (.cells z4 27) = W3 at *
  generalize W1.heap.size = gs at *
  have ns0 := hbs.lt
  refine wp_seq_k fun K hK => ?_
  refine reg_tailF 5 ?_
  simp only [List.take_succ_cons, List.take_zero, List.drop_succ_cons, List.drop_zero]
  refine b_build _ _ rfl rfl rfl built_b1 ?_
  simp only [Act.put, List.setIfInBounds_toArray, List.set_cons_zero, List.set_cons_succ]
  refine b_one rfl own_scnew (fun w1 => scnew_n (n := 1) (by decide) w1) rfl rfl ?_
  simp only [Act.put, List.setIfInBounds_toArray, List.set_cons_zero, List.set_cons_succ]
  refine b_moveV (.tuple #[.agg (Us (ws 1)).toArray, .bool true]) rfl rfl rfl ?_
  simp only [Act.put, List.setIfInBounds_toArray, List.set_cons_zero, List.set_cons_succ]
  refine b_extract (.agg (Us (ws 1)).toArray) rfl rfl rfl rfl ?_
  simp only [Act.put, List.setIfInBounds_toArray, List.set_cons_zero, List.set_cons_succ]
  refine b_extract (.bool true) rfl rfl rfl rfl ?_
  simp only [Act.put, List.setIfInBounds_toArray, List.set_cons_zero, List.set_cons_succ]
  refine wpB_nil ?_
  intro W0 hw0
  refine wpl_alloc (zs := z4) rfl rfl (by kernel_rfl) ?_
  simp only [Act.put, List.setIfInBounds_toArray, List.set_cons_zero, List.set_cons_succ]
  have hb0 := Blk.new W0 27 z4
  have hg0 := hw0.size
  have hw1 := hw0.alloc (Obj.cells z4 27)
  clear hw0
  generalize W0.alloc (Obj.cells z4 27) = W1 at *
  generalize W0.heap.size = gp at *
  refine wpList_store_row rfl 27 _ _ rfl gp rfl (Us (ws 1)).toArray rfl 27 _ hb0 (size_sc _ (len_u4 (ws_len _))) (len_u4 (ws_len _)).symm (Us_one _) ?_
  refine wpl_assignV (.bool true) rfl rfl rfl ?_
  refine wpl_nil ?_
  simp only [Exit.then, Act.put, List.setIfInBounds_toArray, List.set_cons_zero, List.set_cons_succ]
  refine hK _ _ ?_
  clear hK K
  have hbx := (hw1.blk hbx).rowFar (Nat.ne_of_lt (Nat.lt_of_lt_of_le (hbx).lt hg0)) (g' := gp) (Us (ws 1)).toArray
  have hbs := (hw1.blk hbs).rowFar (Nat.ne_of_lt (Nat.lt_of_lt_of_le (hbs).lt hg0)) (g' := gp) (Us (ws 1)).toArray
  have hbp := hb0.row (Us (ws 1)).toArray
  have hbe := below_setRow (below_up hbe hw1) (Nat.le_trans hbe.size hg0) (Us (ws 1)).toArray
  clear hw1 hb0
  generalize World.setRow _ gp (Us (ws 1)).toArray = W2 at *
  have nsp : gs < gp := Nat.lt_of_lt_of_le ns0 hg0
  clear ns0 hg0
  have hX := modL (le a)
  generalize le a % LL = X at *
  have h253 := bit_253 X hX
  have hXm : X % 2 ^ 256 % LL = X := by rw [Nat.mod_eq_of_lt (Nat.lt_trans hX (by decide)), Nat.mod_eq_of_lt hX]
  have H0 := Lib.hid (show BS w W2 gx gs gp X 0 1 from ⟨hbx, hbs, hbp, hbe⟩)
  clear hbx hbs hbp hbe
  go_wp2
  rw [show (!true) = false from rfl]
  go_loopw [7] (fun i wr => ∃ k : Nat, k ≤ 256 ∧ i = .int .i64 k ∧ BS w wr gx gs gp X (X % 2 ^ k % LL) (2 ^ k % LL)) (fun i _ => 256 - (intOf i).toNat)
  case atStart =>
    refine ⟨0, by omega, rfl, ?_⟩
    rw [Nat.pow_zero, Nat.mod_one]
    exact H0.out
  case round =>
    clear H0
    obtain ⟨k, hk, rfl, hS⟩ := hrel
    by_cases hlt : k < 256
    · have hq := bitI_in (x := X) hlt
      have hs1 := fun h => sum_bit1 (x := X) (k := k) h
      have hs0 := fun h => sum_bit0 (x := X) (k := k) h
      have hp := pow_dbl k
      have HA := fun w1 => Lib.hid (scadd_f (modL (X % 2 ^ k)) (modL (2 ^ k)) w1)
      have HD := fun w1 => Lib.hid (scadd_f (modL (2 ^ k)) (modL (2 ^ k)) w1)
      have HB := fun w1 => Lib.hid (scbit_f X (k : Int) w1)
      rw [hq] at HB
      have q0 : (0 : Int) ≤ (k : Int) := by omega
      rw [hp] at HD
      generalize hS0 : X % 2 ^ k % LL = s at *
      generalize hP0 : 2 ^ k % LL = p at *
      generalize hP1 : 2 ^ (k + 1) % LL = p1 at *
      have hzx := len_u4 (ws_len X)
      have hzs := len_u4 (ws_len s)
      have hzp := len_u4 (ws_len p)
      have hzq := len_u4 (ws_len p1)
      have bx := hS.bx
      have HS := Lib.hid hS
      clear hS hp hS0 hP0
      go_wp2_with (refine wpList_load_row rfl 27 _ rfl gx rfl 27 (Us (ws X)).toArray (0, 0) _ bx Try.underlying27 rfl (size_sc _ hzx) ?_)
      refine (HB _).out.mono ?_
      rintro e w1 ⟨rfl, hw1⟩
      have hS := HS.out.later hw1
      clear HS hw1 HB bx
      by_cases hb : X / 2 ^ k % 2 = 1
      · rw [decide_eq_true hb]
        have hs1 := hs1 hb
        have bs := hS.bs
        have bp := hS.bp
        have HS := Lib.hid hS
        have hs1 := Lib.hid hs1
        clear hS hs0 hb hq
        go_wp2_with (first
          | (refine wpList_load_row rfl 27 _ rfl gs rfl 27 (Us (ws s)).toArray (0, 0) _ bs Try.underlying27 rfl (size_sc _ hzs) ?_)
          | (refine wpList_load_row rfl 27 _ rfl gp rfl 27 (Us (ws p)).toArray (0, 0) _ bp Try.underlying27 rfl (size_sc _ hzp) ?_))
        refine (HA _).out.mono ?_
        rintro e w2 ⟨rfl, hw2⟩
        generalize (s + p) % LL = s1 at *
        have hzt := len_u4 (ws_len s1)
        have hS := HS.out.later hw2
        have bs2 := hS.bs
        have hS2 := hS.setS hgx0 nxs nsp s1
        have bp2 := hS2.bp
        have HS2 := Lib.hid hS2
        clear hS hS2 hw2 HS HA bs bp
        go_wp2_with (first
          | (refine wpList_store_row rfl 27 _ _ rfl gs rfl (Us (ws s1)).toArray rfl 27 _ bs2 (size_sc _ hzt) (by rw [hzt, hzs]) (Us_one _) ?_)
          | (refine wpList_load_row rfl 27 _ rfl gp rfl 27 (Us (ws p)).toArray (0, 0) _ bp2 Try.underlying27 rfl (size_sc _ hzp) ?_))
        refine (HD _).out.mono ?_
        rintro e w3 ⟨rfl, hw3⟩
        have hS := HS2.out.later hw3
        have bp3 := hS.bp
        have HS3 := Lib.hid (hS.setP hgx0 nxs nsp p1)
        clear hS hw3 HS2 HD bs2 bp2
        go_wp2_with (refine wpList_store_row rfl 27 _ _ rfl gp rfl (Us (ws p1)).toArray rfl 27 _ bp3 (size_sc _ hzq) (by rw [hzq, hzp]) (Us_one _) ?_)
        go_roundw
        case rel =>
          refine ⟨k + 1, by omega, by go_num, ?_⟩
          rw [hs1.out, hP1]
          exact HS3.out
        case measure => simp [intOf]; omega
      · rw [decide_eq_false hb]
        have hs0 := hs0 hb
        have bp := hS.bp
        have HS := Lib.hid hS
        have hs0 := Lib.hid hs0
        clear hS hs1 hb hq HA
        go_wp2_with (refine wpList_load_row rfl 27 _ rfl gp rfl 27 (Us (ws p)).toArray (0, 0) _ bp Try.underlying27 rfl (size_sc _ hzp) ?_)
        refine (HD _).out.mono ?_
        rintro e w3 ⟨rfl, hw3⟩
        have hS := HS.out.later hw3
        have bp3 := hS.bp
        have HS3 := Lib.hid (hS.setP hgx0 nxs nsp p1)
        clear hS hw3 HS HD bp
        go_wp2_with (refine wpList_store_row rfl 27 _ _ rfl gp rfl (Us (ws p1)).toArray rfl 27 _ bp3 (size_sc _ hzq) (by rw [hzq, hzp]) (Us_one _) ?_)
        go_roundw
        case rel =>
          refine ⟨k + 1, by omega, by go_num, ?_⟩
          rw [hs0.out, hP1]
          exact HS3.out
        case measure => simp [intOf]; omega
    · obtain rfl : k = 256 := by omega
      rw [hXm] at hS
      generalize 2 ^ 256 % LL = p at *
      obtain ⟨hbx, hbs, hbp, hbe⟩ := hS
      go_wp2
      refine reg_q (by kernel_rfl) (tail_ok (by kernel_rfl)) (fun _ _ d _ _ h => by cases d <;> exact h) ?_
      refine b_sc gs (ws_len _) _ rfl rfl rfl (fun _ h => h.blk hbs) ?_
      simp only [Act.put, List.setIfInBounds_toArray, List.set_cons_zero, List.set_cons_succ]
      refine b_one rfl own_schash (fun w1 => schash_f X w1) rfl rfl ?_
      simp only [Act.put, List.setIfInBounds_toArray, List.set_cons_zero, List.set_cons_succ]
      refine b_sc gx (ws_len _) _ rfl rfl rfl (fun _ h => h.blk hbx) ?_
      simp only [Act.put, List.setIfInBounds_toArray, List.set_cons_zero, List.set_cons_succ]
      refine b_one rfl own_schash (fun w1 => schash_f X w1) rfl rfl ?_
      simp only [Act.put, List.setIfInBounds_toArray, List.set_cons_zero, List.set_cons_succ]
      refine b_eqn X X (rfl) rfl rfl rfl rfl rfl ?_
      simp only [Act.put, List.setIfInBounds_toArray, List.set_cons_zero, List.set_cons_succ]
      refine b_move rfl rfl ?_
      simp only [Act.put, List.setIfInBounds_toArray, List.set_cons_zero, List.set_cons_succ]
      refine b_sc gx (ws_len _) _ rfl rfl rfl (fun _ h => h.blk hbx) ?_
      simp only [Act.put, List.setIfInBounds_toArray, List.set_cons_zero, List.set_cons_succ]
      refine b_one (v := .bool false) rfl own_scbit (fun w1 => (scbit_f X 253 w1).mono fun e w' h => by rw [h.1, h253]; exact ⟨rfl, h.2⟩) rfl rfl ?_
      simp only [Act.put, List.setIfInBounds_toArray, List.set_cons_zero, List.set_cons_succ]
      refine b_not _ rfl rfl rfl ?_
      simp only [Act.put, List.setIfInBounds_toArray, List.set_cons_zero, List.set_cons_succ]
      refine b_pick rfl rfl rfl ?_
      simp only [Act.put, List.setIfInBounds_toArray, List.set_cons_zero, List.set_cons_succ]
      refine b_move rfl rfl ?_
      simp only [Act.put, List.setIfInBounds_toArray, List.set_cons_zero, List.set_cons_succ]
      refine b_sc gx (ws_len _) _ rfl rfl rfl (fun _ h => h.blk hbx) ?_
      simp only [Act.put, List.setIfInBounds_toArray, List.set_cons_zero, List.set_cons_succ]
      refine b_one (v := .bool false) rfl own_scbit (fun w1 => (scbit_f X (-1) w1).mono fun e w' h => by rw [h.1, bitI_out (.inl (by decide))]; exact ⟨rfl, h.2⟩) rfl rfl ?_
      simp only [Act.put, List.setIfInBounds_toArray, List.set_cons_zero, List.set_cons_succ]
      refine b_not _ rfl rfl rfl ?_
      simp only [Act.put, List.setIfInBounds_toArray, List.set_cons_zero, List.set_cons_succ]
      refine b_pick rfl rfl rfl ?_
      simp only [Act.put, List.setIfInBounds_toArray, List.set_cons_zero, List.set_cons_succ]
      refine b_move rfl rfl ?_
      simp only [Act.put, List.setIfInBounds_toArray, List.set_cons_zero, List.set_cons_succ]
      refine b_sc gx (ws_len _) _ rfl rfl rfl (fun _ h => h.blk hbx) ?_
      simp only [Act.put, List.setIfInBounds_toArray, List.set_cons_zero, List.set_cons_succ]
      refine b_one (v := .bool false) rfl own_scbit (fun w1 => (scbit_f X 256 w1).mono fun e w' h => by rw [h.1, bitI_out (.inr (by decide))]; exact ⟨rfl, h.2⟩) rfl rfl ?_
      simp only [Act.put, List.setIfInBounds_toArray, List.set_cons_zero, List.set_cons_succ]
      refine b_not _ rfl rfl rfl ?_
      simp only [Act.put, List.setIfInBounds_toArray, List.set_cons_zero, List.set_cons_succ]
      refine b_pick rfl rfl rfl ?_
      simp only [Act.put, List.setIfInBounds_toArray, List.set_cons_zero, List.set_cons_succ]
      refine b_assign rfl rfl ?_
      refine wpB_nil ?_
      intro W4 hw1
      have hbe := below_up hbe hw1
      clear hw1
      go_wp2
      go_ret
      exact ⟨rfl, hbe⟩
  -- end bits

theorem scalarBits_types : ∀ t ∈ Try.f7.params.toList, Try.prog.readableRec t = true ∧ t < Try.prog.types.size := by
  have h : Try.f7.params.toList.all (fun t => Try.prog.readableRec t && decide (t < Try.prog.types.size)) = true := by kernel_rfl
  intro t ht
  have := List.all_eq_true.1 h t ht
  simpa using this

set_option maxRecDepth 100000 in
theorem scalarBits_lifted (os : Os) (started : os.Started) (H : Type) (enc : TypeId × Value → H) :
    ReturnsInHanded {} Try.checked os 7 .any (Rows.scalarBitsSpec.pre6 enc Try.prog Try.f7 Rows.scalarBitsRow.domain false) (Rows.scalarBitsSpec.post enc Try.prog Try.f7 false true false false) := by
  refine returnsInHanded_of_change (C := Try.checked) own started (by kernel_rfl) Try.func7
    (ChangeSpec.witness6 (enc := enc) (C := Try.checked) false ⟨#[], #[.agg (By (List.replicate 32 0)).toArray], []⟩ 8 (by kernel_rfl) (by kernel_rfl) (by kernel_rfl) (by kernel_rfl)) ?_
  intro W base args ds gs before hval0 hW _ _
  have hval : ∀ (j : Nat) t v, Try.f7.params[j]? = some t → args[j]? = some v → Value.okWide Try.prog W .any base t v := hval0
  have hW' : DataW.Whole enc Try.prog Try.f7.params.toList Rows.scalarBitsSpec.vars false W args.toList ds gs before := hW
  obtain ⟨p, q, hA0, hV, rfl, hfz, hnd⟩ := hW
  have hA : DataW.TrodAll enc Try.prog W 0 (fun _ => true) true Try.f7.params.toList args.toList ds p := hA0
  rw [Try.params7] at hA hval
  obtain ⟨v0, d0, rfl, rfl, h0⟩ := trodAll_one hA
  obtain ⟨rfl, rfl⟩ := trodVars_none hV
  obtain ⟨a, la, rfl⟩ := open_hash (hval 0 22 v0 rfl rfl) h0
  clear hA0 hval0
  refine (scalarBits_walk la W).mono fun e W' ⟨he, hb⟩ => ?_
  exact ⟨_, he, law_post (by kernel_rfl) rfl scalarBits_types hW' rfl hb⟩

theorem scalarBits_holds : Rows.ScalarBitsSaid :=
  OpenClaim.holds_of_wide 7 Try.f7 rfl rfl rfl rfl rfl rfl rfl ⟨rfl, rfl, rfl, rfl, rfl⟩ rfl rfl rfl rfl rfl (by kernel_rfl) Try.func7 (by kernel_rfl)
    (of_decide_eq_true (by kernel_rfl)) (by unfold Func.isWrapper; first | (rw [if_pos (by decide +kernel)]; kernel_rfl) | (rw [if_neg (by decide +kernel)]; exact ⟨rfl, rfl⟩))
    (fun os started H enc _ => scalarBits_lifted os started H enc)
#print axioms scalarBits_holds
end Go.Proofs.Ythejahhhmkkhoaa
