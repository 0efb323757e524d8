/-
  PROVED: FieldPowers answers true for every input: a number multiplied by itself p - 1 times is 1, and squares have roots. No condition but the row's own: the table lies as the program's text lays it (the card ties it): the statement '..CardSaid' itself.
-/
import Derived.Test.YtchhkejgdcmicaaDoorLaw3
import Derived.Test.YtchhkejgdcmicaaDoorElFirst
import Derived.Test.YtchhkejgdcmicaaDoorTup
namespace Go.Proofs.YtchhkejgdcmicaaDoor
open Go.RowKit Go.IntWalk Nums
open Go.ChangeShapes Go.WideShapes Go.ChangeAt

theorem root0V {a b : List Nat} (hA : EB a (fof 0)) (hB : EB b (fof 1)) (w : World) (hT : Tw w) :
    Calls Tryd.prog 29 #[.agg (Us a).toArray, .agg (Us b).toArray] w fun e w' => ∃ y, e = .returned y ∧ (∃ r, EB r (fof 0) ∧ y = .tuple #[.agg (Us r).toArray, .bool true]) ∧ Below w.heap.size w w' := by
  refine (elroot_f hA hB w hT).mono ?_
  rintro e w' ⟨⟨r, x, h1, _, ⟨h3, _⟩, rfl⟩ | ⟨h, _⟩, hw⟩
  · rw [one_mul3, fof_zero] at h3
    have hx : x = 0 := by
      rcases zero_or prime_p h3 with h | h <;> exact h
    rw [hx, ← fof_zero] at h1
    exact ⟨_, rfl, ⟨r, h1, rfl⟩, hw⟩
  · exfalso
    rcases h with h | h
    · revert h
      decide
    · refine h (fof 0) ?_
      rw [one_mul3, ← fof_mul]
/-- The square of a number has it, or its negative, as the root. -/
theorem rootS {a b : List Nat} {x : F} (hA : EB a (x * x)) (hB : EB b (fof 1)) (w : World) (hT : Tw w) :
    Calls Tryd.prog 29 #[.agg (Us a).toArray, .agg (Us b).toArray] w fun e w' => ∃ r s, EB r s ∧ (s = x ∨ s + x = fof 0) ∧ e = .returned (.tuple #[.agg (Us r).toArray, .bool true]) ∧ Below w.heap.size w w' := by
  refine (elroot_f hA hB w hT).mono ?_
  rintro e w' ⟨⟨r, s, h1, _, ⟨h3, _⟩, rfl⟩ | ⟨h, _⟩, hw⟩
  · rw [one_mul3] at h3
    refine ⟨r, s, h1, ?_, rfl, hw⟩
    rcases root_or prime_p h3 with h | h
    · exact .inl h
    · right
      rw [h, fof_zero]
      grind only
  · exfalso
    rcases h with h | h
    · revert h
      decide
    · exact h x (one_mul3 x)
/-- The exponent p - 1, bit by bit. -/
theorem bits_p : ∀ i, i < 255 → (p - 1) / 2 ^ i = 2 * ((p - 1) / 2 ^ (i + 1)) + (if 4 < i ∨ i = 2 ∨ i = 3 then 1 else 0) := by decide +kernel
theorem pow_two {x : F} (e : Nat) : fpow x (2 * e) = fpow x e * fpow x e := by
  rw [← fpow_add]
  congr 1
  omega
theorem pow_top (x : F) : fpow x ((p - 1) / 2 ^ 255) = fof 1 := by
  rw [show (p - 1) / 2 ^ 255 = 0 from by decide, fpow_zero, fof_one]
theorem pow_all {x : F} (h : x ≠ fof 0) : fpow x ((p - 1) / 2 ^ 0) = fof 1 := by
  rw [fof_zero] at h
  rw [Nat.pow_zero, Nat.div_one, fof_one]
  exact fpow_fermat prime_p h

set_option maxRecDepth 100000 in
set_option maxHeartbeats 4000000 in
theorem fieldPowers_walk {a : List UInt8} (la : a.length = 32) (w : World) (hT0 : Tw w) :
    Calls Tryd.prog 9 #[.agg (By a).toArray] w fun e w' => e = .returned (.bool true) ∧ Below w.heap.size w w' := by
  go_enter Tryd.func9, Tryd.ntmps9
  refine wp_seq_k fun K hK => ?_
  refine wp_region_lit ?_
  refine wpl_box (By a).toArray rfl rfl rfl ?_
  refine wpl_assign rfl rfl ?_
  refine wpl_nil ?_
  go_simp
  refine hK _ _ ?_
  clear hK K
  refine wp_at (fun W => Blk W (w.heap.size) 22 (By a).toArray ∧ Below w.heap.size w W)
    ⟨heap_alloc_new w _, (Below.refl _ _).alloc (Nat.le_refl _) _⟩ ?_
  rintro W ⟨ha, hbe⟩
  have hT := hT0.below hbe
  -- walk powers
  refine wp_seq_k fun K hK => ?_
  refine wp_seq_k fun K2 hK2 => ?_
  refine reg_qF ?_
  refine b_oneC rfl own_first (fun w1 hw => first_f w1 (hT.below hw)) rfl rfl ?_
  simp only [Act.put, List.setIfInBounds_toArray, List.set_cons_zero, List.set_cons_succ]
  refine b_not _ rfl rfl rfl ?_
  simp only [Act.put, List.setIfInBounds_toArray, List.set_cons_zero, List.set_cons_succ]
  refine wpB_nil ?_
  intro W1 hw1
  simp only [Exit.then]
  refine hK2 _ _ ?_
  clear hK2 K2
  have ha := hw1.blk ha
  have hT := hT.below hw1
  have hbe := below_up hbe hw1
  clear hw1
  refine wp_cond (t := false) rfl ?_
  rw [if_neg (by decide)]
  refine wp_skip ?_
  simp only [Exit.then]
  refine hK _ _ ?_
  clear hK K
  have hsz0 := hbe.size
  refine wp_seq_k fun K hK => ?_
  refine reg_varF 2 3 27 (.tmp 13) z5 rfl rfl rfl rfl rfl rfl rfl (exec_alloc rfl (by kernel_rfl)) ?_
  simp only [List.take_succ_cons, List.take_zero]
  refine b_by w.heap.size la _ rfl rfl rfl (fun _ h => h.blk ha) ?_
  simp only [Act.put, List.setIfInBounds_toArray, List.set_cons_zero, List.set_cons_succ]
  refine b_fe rfl own_in (fun w1 _ => in_f la w1) rfl rfl ?_
  intro r1 v1
  simp only [Act.put, List.setIfInBounds_toArray, List.set_cons_zero, List.set_cons_succ]
  refine wpB_nil ⟨(Us r1).toArray, fun _ => rfl, fun _ => rfl, (len_us v1.len).symm, size_el _ (len_us v1.len), Us_one _, fun gx W1 hgx hw1 hbx => ?_⟩
  simp only [Exit.then, Act.put, List.setIfInBounds_toArray, List.set_cons_zero, List.set_cons_succ]
  refine hK _ _ ?_
  clear hK K
  have ha := hw1.blk ha
  have hT := hT.below hw1
  have hbe := below_up hbe hw1
  clear hw1
  have hwx : w.heap.size ≤ gx := Nat.le_trans hsz0 hgx
  refine wp_seq_k fun K hK => ?_
  refine wp_seq_k fun K2 hK2 => ?_
  refine reg_qF ?_
  refine b_el gx v1.len _ rfl rfl rfl (fun _ h => h.blk hbx) ?_
  simp only [Act.put, List.setIfInBounds_toArray, List.set_cons_zero, List.set_cons_succ]
  refine b_one rfl own_hash (fun w1 => hash_f v1 w1) rfl rfl ?_
  simp only [Act.put, List.setIfInBounds_toArray, List.set_cons_zero, List.set_cons_succ]
  refine b_build _ _ rfl rfl rfl built_h0 ?_
  simp only [Act.put, List.setIfInBounds_toArray, List.set_cons_zero, List.set_cons_succ]
  refine b_eq (By (enc (fof (le a % 57896044618658097711785492504343953926634992332820282019728792003956564819968)))).toArray (By (enc (fof 0))).toArray rfl rfl rfl rfl (by kernel_rfl) (fun w1 => eqd (fof (le a % 57896044618658097711785492504343953926634992332820282019728792003956564819968)) (fof 0) w1) ?_
  simp only [Act.put, List.setIfInBounds_toArray, List.set_cons_zero, List.set_cons_succ]
  refine wpB_nil ?_
  intro W1 hw1
  simp only [Exit.then]
  refine hK2 _ _ ?_
  clear hK2 K2
  have ha := hw1.blk ha
  have hbx := hw1.blk hbx
  have hT := hT.below hw1
  have hbe := below_up hbe hw1
  clear hw1
  by_cases hX : fof (le a % 57896044618658097711785492504343953926634992332820282019728792003956564819968) = fof 0
  · refine wp_cond (t := true) (congrArg Value.bool (decide_eq_true hX)) ?_
    rw [if_pos rfl]
    refine wp_seq_k fun K hK => ?_
    refine reg_tup 6 4 5 27 (.tmp 22) (.tmp 23) z5 rfl rfl rfl rfl rfl rfl rfl rfl rfl rfl (by kernel_rfl) (by kernel_rfl) (by kernel_rfl) (by kernel_rfl) (by kernel_rfl) (by kernel_rfl) (by kernel_rfl) (by kernel_rfl) (fun _ _ d _ _ h => by cases d <;> exact h) (exec_alloc rfl (by kernel_rfl)) ?_
    simp only [List.take_succ_cons, List.take_zero]
    refine b_el gx v1.len _ rfl rfl rfl (fun _ h => h.blk hbx) ?_
    simp only [Act.put, List.setIfInBounds_toArray, List.set_cons_zero, List.set_cons_succ]
    refine b_fe rfl own_small (fun w1 _ => small_f 1 (by omega) w1) rfl rfl ?_
    intro r2 v2
    simp only [Act.put, List.setIfInBounds_toArray, List.set_cons_zero, List.set_cons_succ]
    rw [hX] at v1
    refine b_callV _ rfl own_root3 (fun w1 hw => root0V v1 v2 w1 (hT.below hw)) rfl rfl ?_
    rintro _ ⟨r, hE, rfl⟩
    simp only [Act.put, List.setIfInBounds_toArray, List.set_cons_zero, List.set_cons_succ]
    refine b_move rfl rfl ?_
    simp only [Act.put, List.setIfInBounds_toArray, List.set_cons_zero, List.set_cons_succ]
    refine b_extract (.agg (Us r).toArray) rfl rfl rfl rfl ?_
    simp only [Act.put, List.setIfInBounds_toArray, List.set_cons_zero, List.set_cons_succ]
    refine b_extract (.bool true) rfl rfl rfl rfl ?_
    simp only [Act.put, List.setIfInBounds_toArray, List.set_cons_zero, List.set_cons_succ]
    refine wpB_nil ⟨(Us r).toArray, .bool true, fun _ => rfl, fun _ => rfl, fun _ => rfl, (len_us hE.len).symm, size_el _ (len_us hE.len), Us_one _, fun gs W1 hgs hw1 hbs => ?_⟩
    simp only [Exit.then, Act.put, List.setIfInBounds_toArray, List.set_cons_zero, List.set_cons_succ]
    refine hK _ _ ?_
    clear hK K
    have ha := hw1.blk ha
    have hbx := hw1.blk hbx
    have hT := hT.below hw1
    have hbe := below_up hbe hw1
    clear hw1
    refine wp_seq_k fun K hK => ?_
    refine reg_qF ?_
    refine b_move rfl rfl ?_
    simp only [Act.put, List.setIfInBounds_toArray, List.set_cons_zero, List.set_cons_succ]
    refine b_move rfl rfl ?_
    simp only [Act.put, List.setIfInBounds_toArray, List.set_cons_zero, List.set_cons_succ]
    refine b_el gs hE.len _ rfl rfl rfl (fun _ h => h.blk hbs) ?_
    simp only [Act.put, List.setIfInBounds_toArray, List.set_cons_zero, List.set_cons_succ]
    refine b_one rfl own_hash (fun w1 => hash_f hE w1) rfl rfl ?_
    simp only [Act.put, List.setIfInBounds_toArray, List.set_cons_zero, List.set_cons_succ]
    refine b_build _ _ rfl rfl rfl built_h0 ?_
    simp only [Act.put, List.setIfInBounds_toArray, List.set_cons_zero, List.set_cons_succ]
    refine b_eqh (enc (_)) (enc_len _) rfl rfl rfl rfl rfl ?_
    simp only [Act.put, List.setIfInBounds_toArray, List.set_cons_zero, List.set_cons_succ]
    refine b_pick rfl rfl rfl ?_
    simp only [Act.put, List.setIfInBounds_toArray, List.set_cons_zero, List.set_cons_succ]
    refine b_assign rfl rfl ?_
    refine wpB_nil ?_
    intro W1 hw1
    have hbe := below_up hbe hw1
    clear hw1
    simp only [Exit.then]
    refine hK _ _ ?_
    clear hK K
    go_wp2
    go_ret
    exact ⟨rfl, hbe⟩
  · refine wp_cond (t := false) (congrArg Value.bool (decide_eq_false hX)) ?_
    rw [if_neg (by decide)]
    refine wp_skip ?_
    simp only [Exit.then]
    refine hK _ _ ?_
    clear hK K
    have hxlt := hbx.lt
    have hszr := hbe.size
    refine wp_seq_k fun K hK => ?_
    refine reg_varF 1 6 27 (.tmp 31) z5 rfl rfl rfl rfl rfl rfl rfl (exec_alloc rfl (by kernel_rfl)) ?_
    simp only [List.take_succ_cons, List.take_zero]
    refine b_fe rfl own_small (fun w1 _ => small_f 1 (by omega) w1) rfl rfl ?_
    intro r2 v2
    simp only [Act.put, List.setIfInBounds_toArray, List.set_cons_zero, List.set_cons_succ]
    refine wpB_nil ⟨(Us r2).toArray, fun _ => rfl, fun _ => rfl, (len_us v2.len).symm, size_el _ (len_us v2.len), Us_one _, fun gr W1 hgr hw1 hbr => ?_⟩
    simp only [Exit.then, Act.put, List.setIfInBounds_toArray, List.set_cons_zero, List.set_cons_succ]
    refine hK _ _ ?_
    clear hK K
    have ha := hw1.blk ha
    have hbx := hw1.blk hbx
    have hT := hT.below hw1
    have hbe := below_up hbe hw1
    clear hw1
    have hnr0 : gx ≠ gr := Nat.ne_of_lt (Nat.lt_of_lt_of_le hxlt hgr)
    have hnr : gx ≠ gr := hnr0
    have hgx0 : w.heap.size ≤ gx := hwx
    have hgr0 := Nat.le_trans hszr hgr
    generalize fof (le a % 57896044618658097711785492504343953926634992332820282019728792003956564819968) = X at *
    have hzx := len_us v1.len
    have HX := Lib.hid (And.intro v1 (And.intro hX v2))
    have hpt : EB r2 (fpow X ((p - 1) / 2 ^ 255)) := by rw [pow_top]; exact v2
    generalize enc X = eX
    generalize enc (fof 0) = e0
    generalize decide (X = fof 0) = q0
    clear hT hX ha
    go_wp2
    rw [show (!true) = false from rfl]
    go_loopw [7] (fun i wr => ∃ j : Nat, j ≤ 255 ∧ i = .int .i64 ((j : Int) - 1) ∧ ∃ r, EB r (fpow X ((p - 1) / 2 ^ j)) ∧ Blk wr gx 27 (Us r1).toArray ∧ Blk wr gr 27 (Us r).toArray ∧ Below w.heap.size w wr) (fun i _ => (intOf i + 1).toNat)
    case atStart => exact ⟨255, by omega, rfl, r2, hpt, hbx, hbr, hbe⟩
    case round =>
      clear hpt hbe hbx hbr
      obtain ⟨j, hj, rfl, r, hr, hx, hrr, hbel⟩ := hrel
      by_cases hlt : 0 < j
      · obtain ⟨i, rfl⟩ : ∃ i, j = i + 1 := ⟨j - 1, by omega⟩
        have ej : (((i + 1 : Nat) : Int) - 1) = (i : Int) := by omega
        rw [ej]
        have HB := Lib.hid (bits_p i (by omega))
        have HM := fun w1 => Lib.hid (elmul_f hr hr w1)
        rw [← pow_two] at HM
        have hzr := len_us hr.len
        have HK := Lib.hid (And.intro hx (And.intro hrr hbel))
        have q0 : (0 : Int) ≤ (i : Int) := by omega
        have q1 : IntKind.i64.wrap ((i : Int) - 1) = (i : Int) - 1 := by rw [i64_left, wrap64_in _ (by omega)]
        clear hx hbel
        go_wp2_with (refine wpList_load_row rfl 27 _ rfl gr rfl 27 (Us r).toArray (0, 0) _ hrr Tryd.underlying27 rfl (size_el _ hzr) ?_)
        refine (HM _).out.mono ?_
        rintro e w2 ⟨m, hm, rfl, hw2⟩
        have hzm := len_us hm.len
        clear hrr
        obtain ⟨hx, hrr, hbel⟩ := HK.out
        have k0 := hrr.below hw2 hrr.lt
        have kx := (hx.below hw2 hx.lt).rowFar hnr (Us m).toArray
        have kr := k0.row (Us m).toArray
        have kb := below_setRow (hbel.trans (hw2.mono hbel.size)) hgr0 (Us m).toArray
        have HK2 := Lib.hid (And.intro kx (And.intro kr kb))
        clear HM HK hx hrr hbel hw2 kb
        by_cases hbt : 4 < i ∨ i = 2 ∨ i = 3
        · have HM2 := fun w1 => Lib.hid (elmul_f hm HX.out.1 w1)
          rw [← fpow_succ] at HM2
          have hexp := HB.out
          rw [if_pos hbt] at hexp
          rw [← hexp] at HM2
          clear HB hexp
          rcases hbt with h4 | rfl | rfl
          all_goals
            go_wp2_with (first
              | (refine wpList_store_row rfl 27 _ _ rfl gr rfl (Us m).toArray rfl 27 _ k0 (size_el _ hzm) (by rw [hzm, hzr]) (Us_one _) ?_)
              | (refine wpList_load_row rfl 27 _ rfl gr rfl 27 (Us m).toArray (0, 0) _ kr Tryd.underlying27 rfl (size_el _ hzm) ?_)
              | (refine wpList_load_row rfl 27 _ rfl gx rfl 27 (Us r1).toArray (0, 0) _ kx Tryd.underlying27 rfl (size_el _ hzx) ?_))
            refine (HM2 _).out.mono ?_
            rintro e w3 ⟨m2, hm2, rfl, hw3⟩
            have hz2 := len_us hm2.len
            obtain ⟨kx, kr, kb⟩ := HK2.out
            have j0 := kr.below hw3 kr.lt
            have jx := (kx.below hw3 kx.lt).rowFar hnr (Us m2).toArray
            have jr := j0.row (Us m2).toArray
            have jb := below_setRow (kb.trans (hw3.mono kb.size)) hgr0 (Us m2).toArray
            have HR := Lib.hid (And.intro jx (And.intro jr jb))
            clear HK2 HM2 kx kr kb k0 jx jr jb hw3
            go_wp2_with (refine wpList_store_row rfl 27 _ _ rfl gr rfl (Us m2).toArray rfl 27 _ j0 (size_el _ hz2) (by rw [hz2, hzm]) (Us_one _) ?_)
            go_roundw
            case rel =>
              obtain ⟨jx, jr, jb⟩ := HR.out
              refine ⟨_, ?_, ?_, m2, hm2, jx, jr, jb⟩
              · omega
              · rfl
            case measure =>
              first
                | (simp [intOf]; done)
                | (simp [intOf]; omega)
        · have hexp := HB.out
          rw [if_neg hbt, Nat.add_zero] at hexp
          rw [← hexp] at hm
          clear HB hexp kx kr
          have h3 : i = 0 ∨ i = 1 ∨ i = 4 := by omega
          rcases h3 with rfl | rfl | rfl
          all_goals
            go_wp2_with (refine wpList_store_row rfl 27 _ _ rfl gr rfl (Us m).toArray rfl 27 _ k0 (size_el _ hzm) (by rw [hzm, hzr]) (Us_one _) ?_)
            go_roundw
            case rel =>
              obtain ⟨jx, jr, jb⟩ := HK2.out
              refine ⟨_, ?_, ?_, m, hm, jx, jr, jb⟩
              · omega
              · rfl
            case measure =>
              first
                | (simp [intOf]; done)
                | (simp [intOf]; omega)
      · obtain rfl : j = 0 := by omega
        rw [pow_all HX.out.2.1] at hr
        have HMx := fun w1 => Lib.hid (elmul_f HX.out.1 HX.out.1 w1)
        have HF := Lib.hid (And.intro hx (And.intro hrr hbel))
        have hzr := len_us hr.len
        clear hrr hbel
        go_wp2_with (refine wpList_load_row rfl 27 _ rfl gx rfl 27 (Us r1).toArray (0, 0) _ hx Tryd.underlying27 rfl (size_el _ hzx) ?_)
        refine (HMx _).out.mono ?_
        rintro e w2 ⟨m, hm, rfl, hw2⟩
        go_wp2_with (fail)
        refine (small_f 1 (by omega) _).mono ?_
        rintro e w3 ⟨o, ho1, rfl, hw3⟩
        obtain ⟨hx1, hrr, hbel⟩ := HF.out
        clear HF HMx hx
        have hb3 := below_up (below_up hbel hw2) hw3
        have HR := Lib.hid (rootS hm ho1 w3 (hT0.below hb3))
        have hx3 := (hx1.later hw2).later hw3
        have hr3 := (hrr.later hw2).later hw3
        have H3 := Lib.hid (And.intro hx3 (And.intro hr3 hb3))
        clear hx1 hrr hbel hw2 hw3 hx3 hr3 hb3
        go_wp2_with (fail)
        refine HR.out.mono ?_
        rintro e w4 ⟨s, S, hs, hS, rfl, hw4⟩
        have hzs := len_us hs.len
        obtain ⟨hx3, hr3, hb3⟩ := H3.out
        have hx4 := hx3.later hw4
        have hr4 := hr3.later hw4
        have hb4 := below_up hb3 hw4
        have hn : Blk (w4.alloc (Obj.cells z5 27)) w4.heap.size 27 z5 := Blk.new w4 _ _
        have hxf := (hx4.alloc (Obj.cells z5 27)).rowFar (Nat.ne_of_lt hx4.lt) (g' := w4.heap.size) (Us s).toArray
        have hrf := (hr4.alloc (Obj.cells z5 27)).rowFar (Nat.ne_of_lt hr4.lt) (g' := w4.heap.size) (Us s).toArray
        have hsf := hn.row (Us s).toArray
        have hbf := below_setRow (hb4.alloc hb4.size (Obj.cells z5 27)) hb4.size (Us s).toArray
        have HF := Lib.hid (And.intro hxf (And.intro hrf (And.intro hsf hbf)))
        have HX0 := HX.out.1
        clear HR H3 hx3 hr3 hb3 hw4 hx4 hr4 hb4 hxf hrf hsf hbf HX hgr0 hgx0
        generalize hgs : w4.heap.size = gs at *
        go_wp2_with (refine wpList_store_row rfl 27 _ _ rfl gs rfl (Us s).toArray rfl 27 _ hn (size_el _ hzs) (by rw [hzs]; rfl) (Us_one _) ?_)
        clear hgs hn
        obtain ⟨hxf, hrf, hsf, hbf⟩ := HF.out
        clear HF
        refine reg_q (by kernel_rfl) (tail_ok (by kernel_rfl)) (fun _ _ d _ _ h => by cases d <;> exact h) ?_
        refine b_el gr hr.len _ rfl rfl rfl (fun _ h => h.blk hrf) ?_
        simp only [Act.put, List.setIfInBounds_toArray, List.set_cons_zero, List.set_cons_succ]
        refine b_one rfl own_hash (fun w1 => hash_f hr w1) rfl rfl ?_
        simp only [Act.put, List.setIfInBounds_toArray, List.set_cons_zero, List.set_cons_succ]
        refine b_build _ _ rfl rfl rfl built_h1 ?_
        simp only [Act.put, List.setIfInBounds_toArray, List.set_cons_zero, List.set_cons_succ]
        refine b_eqh (enc (_)) (enc_len _) rfl rfl rfl rfl rfl ?_
        simp only [Act.put, List.setIfInBounds_toArray, List.set_cons_zero, List.set_cons_succ]
        refine b_move rfl rfl ?_
        simp only [Act.put, List.setIfInBounds_toArray, List.set_cons_zero, List.set_cons_succ]
        refine b_move rfl rfl ?_
        simp only [Act.put, List.setIfInBounds_toArray, List.set_cons_zero, List.set_cons_succ]
        refine b_pick rfl rfl rfl ?_
        simp only [Act.put, List.setIfInBounds_toArray, List.set_cons_zero, List.set_cons_succ]
        refine b_move rfl rfl ?_
        simp only [Act.put, List.setIfInBounds_toArray, List.set_cons_zero, List.set_cons_succ]
        refine b_el gs hs.len _ rfl rfl rfl (fun _ h => h.blk hsf) ?_
        simp only [Act.put, List.setIfInBounds_toArray, List.set_cons_zero, List.set_cons_succ]
        refine b_one rfl own_hash (fun w1 => hash_f hs w1) rfl rfl ?_
        simp only [Act.put, List.setIfInBounds_toArray, List.set_cons_zero, List.set_cons_succ]
        refine b_el gx HX0.len _ rfl rfl rfl (fun _ h => h.blk hxf) ?_
        simp only [Act.put, List.setIfInBounds_toArray, List.set_cons_zero, List.set_cons_succ]
        refine b_one rfl own_hash (fun w1 => hash_f HX0 w1) rfl rfl ?_
        simp only [Act.put, List.setIfInBounds_toArray, List.set_cons_zero, List.set_cons_succ]
        by_cases hSX : S = X
        · refine b_eq (q := true) (By (enc S)).toArray (By (enc X)).toArray rfl rfl rfl rfl (by kernel_rfl) (fun w1 => by rw [eqd S X w1, decide_eq_true hSX]) ?_
          simp only [Act.put, List.setIfInBounds_toArray, List.set_cons_zero, List.set_cons_succ]
          refine b_move rfl rfl ?_
          simp only [Act.put, List.setIfInBounds_toArray, List.set_cons_zero, List.set_cons_succ]
          refine b_skip rfl ?_
          simp only [Act.put, List.setIfInBounds_toArray, List.set_cons_zero, List.set_cons_succ]
          refine b_skip rfl ?_
          simp only [Act.put, List.setIfInBounds_toArray, List.set_cons_zero, List.set_cons_succ]
          refine b_skip rfl ?_
          simp only [Act.put, List.setIfInBounds_toArray, List.set_cons_zero, List.set_cons_succ]
          refine b_skip rfl ?_
          simp only [Act.put, List.setIfInBounds_toArray, List.set_cons_zero, List.set_cons_succ]
          refine b_skip rfl ?_
          simp only [Act.put, List.setIfInBounds_toArray, List.set_cons_zero, List.set_cons_succ]
          refine b_skip rfl ?_
          simp only [Act.put, List.setIfInBounds_toArray, List.set_cons_zero, List.set_cons_succ]
          refine b_pick rfl rfl rfl ?_
          simp only [Act.put, List.setIfInBounds_toArray, List.set_cons_zero, List.set_cons_succ]
          refine b_pick rfl rfl rfl ?_
          simp only [Act.put, List.setIfInBounds_toArray, List.set_cons_zero, List.set_cons_succ]
          refine b_assign rfl rfl ?_
          refine wpB_nil ?_
          intro W9 hw9
          have hbe := below_up hbf hw9
          clear hw9
          go_wp2
          go_ret
          exact ⟨rfl, hbe⟩
        · have hS2 := hS.resolve_left hSX
          refine b_eq (q := false) (By (enc S)).toArray (By (enc X)).toArray rfl rfl rfl rfl (by kernel_rfl) (fun w1 => by rw [eqd S X w1, decide_eq_false hSX]) ?_
          simp only [Act.put, List.setIfInBounds_toArray, List.set_cons_zero, List.set_cons_succ]
          refine b_move rfl rfl ?_
          simp only [Act.put, List.setIfInBounds_toArray, List.set_cons_zero, List.set_cons_succ]
          refine b_el gs hs.len _ rfl rfl rfl (fun _ h => h.blk hsf) ?_
          simp only [Act.put, List.setIfInBounds_toArray, List.set_cons_zero, List.set_cons_succ]
          refine b_el gx HX0.len _ rfl rfl rfl (fun _ h => h.blk hxf) ?_
          simp only [Act.put, List.setIfInBounds_toArray, List.set_cons_zero, List.set_cons_succ]
          refine b_fe rfl own_eladd (fun w1 _ => eladd_f hs HX0 w1) rfl rfl ?_
          intro r3 v3
          simp only [Act.put, List.setIfInBounds_toArray, List.set_cons_zero, List.set_cons_succ]
          rw [hS2] at v3
          refine b_one rfl own_hash (fun w1 => hash_f v3 w1) rfl rfl ?_
          simp only [Act.put, List.setIfInBounds_toArray, List.set_cons_zero, List.set_cons_succ]
          refine b_build _ _ rfl rfl rfl built_h0 ?_
          simp only [Act.put, List.setIfInBounds_toArray, List.set_cons_zero, List.set_cons_succ]
          refine b_eqh (enc (_)) (enc_len _) rfl rfl rfl rfl rfl ?_
          simp only [Act.put, List.setIfInBounds_toArray, List.set_cons_zero, List.set_cons_succ]
          refine b_pickF rfl rfl rfl ?_
          simp only [Act.put, List.setIfInBounds_toArray, List.set_cons_zero, List.set_cons_succ]
          refine b_pick rfl rfl rfl ?_
          simp only [Act.put, List.setIfInBounds_toArray, List.set_cons_zero, List.set_cons_succ]
          refine b_assign rfl rfl ?_
          refine wpB_nil ?_
          intro W9 hw9
          have hbe := below_up hbf hw9
          clear hw9
          go_wp2
          go_ret
          exact ⟨rfl, hbe⟩
  -- end powers

theorem fieldPowers_types : ∀ t ∈ Tryd.f9.params.toList, Tryd.prog.readableRec t = true ∧ t < Tryd.prog.types.size := by
  have h : Tryd.f9.params.toList.all (fun t => Tryd.prog.readableRec t && decide (t < Tryd.prog.types.size)) = true := by kernel_rfl
  intro t ht
  have := List.all_eq_true.1 h t ht
  simpa using this

set_option maxRecDepth 100000 in
theorem fieldPowers_lifted (os : Os) (started : os.Started) (H : Type) (enc : TypeId × Value → H) :
    ReturnsInHanded {} Tryd.checked os 9 .any (fun w args => (Rows.fieldPowersSpec.pre enc Tryd.prog Tryd.f9 [] false w args ∧ laidMetH Tryd.prog laid1 w) ∧ sizedMet enc Tryd.prog Tryd.f9 (OpenSpec.ofChange Rows.fieldPowersSpec) false w args)
      (Rows.fieldPowersSpec.post enc Tryd.prog Tryd.f9 false true false false) := by
  refine returnsInHanded_of_change_and (C := Tryd.checked) (X := fun w _ => laidMetH Tryd.prog laid1 w) (fun _ _ _ hh h => h.of_heap hh) own started (by kernel_rfl) Tryd.func9
    (ChangeSpec.witness_shaped (enc := enc) (C := Tryd.checked) (os := os) (X := fun w _ => laidMetH Tryd.prog laid1 w) false (World.doorLaid Tryd.prog 400 os) #[.agg (By (List.replicate 32 0)).toArray] 8 rfl (World.shaped_of_RefB (by kernel_rfl) (by kernel_rfl)) (by kernel_rfl) (by kernel_rfl) (by kernel_rfl) (door_met os _)) ?_
  intro W base args ds gs before hval0 hW _ _ hL _
  have hval : ∀ (j : Nat) t v, Tryd.f9.params[j]? = some t → args[j]? = some v → Value.okWide Tryd.prog W .any base t v := hval0
  have hW' : DataW.Whole enc Tryd.prog Tryd.f9.params.toList Rows.fieldPowersSpec.vars false W args.toList ds gs before := hW
  obtain ⟨p, q, hA0, hV, rfl, hfz, hnd⟩ := hW
  have hA : DataW.TrodAll enc Tryd.prog W 0 (fun _ => true) true Tryd.f9.params.toList args.toList ds p := hA0
  rw [Tryd.params9] at hA hval
  obtain ⟨v0, d0, rfl, rfl, h0⟩ := trodAll_one hA
  obtain ⟨rfl, rfl⟩ := trodVars_none hV
  obtain ⟨a, la, rfl⟩ := open_hash (hval 0 22 v0 rfl rfl) h0
  clear hA0 hval0
  refine (fieldPowers_walk la W (of_laid hL)).mono fun e W' ⟨he, hb⟩ => ?_
  exact ⟨_, he, law_post (by kernel_rfl) rfl fieldPowers_types hW' rfl hb⟩

theorem fieldPowers_holds : Rows.FieldPowersSaid :=
  OpenClaim.holds_of_wide 9 Tryd.f9 rfl rfl rfl rfl rfl rfl rfl ⟨rfl, rfl, rfl, rfl, rfl⟩ rfl rfl rfl rfl rfl (by kernel_rfl) Tryd.func9 (by kernel_rfl)
    (of_decide_eq_true (by kernel_rfl)) (by unfold Func.isWrapper; first | (rw [if_pos (by decide +kernel)]; kernel_rfl) | (rw [if_neg (by decide +kernel)]; exact ⟨rfl, rfl⟩))
    (fun os started H enc _ => fieldPowers_lifted os started H enc)

theorem fieldPowers_card_holds : Rows.FieldPowersCardSaid :=
  Claim7.holds_tied_plain_at .later [] [.data] true Rows.fieldPowersCard.stood.harness false
    fieldPowers_holds (fun _ h => by cases h) (by kernel_rfl) (fun _ h => by cases h) fieldPowers_row_tie rfl ⟨rfl, rfl⟩ (by kernel_rfl) rfl
    (fun f fn hf hfn => by
      obtain rfl : f = 9 := Option.some.inj ((show Tryd.prog.funcNamed "witan/witanlaw03.FieldPowers" = some 9 by kernel_rfl).symm.trans hf) |>.symm
      obtain rfl : fn = Tryd.f9 := (Option.some.inj (Tryd.func9.symm.trans hfn)).symm
      exact ⟨by kernel_rfl, fun j t ht => by
        have hm := Array.mem_of_getElem? ht
        have hall : (Tryd.f9.params.toList.all fun u => !Tryd.prog.wantsStandIn u) = true := by kernel_rfl
        have h2 := List.all_eq_true.1 hall t (Array.mem_toList_iff.2 hm)
        show Tryd.prog.wantsStandIn t = false
        simpa using h2⟩)
    (by kernel_rfl)
#print axioms fieldPowers_card_holds
end Go.Proofs.YtchhkejgdcmicaaDoor
