/-
  PROVED: FieldRows answers true for every input: long rows of sums and differences stay right. No condition but the row's own: the table lies as the program's text lays it (the card ties it): the statement '..CardSaid' itself.
-/
import Derived.Test.YtchhkejgdcmicaaDoorLaw3
import Derived.Test.YtchhkejgdcmicaaDoorElFirst
import Derived.Deep.Slices
namespace Go.Proofs.YtchhkejgdcmicaaDoor
open Go.RowKit Go.IntWalk Nums
open Go.ChangeShapes Go.WideShapes Go.ChangeAt

theorem rows_start {r : List Nat} {x y : F} (h : EB r x) : EB r (x + fof 0 * y) := by
  have e : x + fof 0 * y = x := by
    rw [fof_zero]
    grind only
  rw [e]
  exact h
theorem rows_next {x y : F} {k : Nat} : x + fof k * y + y = x + fof (k + 1) * y := by
  rw [fof_add, fof_one]
  grind only
theorem rows_odd {x y : F} {k : Nat} : x + fof k * y - y + y + y = x + fof (k + 1) * y := by
  rw [fof_add, fof_one]
  grind only
theorem rows_end {x y : F} {k : Nat} : x + fof k * y = x + y * fof k := by grind only

theorem open_bytes {H : Type} {enc : TypeId × Value → H} {W : World} {held : Bool} {fuel : Nat} {cs : List Value} {x : DataW H × List MemPlace} (h : DataW.trod enc Tryd.prog W 0 (fun _ => true) held fuel 46 cs = some x) :
    ∃ (A : Option Addr) (l : List UInt8) (c : Nat), cs = [.slice A l.length c] ∧ SL W 0 W.heap.size A l c := by
  rcases open_ints Tryd.underlying46 Tryd.underlying5 cells8 h with ⟨rfl, rfl⟩ | ⟨a, len, cap, zs, rfl, _, hl, hm, hz, rfl, hcell, hwz⟩
  · exact ⟨none, [], 0, rfl, SL.nil _ _ _⟩
  · have hz' : zs.length = cap := hz
    have hlen : ((zs.take len).map fun z => UInt8.ofNat z.toNat).length = len := by simp; omega
    refine ⟨some a, (zs.take len).map fun z => UInt8.ofNat z.toNat, cap, by rw [hlen], by rw [hlen]; exact hl, by unfold maxLen at hm; omega, fun h => (by cases h), fun hpos => ⟨a, rfl, Nat.zero_le _, ?_, fun j x hx => ?_⟩⟩
    · have h0 : 0 < zs.length := by rw [hlen] at hpos; omega
      have := World.block_lt_of_cell? W _ (hcell 0 h0)
      rwa [block_add] at this
    · simp only [List.getElem?_map, List.getElem?_take, Option.map_eq_some_iff] at hx
      obtain ⟨z, hz, rfl⟩ := hx
      split at hz
      · have hj := (List.getElem?_eq_some_iff.1 hz).1
        have hb := range_u8 hwz j
        have hg : zs.getD j 0 = z := by simp [List.getD, hz]
        rw [hz] at hb
        simp only [Option.getD_some] at hb
        rw [hcell j hj, hg]
        have e : (UInt8.ofNat z.toNat).toNat = z.toNat := by
          simp
          omega
        rw [e, Int.toNat_of_nonneg hb.1]
      · cases hz

set_option maxRecDepth 100000 in
set_option maxHeartbeats 4000000 in
theorem fieldRows_walk {a : List UInt8} {b : List UInt8} (la : a.length = 32) (lb : b.length = 32) (A : Option Addr) (l : List UInt8) (c : Nat) (w : World) (hsl : SL w 0 w.heap.size A l c) (hT0 : Tw w) :
    Calls Tryd.prog 7 #[.agg (By a).toArray, .agg (By b).toArray, .slice A l.length c] w fun e w' => e = .returned (.bool true) ∧ Below w.heap.size w w' := by
  go_enter Tryd.func7, Tryd.ntmps7
  refine wp_seq_k fun K hK => ?_
  refine wp_region_lit ?_
  refine wpl_box (By a).toArray rfl rfl rfl ?_
  refine wpl_box (By b).toArray rfl rfl rfl ?_
  refine wpl_assign rfl rfl ?_
  refine wpl_nil ?_
  go_simp
  refine hK _ _ ?_
  clear hK K
  refine wp_at (fun W => Blk W (w.heap.size) 22 (By a).toArray ∧ Blk W (w.heap.size + 1) 22 (By b).toArray ∧ Below w.heap.size w W)
    ⟨heap_alloc2_old w _ _, heap_alloc2_new w _ _, ((Below.refl _ _).alloc (Nat.le_refl _) _).alloc (by simp) _⟩ ?_
  rintro W ⟨ha, hb, hbe⟩
  have hT := hT0.below hbe
  -- walk rows
  refine wp_seq_k fun K hK => ?_
  refine wp_seq_k fun K2 hK2 => ?_
  refine reg_qF ?_
  refine b_oneC rfl own_first (fun w1 hw => first_f w1 (hT.below hw)) rfl rfl ?_
  simp only [Act.put, List.setIfInBounds_toArray, List.set_cons_zero, List.set_cons_succ]
  refine b_not _ rfl rfl rfl ?_
  simp only [Act.put, List.setIfInBounds_toArray, List.set_cons_zero, List.set_cons_succ]
  refine wpB_nil ?_
  intro W1 hw1
  simp only [Exit.then]
  refine hK2 _ _ ?_
  clear hK2 K2
  have ha := hw1.blk ha
  have hb := hw1.blk hb
  have hT := hT.below hw1
  have hbe := below_up hbe hw1
  clear hw1
  refine wp_cond (t := false) rfl ?_
  rw [if_neg (by decide)]
  refine wp_skip ?_
  simp only [Exit.then]
  refine hK _ _ ?_
  clear hK K
  have hsz0 := hbe.size
  refine wp_seq_k fun K hK => ?_
  refine reg_var2 4 7 8 27 27 (.tmp 16) (.tmp 18) z5 z5 rfl rfl rfl rfl rfl rfl rfl rfl rfl rfl rfl rfl rfl (by decide) (by kernel_rfl) (tail_ok (by kernel_rfl)) (by kernel_rfl) (by kernel_rfl) (by kernel_rfl) (fun _ _ d _ _ h => by cases d <;> exact h) (exec_alloc rfl (by kernel_rfl)) (exec_alloc rfl (by kernel_rfl)) ?_
  simp only [List.take_succ_cons, List.take_zero]
  refine b_by w.heap.size la _ rfl rfl rfl (fun _ h => h.blk ha) ?_
  simp only [Act.put, List.setIfInBounds_toArray, List.set_cons_zero, List.set_cons_succ]
  refine b_fe rfl own_in (fun w1 _ => in_f la w1) rfl rfl ?_
  intro r1 v1
  simp only [Act.put, List.setIfInBounds_toArray, List.set_cons_zero, List.set_cons_succ]
  refine b_by (w.heap.size + 1) lb _ rfl rfl rfl (fun _ h => h.blk hb) ?_
  simp only [Act.put, List.setIfInBounds_toArray, List.set_cons_zero, List.set_cons_succ]
  refine b_fe rfl own_in (fun w1 _ => in_f lb w1) rfl rfl ?_
  intro r2 v2
  simp only [Act.put, List.setIfInBounds_toArray, List.set_cons_zero, List.set_cons_succ]
  refine wpB_nil ⟨(Us r1).toArray, (Us r2).toArray, fun _ _ => rfl, fun _ _ => rfl, fun _ _ => rfl, fun _ _ => rfl, (len_us v1.len).symm, (len_us v2.len).symm, size_el _ (len_us v1.len), size_el _ (len_us v2.len), Us_one _, Us_one _, fun gx gy W1 hgx hgy hw1 hbx hby => ?_⟩
  simp only [Exit.then, Act.put, List.setIfInBounds_toArray, List.set_cons_zero, List.set_cons_succ]
  refine hK _ _ ?_
  clear hK K
  have ha := hw1.blk ha
  have hb := hw1.blk hb
  have hT := hT.below hw1
  have hbe := below_up hbe hw1
  clear hw1
  refine wp_seq_k fun K hK => ?_
  refine reg_tailF 1 ?_
  simp only [List.take_succ_cons, List.take_zero, List.drop_succ_cons, List.drop_zero]
  refine b_el gx v1.len _ rfl rfl rfl (fun _ h => h.blk hbx) ?_
  simp only [Act.put, List.setIfInBounds_toArray, List.set_cons_zero, List.set_cons_succ]
  refine wpB_nil ?_
  intro W0 hw0
  refine wpl_alloc (zs := z5) rfl rfl (by kernel_rfl) ?_
  simp only [Act.put, List.setIfInBounds_toArray, List.set_cons_zero, List.set_cons_succ]
  have hb0 := Blk.new W0 27 z5
  have hg0 := hw0.size
  have hx0 := (hw0.blk hbx).lt
  have hy0 := (hw0.blk hby).lt
  have hw1 := hw0.alloc (Obj.cells z5 27)
  clear hw0
  generalize W0.alloc (Obj.cells z5 27) = W1 at *
  generalize W0.heap.size = gu at *
  refine wpList_store_row rfl 27 _ _ rfl gu rfl (Us r1).toArray rfl 27 _ hb0 (size_el _ (len_us v1.len)) (len_us v1.len).symm (Us_one _) ?_
  refine wpl_assign rfl rfl ?_
  refine wpl_nil ?_
  simp only [Exit.then, Act.put, List.setIfInBounds_toArray, List.set_cons_zero, List.set_cons_succ]
  refine hK _ _ ?_
  clear hK K
  have hwu := Nat.le_trans hbe.size hg0
  have hnx := Nat.ne_of_lt hx0
  have hny := Nat.ne_of_lt hy0
  have hbx := (hw1.blk hbx).rowFar hnx (g' := gu) (Us r1).toArray
  have hby := (hw1.blk hby).rowFar hny (g' := gu) (Us r1).toArray
  have hbu := hb0.row (Us r1).toArray
  have hbe := below_setRow (below_up hbe hw1) hwu (Us r1).toArray
  clear hw1 hb0 hx0 hy0 hg0
  generalize World.setRow _ gu (Us r1).toArray = W2 at *
  have hzx := len_us v1.len
  have hzy := len_us v2.len
  have hwx : w.heap.size ≤ gu := hwu
  generalize fof (le a % 57896044618658097711785492504343953926634992332820282019728792003956564819968) = X at *
  generalize fof (le b % 57896044618658097711785492504343953926634992332820282019728792003956564819968) = Y at *
  have HX := Lib.hid (And.intro v1 v2)
  have HS := Lib.hid hsl
  clear hT ha hb hsl
  go_wp2
  rw [show (!true) = false from rfl]
  go_loopw [22, 10] (fun i n wr => ∃ k : Nat, k ≤ l.length ∧ k ≤ 200 ∧ i = .int .i64 k ∧ n = .int .u64 k ∧ ∃ r, EB r (X + fof k * Y) ∧ Blk wr gx 27 (Us r1).toArray ∧ Blk wr gy 27 (Us r2).toArray ∧ Blk wr gu 27 (Us r).toArray ∧ Below w.heap.size w wr) (fun i _ _ => l.length - (intOf i).toNat)
  case atStart => exact ⟨0, by omega, by omega, rfl, rfl, r1, rows_start HX.out.1, hbx, hby, hbu, hbe⟩
  case round =>
    clear hbx hby hbu hbe
    obtain ⟨k, hk, hk2, rfl, rfl, r, hr, hx, hy, hu, hbel⟩ := hrel
    have hzr := len_us hr.len
    by_cases hlt : k < l.length
    · obtain ⟨ad, rfl, -, -, hcell⟩ := (HS.out.below hbel (Nat.le_refl _)).2.2.2 (by omega)
      have hc := hcell k _ (List.getElem?_eq_getElem hlt)
      have hcap := HS.out.1
      have ho := (l[k]).toNat_lt
      generalize (l[k]).toNat = o at *
      clear hcell
      have q0 : (0 : Int) ≤ (k : Int) := by omega
      have q1 : IntKind.u64.wrap ((k : Int) + 1) = (k : Int) + 1 := by rw [IntKind.wrap_u64]; omega
      have q2 : (k : Int) < (l.length : Int) := by omega
      by_cases h200 : k < 200
      · have q3 : (k : Int) < 200 := by omega
        by_cases hpar : o % 2 = 0
        · have q4 : ((o : Nat) : Int).tmod 2 = 0 := by
            have : ((o : Nat) : Int).tmod 2 = ((o % 2 : Nat) : Int) := rfl
            rw [this, hpar]
            rfl
          have HM := fun w1 => Lib.hid (eladd_f hr HX.out.2 w1)
          have HK := Lib.hid (And.intro hx (And.intro hy (And.intro hu hbel)))
          clear hx hbel
          go_wp2_with (first
            | (refine wpList_load_row rfl 27 _ rfl gu rfl 27 (Us r).toArray (0, 0) _ hu Tryd.underlying27 rfl (size_el _ hzr) ?_)
            | (refine wpList_load_row rfl 27 _ rfl gy rfl 27 (Us r2).toArray (0, 0) _ hy Tryd.underlying27 rfl (size_el _ hzy) ?_))
          refine (HM _).out.mono ?_
          rintro e w2 ⟨m, hm, rfl, hw2⟩
          have hzm := len_us hm.len
          clear hu hy
          obtain ⟨hx, hy, hu, hbel⟩ := HK.out
          have j0 := hu.below hw2 hu.lt
          have jx := (hx.below hw2 hx.lt).rowFar hnx (Us m).toArray
          have jy := (hy.below hw2 hy.lt).rowFar hny (Us m).toArray
          have ju := j0.row (Us m).toArray
          have jb := below_setRow (hbel.trans (hw2.mono hbel.size)) hwx (Us m).toArray
          have HR := Lib.hid (And.intro jx (And.intro jy (And.intro ju jb)))
          rw [rows_next] at hm
          clear HK HM hx hy hu hbel hw2 jx jy ju jb hc
          go_wp2_with (refine wpList_store_row rfl 27 _ _ rfl gu rfl (Us m).toArray rfl 27 _ j0 (size_el _ hzm) (by rw [hzm, hzr]) (Us_one _) ?_)
          go_roundw
          case rel =>
            obtain ⟨jx, jy, ju, jb⟩ := HR.out
            exact ⟨k + 1, by omega, by omega, by go_num, by go_num, m, hm, jx, jy, ju, jb⟩
          case measure => simp [intOf]; omega
        · have q4 : (((o : Nat) : Int).tmod 2 == 0) = false := by
            have : ((o : Nat) : Int).tmod 2 = ((o % 2 : Nat) : Int) := rfl
            rw [this]
            simp
            omega
          have q5 : ¬ ((o : Nat) : Int).tmod 2 = 0 := by simpa using q4
          have HU := Lib.hid (And.intro hx (And.intro hy hu))
          have HY := Lib.hid hbel
          clear hx hy hu hbel
          go_wp2
          refine reg_set 7 (.tmp 9) 27 (.tmp 43) rfl rfl rfl rfl (by kernel_rfl) (tail_ok (by kernel_rfl)) (fun _ _ d _ _ h => by cases d <;> exact h) ?_
          simp only [List.take_succ_cons, List.take_zero]
          obtain ⟨hx, hy, hu⟩ := HU.out
          have hbel := HY.out
          have hT := hT0.below hbel
          refine b_el gu hr.len _ rfl rfl rfl (fun _ h => h.blk hu) ?_
          simp only [Act.put, List.setIfInBounds_toArray, List.set_cons_zero, List.set_cons_succ]
          refine b_el gy HX.out.2.len _ rfl rfl rfl (fun _ h => h.blk hy) ?_
          simp only [Act.put, List.setIfInBounds_toArray, List.set_cons_zero, List.set_cons_succ]
          refine b_fe rfl own_elsub (fun w1 hw => elsub_f hr HX.out.2 w1 (hT.below hw)) rfl rfl ?_
          intro s1 e1
          simp only [Act.put, List.setIfInBounds_toArray, List.set_cons_zero, List.set_cons_succ]
          refine b_el gy HX.out.2.len _ rfl rfl rfl (fun _ h => h.blk hy) ?_
          simp only [Act.put, List.setIfInBounds_toArray, List.set_cons_zero, List.set_cons_succ]
          refine b_fe rfl own_eladd (fun w1 _ => eladd_f e1 HX.out.2 w1) rfl rfl ?_
          intro s2 e2
          simp only [Act.put, List.setIfInBounds_toArray, List.set_cons_zero, List.set_cons_succ]
          refine b_el gy HX.out.2.len _ rfl rfl rfl (fun _ h => h.blk hy) ?_
          simp only [Act.put, List.setIfInBounds_toArray, List.set_cons_zero, List.set_cons_succ]
          refine b_fe rfl own_eladd (fun w1 _ => eladd_f e2 HX.out.2 w1) rfl rfl ?_
          intro m hm
          simp only [Act.put, List.setIfInBounds_toArray, List.set_cons_zero, List.set_cons_succ]
          rw [rows_odd] at hm
          have hzm := len_us hm.len
          refine wpB_nil ⟨gu, _, _, rfl, rfl, hu, by rw [hzm, hzr], size_el _ hzm, Us_one _, fun W1 hw1 => ?_⟩
          have jx := (hw1.blk hx).rowFar hnx (g' := gu) (Us m).toArray
          have jy := (hw1.blk hy).rowFar hny (g' := gu) (Us m).toArray
          have ju := (hw1.blk hu).row (Us m).toArray
          have jb := below_setRow (below_up hbel hw1) hwx (Us m).toArray
          have HR := Lib.hid (And.intro jx (And.intro jy (And.intro ju jb)))
          clear hx hy hu hbel hw1 jx jy ju jb HU HY hT hc
          go_wp2
          go_roundw
          case rel =>
            obtain ⟨jx, jy, ju, jb⟩ := HR.out
            exact ⟨k + 1, by omega, by omega, by go_num, by go_num, m, hm, jx, jy, ju, jb⟩
          case measure => simp [intOf]; omega
      · have q3 : ¬ (k : Int) < 200 := by omega
        have HU := Lib.hid (And.intro hx (And.intro hy hu))
        have HY := Lib.hid hbel
        clear hx hy hu hbel
        go_wp2
        obtain ⟨hx, hy, hu⟩ := HU.out
        have hbel := HY.out
        have hT := hT0.below hbel
        have HX1 := HX.out.1
        have HX2 := HX.out.2
        refine reg_q (by kernel_rfl) (tail_ok (by kernel_rfl)) (fun _ _ d _ _ h => by cases d <;> exact h) ?_
        refine b_el gu hr.len _ rfl rfl rfl (fun _ h => h.blk hu) ?_
        simp only [Act.put, List.setIfInBounds_toArray, List.set_cons_zero, List.set_cons_succ]
        rw [rows_end] at hr
        refine b_one rfl own_hash (fun w1 => hash_f hr w1) rfl rfl ?_
        simp only [Act.put, List.setIfInBounds_toArray, List.set_cons_zero, List.set_cons_succ]
        refine b_el gx HX1.len _ rfl rfl rfl (fun _ h => h.blk hx) ?_
        simp only [Act.put, List.setIfInBounds_toArray, List.set_cons_zero, List.set_cons_succ]
        refine b_el gy HX2.len _ rfl rfl rfl (fun _ h => h.blk hy) ?_
        simp only [Act.put, List.setIfInBounds_toArray, List.set_cons_zero, List.set_cons_succ]
        refine b_move rfl rfl ?_
        simp only [Act.put, List.setIfInBounds_toArray, List.set_cons_zero, List.set_cons_succ]
        refine b_fe rfl own_small (fun w1 _ => small_f k (by omega) w1) rfl rfl ?_
        intro r3 v3
        simp only [Act.put, List.setIfInBounds_toArray, List.set_cons_zero, List.set_cons_succ]
        refine b_fe rfl own_elmul (fun w1 _ => elmul_f HX2 v3 w1) rfl rfl ?_
        intro r4 v4
        simp only [Act.put, List.setIfInBounds_toArray, List.set_cons_zero, List.set_cons_succ]
        refine b_fe rfl own_eladd (fun w1 _ => eladd_f HX1 v4 w1) rfl rfl ?_
        intro r5 v5
        simp only [Act.put, List.setIfInBounds_toArray, List.set_cons_zero, List.set_cons_succ]
        refine b_one rfl own_hash (fun w1 => hash_f v5 w1) rfl rfl ?_
        simp only [Act.put, List.setIfInBounds_toArray, List.set_cons_zero, List.set_cons_succ]
        refine b_eqh (enc (_)) (enc_len _) rfl rfl rfl rfl rfl ?_
        simp only [Act.put, List.setIfInBounds_toArray, List.set_cons_zero, List.set_cons_succ]
        refine b_assign rfl rfl ?_
        refine wpB_nil ?_
        intro W9 hw9
        have hbe := below_up hbel hw9
        clear hw9
        go_wp2
        go_ret
        exact ⟨rfl, hbe⟩
    · have q2 : ¬ (k : Int) < (l.length : Int) := by omega
      have HU := Lib.hid (And.intro hx (And.intro hy hu))
      have HY := Lib.hid hbel
      clear hx hy hu hbel
      go_wp2
      obtain ⟨hx, hy, hu⟩ := HU.out
      have hbel := HY.out
      have hT := hT0.below hbel
      have HX1 := HX.out.1
      have HX2 := HX.out.2
      refine reg_q (by kernel_rfl) (tail_ok (by kernel_rfl)) (fun _ _ d _ _ h => by cases d <;> exact h) ?_
      refine b_el gu hr.len _ rfl rfl rfl (fun _ h => h.blk hu) ?_
      simp only [Act.put, List.setIfInBounds_toArray, List.set_cons_zero, List.set_cons_succ]
      rw [rows_end] at hr
      refine b_one rfl own_hash (fun w1 => hash_f hr w1) rfl rfl ?_
      simp only [Act.put, List.setIfInBounds_toArray, List.set_cons_zero, List.set_cons_succ]
      refine b_el gx HX1.len _ rfl rfl rfl (fun _ h => h.blk hx) ?_
      simp only [Act.put, List.setIfInBounds_toArray, List.set_cons_zero, List.set_cons_succ]
      refine b_el gy HX2.len _ rfl rfl rfl (fun _ h => h.blk hy) ?_
      simp only [Act.put, List.setIfInBounds_toArray, List.set_cons_zero, List.set_cons_succ]
      refine b_move rfl rfl ?_
      simp only [Act.put, List.setIfInBounds_toArray, List.set_cons_zero, List.set_cons_succ]
      refine b_fe rfl own_small (fun w1 _ => small_f k (by omega) w1) rfl rfl ?_
      intro r3 v3
      simp only [Act.put, List.setIfInBounds_toArray, List.set_cons_zero, List.set_cons_succ]
      refine b_fe rfl own_elmul (fun w1 _ => elmul_f HX2 v3 w1) rfl rfl ?_
      intro r4 v4
      simp only [Act.put, List.setIfInBounds_toArray, List.set_cons_zero, List.set_cons_succ]
      refine b_fe rfl own_eladd (fun w1 _ => eladd_f HX1 v4 w1) rfl rfl ?_
      intro r5 v5
      simp only [Act.put, List.setIfInBounds_toArray, List.set_cons_zero, List.set_cons_succ]
      refine b_one rfl own_hash (fun w1 => hash_f v5 w1) rfl rfl ?_
      simp only [Act.put, List.setIfInBounds_toArray, List.set_cons_zero, List.set_cons_succ]
      refine b_eqh (enc (_)) (enc_len _) rfl rfl rfl rfl rfl ?_
      simp only [Act.put, List.setIfInBounds_toArray, List.set_cons_zero, List.set_cons_succ]
      refine b_assign rfl rfl ?_
      refine wpB_nil ?_
      intro W9 hw9
      have hbe := below_up hbel hw9
      clear hw9
      go_wp2
      go_ret
      exact ⟨rfl, hbe⟩
  -- end rows

theorem fieldRows_types : ∀ t ∈ Tryd.f7.params.toList, Tryd.prog.readableRec t = true ∧ t < Tryd.prog.types.size := by
  have h : Tryd.f7.params.toList.all (fun t => Tryd.prog.readableRec t && decide (t < Tryd.prog.types.size)) = true := by kernel_rfl
  intro t ht
  have := List.all_eq_true.1 h t ht
  simpa using this

set_option maxRecDepth 100000 in
theorem fieldRows_lifted (os : Os) (started : os.Started) (H : Type) (enc : TypeId × Value → H) :
    ReturnsInHanded {} Tryd.checked os 7 .any (fun w args => (Rows.fieldRowsSpec.pre enc Tryd.prog Tryd.f7 [] false w args ∧ laidMetH Tryd.prog laid1 w) ∧ sizedMet enc Tryd.prog Tryd.f7 (OpenSpec.ofChange Rows.fieldRowsSpec) false w args)
      (Rows.fieldRowsSpec.post enc Tryd.prog Tryd.f7 false true false false) := by
  refine returnsInHanded_of_change_and (C := Tryd.checked) (X := fun w _ => laidMetH Tryd.prog laid1 w) (fun _ _ _ hh h => h.of_heap hh) own started (by kernel_rfl) Tryd.func7
    (ChangeSpec.witness_shaped (enc := enc) (C := Tryd.checked) (os := os) (X := fun w _ => laidMetH Tryd.prog laid1 w) false (World.doorLaid Tryd.prog 400 os) #[.agg (By (List.replicate 32 0)).toArray, .agg (By (List.replicate 32 0)).toArray, .slice none 0 0] 8 rfl (World.shaped_of_RefB (by kernel_rfl) (by kernel_rfl)) (by kernel_rfl) (by kernel_rfl) (by kernel_rfl) (door_met os _)) ?_
  intro W base args ds gs before hval0 hW _ _ hL _
  have hval : ∀ (j : Nat) t v, Tryd.f7.params[j]? = some t → args[j]? = some v → Value.okWide Tryd.prog W .any base t v := hval0
  have hW' : DataW.Whole enc Tryd.prog Tryd.f7.params.toList Rows.fieldRowsSpec.vars false W args.toList ds gs before := hW
  obtain ⟨p, q, hA0, hV, rfl, hfz, hnd⟩ := hW
  have hA : DataW.TrodAll enc Tryd.prog W 0 (fun _ => true) true Tryd.f7.params.toList args.toList ds p := hA0
  rw [Tryd.params7] at hA hval
  obtain ⟨v0, v1, v2, d0, d1, d2, p0, p1, p2, rfl, rfl, rfl, h0, h1, h2⟩ := trodAll_three hA
  obtain ⟨rfl, rfl⟩ := trodVars_none hV
  obtain ⟨a, la, rfl⟩ := open_hash (hval 0 22 v0 rfl rfl) h0
  obtain ⟨b, lb, rfl⟩ := open_hash (hval 1 22 v1 rfl rfl) h1
  obtain ⟨a2, len2, cap2, rfl⟩ := okWide_slice Tryd.underlying46 (hval 2 46 v2 rfl rfl)
  obtain ⟨f2, hf2⟩ := h2
  obtain ⟨A, l, c, e2, hsl⟩ := open_bytes hf2
  injection e2 with e2
  injection e2 with x1 x2 x3
  subst x1
  subst x2
  subst x3
  clear hA0 hval0
  refine (fieldRows_walk la lb _ l _ W hsl (of_laid hL)).mono fun e W' ⟨he, hb⟩ => ?_
  exact ⟨_, he, law_post (by kernel_rfl) rfl fieldRows_types hW' rfl hb⟩

theorem fieldRows_holds : Rows.FieldRowsSaid :=
  OpenClaim.holds_of_wide 7 Tryd.f7 rfl rfl rfl rfl rfl rfl rfl ⟨rfl, rfl, rfl, rfl, rfl⟩ rfl rfl rfl rfl rfl (by kernel_rfl) Tryd.func7 (by kernel_rfl)
    (of_decide_eq_true (by kernel_rfl)) (by unfold Func.isWrapper; first | (rw [if_pos (by decide +kernel)]; kernel_rfl) | (rw [if_neg (by decide +kernel)]; exact ⟨rfl, rfl⟩))
    (fun os started H enc _ => fieldRows_lifted os started H enc)

theorem fieldRows_card_holds : Rows.FieldRowsCardSaid :=
  Claim7.holds_tied_plain_at .later [] [.data] true Rows.fieldRowsCard.stood.harness false
    fieldRows_holds (fun _ h => by cases h) (by kernel_rfl) (fun _ h => by cases h) fieldRows_row_tie rfl ⟨rfl, rfl⟩ (by kernel_rfl) rfl
    (fun f fn hf hfn => by
      obtain rfl : f = 7 := Option.some.inj ((show Tryd.prog.funcNamed "witan/witanlaw03.FieldRows" = some 7 by kernel_rfl).symm.trans hf) |>.symm
      obtain rfl : fn = Tryd.f7 := (Option.some.inj (Tryd.func7.symm.trans hfn)).symm
      exact ⟨by kernel_rfl, fun j t ht => by
        have hm := Array.mem_of_getElem? ht
        have hall : (Tryd.f7.params.toList.all fun u => !Tryd.prog.wantsStandIn u) = true := by kernel_rfl
        have h2 := List.all_eq_true.1 hall t (Array.mem_toList_iff.2 hm)
        show Tryd.prog.wantsStandIn t = false
        simpa using h2⟩)
    (by kernel_rfl)
#print axioms fieldRows_card_holds
end Go.Proofs.YtchhkejgdcmicaaDoor
