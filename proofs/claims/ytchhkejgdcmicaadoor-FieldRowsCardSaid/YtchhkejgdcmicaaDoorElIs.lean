/-
  THE FIELD'S NUMBERS: '==' of the numbers below p; is, Odd.
-/
import Derived.Test.YtchhkejgdcmicaaDoorElSteps
import Derived.Test.YtchhkejgdcmicaaDoorCalls
namespace Go.Proofs.YtchhkejgdcmicaaDoor
open Go.RowKit Go.IntWalk Nums

theorem info64 : (Tryd.prog.info? 24).map (fun i => (i.zero, i.size, i.bytes)) = some (some (.int .u64 0), 1, 8) := by kernel_rfl

theorem partU_at (w : World) (l : List Nat) (i : Nat) (hi : i < l.length) : (part 24 (Us l).toArray (i * 1)).run Tryd.prog w = .ok (.int .u64 (l[i] : Nat)) w := by
  have hagg : (isAgg 24).run Tryd.prog w = .ok false w := by
    unfold isAgg
    rw [Sem.run_bind, run_underlying Tryd.underlying24 w]
    rfl
  have hc : (Us l)[i]? = some (.int .u64 (l[i] : Nat)) := by simp [Us, List.getElem?_eq_getElem hi]
  unfold part
  simp [Sem.run_bind, hagg, hc, Sem.run_pure]

theorem oneU_eq (d x y : Nat) (w : World) : (Op.equalIn (d + 1) 24 (.int .u64 (x : Int)) (.int .u64 (y : Int))).run Tryd.prog w = .ok (decide (x = y)) w := by
  simp [Op.equalIn, run_underlying Tryd.underlying24]
  by_cases h : x = y
  · simp [h]
  · simp [h]
    omega

theorem equalIn_words (d n t : Nat) (l m : List Nat) (ht : Tryd.prog.underlying t = some (.array n 24)) (hl : l.length = n) (hm : m.length = n) (w : World) :
    (Op.equalIn (d + 2) t (.agg (Us l).toArray) (.agg (Us m).toArray)).run Tryd.prog w = .ok (decide (l = m)) w := by
  obtain ⟨i0, hi0, hz0, hz1, hz2⟩ := info_parts info64
  have hI : ∀ (I : List Nat), (∀ i ∈ I, i < n) → (forIn I ((none : Option Bool), ()) fun i _ => do
      let a ← part 24 (Us l).toArray (i * 1)
      let b ← part 24 (Us m).toArray (i * 1)
      let r ← Op.equalIn (d + 1) 24 a b
      if (!r) = true then pure (ForInStep.done (some false, ())) else pure (ForInStep.yield (none, ()))).run Tryd.prog w = .ok (if ∀ i ∈ I, l[i]! = m[i]! then (none, ()) else (some false, ())) w := by
    intro I
    induction I with
    | nil => intro _; simp [Sem.run_pure]
    | cons i I ih =>
      intro h
      have hi : i < l.length := by have := h i (by simp); omega
      have hj : i < m.length := by have := h i (by simp); omega
      have hp := partU_at w l i hi
      have hq := partU_at w m i hj
      have he := oneU_eq d l[i] m[i] w
      have e1 : l[i]! = l[i] := getElem!_pos l i hi
      have e2 : m[i]! = m[i] := getElem!_pos m i hj
      by_cases hx : l[i] = m[i]
      · rw [show decide (l[i] = m[i]) = true by simp [hx]] at he
        simp only [List.forIn_cons, Sem.run_bind, hp, hq, Result.andThen_ok, he, Bool.not_true, Bool.false_eq_true, if_false, Sem.run_pure]
        rw [ih (fun j hj => h j (by simp [hj]))]
        congr 1
        by_cases ha : ∀ i ∈ I, l[i]! = m[i]!
        · have hb : ∀ j ∈ i :: I, l[j]! = m[j]! := by
            intro j hj
            rcases List.mem_cons.mp hj with rfl | hj
            · rw [e1, e2, hx]
            · exact ha j hj
          rw [if_pos ha, if_pos hb]
        · rw [if_neg ha, if_neg (fun hb => ha fun j hj => hb j (List.mem_cons_of_mem _ hj))]
      · rw [show decide (l[i] = m[i]) = false by simp [hx]] at he
        simp only [List.forIn_cons, Sem.run_bind, hp, hq, Result.andThen_ok, he, Bool.not_false, if_true, Sem.run_pure]
        rw [if_neg (fun hb => hx (by have := hb i (List.mem_cons_self ..); rw [e1, e2] at this; exact this))]
  rw [Op.equalIn]
  simp only [Sem.run_bind, run_underlying ht, Result.andThen_ok, sizeOf, typeInfo, run_program, hi0, hz1, Sem.run_pure, Std.Legacy.Range.forIn_eq_forIn_range']
  rw [hI _ (fun i hi => by
    have := List.mem_range'_1.1 hi
    simp [Std.Legacy.Range.size] at this
    omega)]
  by_cases hlm : l = m
  · subst hlm
    simp [Sem.run_pure]
  · have hne : ¬ ∀ i ∈ List.range' 0 n 1, l[i]! = m[i]! := fun ha => hlm (by
      apply List.ext_getElem (by rw [hl, hm])
      intro i h1 h2
      have := ha i (List.mem_range'_1.2 (by omega))
      rwa [getElem!_pos l i h1, getElem!_pos m i h2] at this)
    have hs : Std.Legacy.Range.size [:n] = n := by simp [Std.Legacy.Range.size]
    rw [hs, if_neg hne, show decide (l = m) = false by simp [hlm]]
    rfl

theorem partEl (w : World) (l : List Nat) (hl : l.length = 5) : (part 25 (Us l).toArray 0).run Tryd.prog w = .ok (.agg (Us l).toArray) w := by
  have hagg : (isAgg 25).run Tryd.prog w = .ok true w := by
    unfold isAgg
    rw [Sem.run_bind, run_underlying Tryd.underlying25 w]
    rfl
  have hs : (sizeOf 25).run Tryd.prog w = .ok 5 w := by kernel_rfl
  have he : (Us l).toArray.extract 0 (0 + 5) = (Us l).toArray := by
    apply Array.ext'
    simp only [List.extract_toArray, List.extract_eq_take_drop, Nat.zero_add, Nat.sub_zero, List.drop_zero]
    exact List.take_of_length_le (by rw [Us_len, hl]; exact Nat.le_refl _)
  unfold part
  simp only [Sem.run_bind, hagg, Result.andThen_ok, if_true, hs, Sem.run_pure, he]

theorem run_field_el (l : List Nat) (hl : l.length = 5) (w : World) : (Instr.field 27 (.agg (Us l).toArray) 0).run Tryd.prog w = .ok (.agg (Us l).toArray) w := by
  have hp := partEl w l hl
  unfold Instr.field
  simp only [Sem.run_bind, run_underlying Tryd.underlying27, Result.andThen_ok]
  exact hp

theorem equal_el (l m : List Nat) (hl : l.length = 5) (hm : m.length = 5) (w : World) :
    (Op.equalIn 10000 27 (.agg (Us l).toArray) (.agg (Us m).toArray)).run Tryd.prog w = .ok (decide (l = m)) w := by
  have he := equalIn_words 9997 5 25 l m Tryd.underlying25 hl hm w
  have hst : Tryd.prog.stoodInHeld 27 = false := by kernel_rfl
  rw [Op.equalIn]
  simp only [Sem.run_bind, run_underlying Tryd.underlying27, Result.andThen_ok, run_program, hst]
  have he' : (Op.equalIn 9999 25 (.agg (Us l).toArray) (.agg (Us m).toArray)).run Tryd.prog w = .ok (decide (l = m)) w := he
  rw [if_neg (by decide)]
  have hp := partEl w l hl
  have hq := partEl w m hm
  generalize decide (l = m) = q at *
  cases q <;> simp [Sem.run_bind, hp, hq, he', Sem.run_pure]

/-- Rows of limbs that are small are told by their number. -/
theorem lv_inj : ∀ {a b : List Nat}, a.length = b.length → (∀ y ∈ a, y < 2251799813685248) → (∀ y ∈ b, y < 2251799813685248) → lv a = lv b → a = b
  | [], [], _, _, _, _ => rfl
  | x :: a, y :: b, hl, ha, hb, h => by
    have h1 := ha x (List.mem_cons_self ..)
    have h2 := hb y (List.mem_cons_self ..)
    have h3 : x + 2251799813685248 * lv a = y + 2251799813685248 * lv b := h
    have h4 : x = y := by omega
    have h5 : lv a = lv b := by omega
    rw [h4, lv_inj (by simpa using hl) (fun z hz => ha z (List.mem_cons_of_mem _ hz)) (fun z hz => hb z (List.mem_cons_of_mem _ hz)) h5]

theorem whole_iff {a b : List Nat} {x y : F} (ha : EB a x) (hb : EB b y) : whole a = whole b ↔ x = y := by
  obtain ⟨l1, b1, v1⟩ := whole_all ha
  obtain ⟨l2, b2, v2⟩ := whole_all hb
  constructor
  · intro h
    apply Fin.ext
    rw [← v1, ← v2, h]
  · rintro rfl
    exact lv_inj (by rw [l1, l2]) b1 b2 (by rw [v1, v2])

set_option maxRecDepth 100000 in
set_option maxHeartbeats 1000000 in
theorem is_f {a b : List Nat} {x y : F} (ha : EB a x) (hb : EB b y) (w : World) :
    Calls Tryd.prog 40 #[.agg (Us a).toArray, .agg (Us b).toArray] w fun e w' => e = .returned (.bool (decide (x = y))) ∧ Below w.heap.size w w' := by
  have hq : decide (x = y) = decide (whole a = whole b) := decide_eq_decide.2 (whole_iff ha hb).symm
  rw [hq]
  clear hq
  have l1 := (whole_all ha).1
  have l2 := (whole_all hb).1
  have hE := fun w1 => equal_el (whole a) (whole b) l1 l2 w1
  have H1 := fun w1 => whole_f ha w1
  have H2 := fun w1 => whole_f hb w1
  generalize decide (whole a = whole b) = q at *
  generalize whole a = u at *
  generalize whole b = v at *
  have hza := ha.len
  have hzb := hb.len
  have h0 : Blk ((w.alloc (Obj.cells (Us a).toArray 27)).alloc (Obj.cells (Us b).toArray 27)) w.heap.size 27 (Us a).toArray := heap_alloc2_old w _ _
  have h1 : Blk ((w.alloc (Obj.cells (Us a).toArray 27)).alloc (Obj.cells (Us b).toArray 27)) (w.heap.size + 1) 27 (Us b).toArray := heap_alloc2_new w _ _
  have hbel : Below w.heap.size w ((w.alloc (Obj.cells (Us a).toArray 27)).alloc (Obj.cells (Us b).toArray 27)) := ((Below.refl _ _).alloc (Nat.le_refl _) _).alloc (by simp) _
  clear ha hb
  go_enter Tryd.func40, Tryd.ntmps40
  go_wp2
  refine reg_q (by kernel_rfl) (tail_ok (by kernel_rfl)) (fun _ _ d _ _ h => by cases d <;> exact h) ?_
  refine b_el w.heap.size hza _ rfl rfl rfl (fun _ h => h.blk h0) ?_; simp only [Act.put, List.setIfInBounds_toArray, List.set_cons_zero, List.set_cons_succ]
  refine b_one rfl own_whole (fun w1 => H1 w1) rfl rfl ?_; simp only [Act.put, List.setIfInBounds_toArray, List.set_cons_zero, List.set_cons_succ]
  refine b_el (w.heap.size + 1) hzb _ rfl rfl rfl (fun _ h => h.blk h1) ?_; simp only [Act.put, List.setIfInBounds_toArray, List.set_cons_zero, List.set_cons_succ]
  refine b_one rfl own_whole (fun w1 => H2 w1) rfl rfl ?_; simp only [Act.put, List.setIfInBounds_toArray, List.set_cons_zero, List.set_cons_succ]
  refine b_eq (Us u).toArray (Us v).toArray rfl rfl rfl rfl (by kernel_rfl) hE ?_; simp only [Act.put, List.setIfInBounds_toArray, List.set_cons_zero, List.set_cons_succ]
  refine b_assign rfl rfl ?_; simp only [Act.put, List.setIfInBounds_toArray, List.set_cons_zero, List.set_cons_succ]
  refine wpB_nil ?_
  intro w1 hw1
  have hb2 := below_up hbel hw1
  go_wp2
  go_ret
  exact ⟨rfl, hb2⟩

theorem whole_odd {a : List Nat} {x : F} (ha : EB a x) : (whole a)[0]! % 2 = x.val % 2 := by
  obtain ⟨l1, _, v1⟩ := whole_all ha
  obtain ⟨a0, a1, a2, a3, a4, h⟩ := five l1
  rw [← v1, h, lv5]
  show a0 % 2 = _
  omega

set_option maxRecDepth 100000 in
set_option maxHeartbeats 1000000 in
theorem odd_f {a : List Nat} {x : F} (ha : EB a x) (w : World) :
    Calls Tryd.prog 22 #[.agg (Us a).toArray] w fun e w' => e = .returned (.bool (decide (x.val % 2 = 1))) ∧ Below w.heap.size w w' := by
  have ho := whole_odd ha
  obtain ⟨l1, l2, _⟩ := whole_all ha
  have H1 := fun w1 => Lib.hid (whole_f ha w1)
  rw [← ho]
  clear ho
  obtain ⟨a0, a1, a2, a3, a4, h⟩ := five l1
  rw [h] at H1 l2 ⊢
  have ha0 : a0 < 2251799813685248 := l2 a0 (by simp)
  have e0 : (Us [a0, a1, a2, a3, a4]).toArray = #[.int .u64 (a0 : Int), .int .u64 (a1 : Int), .int .u64 (a2 : Int), .int .u64 (a3 : Int), .int .u64 (a4 : Int)] := rfl
  have e1 : [a0, a1, a2, a3, a4][0]! = a0 := rfl
  rw [e1]
  rw [e0] at H1
  have hza := len_us ha.len
  have h0 := Blk.new w 27 (Us a).toArray
  have hbel : Below w.heap.size w (w.alloc (Obj.cells (Us a).toArray 27)) := (Below.refl _ _).alloc (Nat.le_refl _) _
  have hand : bits .and .u64 (a0 : Int) 1 = ((a0 % 2 : Nat) : Int) := by
    have h := u64_and_nat a0 1 (by omega) (by omega)
    rw [nat_mask1] at h
    exact h
  go_enter Tryd.func22, Tryd.ntmps22
  go_wp2_with (refine wpList_load_row rfl 27 _ rfl w.heap.size rfl 27 (Us a).toArray (0, 0) _ h0 Tryd.underlying27 rfl (size_el _ hza) ?_)
  refine (H1 _).out.mono ?_
  rintro e w1 ⟨rfl, hw1⟩
  have hb2 := below_up hbel hw1
  have hfl : ∀ w1, (Instr.field 27 (.agg #[.int .u64 (a0 : Int), .int .u64 (a1 : Int), .int .u64 (a2 : Int), .int .u64 (a3 : Int), .int .u64 (a4 : Int)]) 0).run Tryd.prog w1 = .ok (.agg #[.int .u64 (a0 : Int), .int .u64 (a1 : Int), .int .u64 (a2 : Int), .int .u64 (a3 : Int), .int .u64 (a4 : Int)]) w1 :=
    fun w1 => run_field_el [a0, a1, a2, a3, a4] rfl w1
  have hix : ∀ w1, (Instr.index 25 (.agg #[.int .u64 (a0 : Int), .int .u64 (a1 : Int), .int .u64 (a2 : Int), .int .u64 (a3 : Int), .int .u64 (a4 : Int)]) (.int .i64 0)).run Tryd.prog w1 = .ok (.int .u64 (a0 : Int)) w1 := fun w1 => by kernel_rfl
  have hdec : (((a0 % 2 : Nat) : Int) == 1) = decide (a0 % 2 = 1) := by
    rw [Bool.eq_iff_iff]
    simp
    omega
  generalize ha2 : a0 % 2 = m at hand
  rw [ha2] at hdec
  have HD := Lib.hid (show decide (m = 1) = decide (a0 % 2 = 1) by rw [ha2])
  clear ha2
  go_wp2
  go_ret
  exact ⟨congrArg (fun q => Ending.returned (Value.bool q)) HD.out, hb2⟩
end Go.Proofs.YtchhkejgdcmicaaDoor
