/-
  THE DOCUMENT'S OWN NUMBERS: Square.
-/
import Derived.Test.YtchhkejgdcmicaaDoorTail
import Derived.Test.YtchhkejgdcmicaaDoorGood
namespace Go.Proofs.YtchhkejgdcmicaaDoor
open Go.RowKit Go.IntWalk Nums

/-- A row of bytes in block s. -/
structure ZW (w wr : World) (s : Nat) (b : List UInt8) : Prop where
  b : Blk wr s 22 (By b).toArray
  be : Below w.heap.size w wr
theorem ZW.step {w wr w1 : World} {s : Nat} {b : List UInt8} (h : ZW w wr s b) (hw : Below wr.heap.size wr w1) : ZW w w1 s b :=
  ⟨h.b.below hw h.b.lt, h.be.trans (hw.mono h.be.size)⟩

set_option maxRecDepth 100000 in
set_option maxHeartbeats 2000000 in
theorem square_f {a b : List Int} {x y : F} (ha : NB 1048576 a x) (hb : NB 1048576 b y) (w : World) :
    Calls Tryd.prog 30 #[.agg (Is a).toArray, .agg (Is b).toArray] w fun e w' => e = .returned (.bool (decide (fpow (x * finv y) (2 ^ 254 - 10) = 1 ∨ fpow (x * finv y) (2 ^ 254 - 10) = 0))) ∧ Below w.heap.size w w' := by
  generalize hz : fpow (x * finv y) (2 ^ 254 - 10) = z
  have hor : decide (z = 1 ∨ z = 0) = (decide (z = 1) || decide (z = 0)) := Bool.decide_or _ _
  rw [hor]
  clear hor
  have hd1 : (enc z = enc (fof 1)) ↔ z = 1 := ⟨fun e => (enc_inj e).trans fof_one, fun e => congrArg enc (e.trans fof_one.symm)⟩
  have hd0 : (enc z = enc (fof 0)) ↔ z = 0 := ⟨fun e => (enc_inj e).trans fof_zero, fun e => congrArg enc (e.trans fof_zero.symm)⟩
  have hE1 : ∀ w1, (Op.equalIn 10000 22 (.agg (By (enc z)).toArray) (.agg (By (enc (fof 1))).toArray)).run Tryd.prog w1 = .ok (decide (z = 1)) w1 := fun w1 =>
    (equal32 (enc z) (enc (fof 1)) (enc_len _) (enc_len _) w1).trans (by rw [decide_eq_decide.2 hd1])
  have hE0 : ∀ w1, (Op.equalIn 10000 22 (.agg (By (enc z)).toArray) (.agg (By (enc (fof 0))).toArray)).run Tryd.prog w1 = .ok (decide (z = 0)) w1 := fun w1 =>
    (equal32 (enc z) (enc (fof 0)) (enc_len _) (enc_len _) w1).trans (by rw [decide_eq_decide.2 hd0])
  clear hd1 hd0
  have hzE : (By (enc z)).toArray.size = 32 := by rw [List.size_toArray, By_len, enc_len]
  have HPz : ∀ (q : List Int) (w2 : World), NB 65573 q (x * finv y) → Hid (Calls Tryd.prog 39 #[.agg (Is q).toArray, .int .i64 254, .int .u64 10] w2 fun e w' => ∃ r, NB 65573 r z ∧ e = .returned (.agg (Is r).toArray) ∧ Below w2.heap.size w2 w') := by
    intro q w2 hq
    rw [← hz]
    exact Lib.hid (power_f (hq.mono (by omega)) 254 10 (by omega) (by decide) (by omega) w2)
  have HKz : ∀ (r : List Int) (w2 : World), NB 65573 r z → Hid (Calls Tryd.prog 16 #[.agg (Is r).toArray] w2 fun e w' => e = .returned (.agg (By (enc z)).toArray) ∧ Below w2.heap.size w2 w') :=
    fun r w2 hr => Lib.hid (pack_f (hr.mono (by omega)) w2)
  have HO1 := fun w1 => Lib.hid (of_any 1 w1 (by omega))
  have HO0 := fun w1 => Lib.hid (of_any 0 w1 (by omega))
  have HK1 := fun w1 => Lib.hid (pack_f ((NB.of (v := 1) (by omega)).mono (by omega)) w1)
  have HK0 := fun w1 => Lib.hid (pack_f ((NB.of (v := 0) (by omega)).mono (by omega)) w1)
  generalize decide (z = 1) = q1 at *
  generalize decide (z = 0) = q0 at *
  generalize enc z = u at *
  generalize enc (fof 1) = u1 at *
  generalize enc (fof 0) = u0 at *
  generalize ofd 1 = o1 at *
  generalize ofd 0 = o0 at *
  have h0 : Blk ((w.alloc (Obj.cells (Is a).toArray 30)).alloc (Obj.cells (Is b).toArray 30)).drew w.heap.size 30 (Is a).toArray := (Blk.new w _ _).alloc _
  have h1 : Blk ((w.alloc (Obj.cells (Is a).toArray 30)).alloc (Obj.cells (Is b).toArray 30)).drew (w.heap.size + 1) 30 (Is b).toArray := heap_alloc2_new w _ _
  have hbel : Below w.heap.size w ((w.alloc (Obj.cells (Is a).toArray 30)).alloc (Obj.cells (Is b).toArray 30)).drew := (((Below.refl _ _).alloc (Nat.le_refl _) _).alloc (by simp) _).drew
  have HW : Hid (SW w _ a b) := Lib.hid ⟨h0, h1, hbel⟩
  have HI := fun w1 => Lib.hid (inv_f hb w1)
  have hza : (Is a).toArray.size = 16 := by rw [List.size_toArray, Is_len, ha.len]
  have hzb : (Is b).toArray.size = 16 := by rw [List.size_toArray, Is_len, hb.len]
  clear h0 h1 hbel
  go_enter Tryd.func30, Tryd.ntmps30
  go_wp2
  refine region_new 4 (fun w' => SW w w' a b) w.heap.size 30 z16 rfl (by kernel_rfl) (by kernel_rfl) (by kernel_rfl) (fun _ _ h hw => h.step hw) (fun _ h => h.be.size) HW.out (fun _ _ d _ _ h => by cases d <;> exact h) rfl (fun a w => by go_simp; rfl) ?_
  simp only [List.take_succ_cons, List.take_zero, List.drop_succ_cons, List.drop_zero]
  refine b_mid rfl 30 _ rfl w.heap.size 0 rfl (Is a) _ (fun w1 hw1 => hw1.b0.range) Tryd.underlying30 rfl (size_num (Is a).toArray hza) ?_
  refine b_mid rfl 30 _ rfl (w.heap.size + 1) 0 rfl (Is b) _ (fun w1 hw1 => hw1.b1.range) Tryd.underlying30 rfl (size_num (Is b).toArray hzb) ?_
  refine b_call (fun v => ∃ r, NB 65573 r (finv y) ∧ v = .agg (Is r).toArray) rfl rfl (fun w1 _ => (HI w1).out.mono ?_) (fun w => by go_simp) ?_
  · rintro e w2 ⟨r, hr, rfl, hw2⟩
    exact ⟨_, rfl, ⟨r, hr, rfl⟩, hw2⟩
  rintro _ ⟨i, hi, rfl⟩
  have HM := fun w1 => Lib.hid (mul_f ha (hi.mono (by omega)) w1)
  refine b_call (fun v => ∃ r, NB 65573 r (x * finv y) ∧ v = .agg (Is r).toArray) rfl rfl (fun w1 _ => (HM w1).out.mono ?_) (fun w => by go_simp) ?_
  · rintro e w2 ⟨r, hr, rfl, hw2⟩
    exact ⟨_, rfl, ⟨r, hr, rfl⟩, hw2⟩
  rintro _ ⟨q, hq, rfl⟩
  refine wpB_nil ?_
  intro p w1 hw1 hp hbp
  have hzq : (Is q).toArray.size = 16 := by rw [List.size_toArray, Is_len, hq.len]
  have hbs := hbp.row (Is q).toArray
  have HB := Lib.hid (below_setRow hw1.be hp (Is q).toArray)
  clear HI HM HW hw1
  go_wp2_with (first
    | (refine wpList_store_row rfl 30 _ _ rfl p rfl (Is q).toArray rfl 30 _ hbp (size_num _ hzq) (by rw [hzq]; rfl) (Is_one _) ?_)
    | (refine wpList_load_row rfl 30 _ rfl p rfl 30 (Is q).toArray (0, 0) _ hbs Tryd.underlying30 rfl (size_num _ hzq) ?_))
  refine (HPz _ _ hq).out.mono ?_
  rintro e w2 ⟨r, hr, rfl, hw2⟩
  go_wp2_with (fail)
  refine (HKz _ _ hr).out.mono ?_
  rintro e w3 ⟨rfl, hw3⟩
  have hB3 := HB.out.trans ((hw2.mono HB.out.size).trans (hw3.mono (Nat.le_trans HB.out.size hw2.size)))
  have hnew : Blk (w3.alloc (Obj.cells z32 22)) w3.heap.size 22 z32 := Blk.new w3 _ _
  have h3 := hB3.size
  have HN : Hid (ZW w (((w3.alloc (Obj.cells z32 22)).setRow w3.heap.size (By u).toArray)).drew w3.heap.size u) :=
    Lib.hid ⟨hnew.row _, (below_setRow (hB3.alloc hB3.size _) h3 _).drew⟩
  generalize hs : w3.heap.size = s at *
  clear HPz HKz HB hw2 hw3 hB3 hbs hbp hp h3 hi hq hza hzb hzq ha hb hr hz
  go_wp2_with (refine wpList_store_row rfl 22 _ _ rfl s rfl (By u).toArray rfl 22 _ hnew (size_hash _ hzE) (by rw [hzE]; rfl) (By_one _) ?_)
  clear hs
  refine region_B 11 (fun w' => ZW w w' s u) (by decide) (by kernel_rfl) (by kernel_rfl) (fun _ _ h hw => h.step hw) HN.out (fun _ _ d _ _ h => by cases d <;> exact h) ?_
  simp only [List.take_succ_cons, List.take_zero, List.drop_succ_cons, List.drop_zero]
  refine b_mid rfl 22 _ rfl s 0 rfl (By u) _ (fun w1 hw1 => hw1.b.range) Tryd.underlying22 rfl (size_hash (By u).toArray hzE) ?_
  refine b_call1 rfl (fun w1 _ => (HO1 w1).out) (fun w => by go_simp) ?_
  refine b_call1 rfl (fun w1 _ => (HK1 w1).out) (fun w => by go_simp) ?_
  refine b_eq (By u).toArray (By u1).toArray rfl rfl rfl rfl (by kernel_rfl) hE1 ?_
  refine wpB_step (fun K hK => ?_)
  go_simp
  refine ⟨_, fun _ _ => ⟨rfl, rfl⟩, hK _ ?_⟩
  clear hK K
  cases q1 with
  | true =>
    refine b_skip rfl ?_
    refine b_skip rfl ?_
    refine b_skip rfl ?_
    refine b_skip rfl ?_
    refine wpB_step (fun K hK => ?_)
    go_simp
    refine ⟨_, fun _ _ => ⟨rfl, rfl⟩, hK _ ?_⟩
    clear hK K
    refine wpB_step (fun K hK => ?_)
    go_simp
    refine ⟨_, fun _ _ => ⟨rfl, rfl⟩, hK _ ?_⟩
    clear hK K
    refine wpB_nil ?_
    intro w5 hw5
    go_wp2
    go_ret
    refine ⟨?_, hw5.be⟩
    simp
  | false =>
    refine b_mid rfl 22 _ rfl s 0 rfl (By u) _ (fun w1 hw1 => hw1.b.range) Tryd.underlying22 rfl (size_hash (By u).toArray hzE) ?_
    refine b_call1 rfl (fun w1 _ => (HO0 w1).out) (fun w => by go_simp) ?_
    refine b_call1 rfl (fun w1 _ => (HK0 w1).out) (fun w => by go_simp) ?_
    refine b_eq (By u).toArray (By u0).toArray rfl rfl rfl rfl (by kernel_rfl) hE0 ?_
    refine wpB_step (fun K hK => ?_)
    go_simp
    refine ⟨_, fun _ _ => ⟨rfl, rfl⟩, hK _ ?_⟩
    clear hK K
    refine wpB_step (fun K hK => ?_)
    go_simp
    refine ⟨_, fun _ _ => ⟨rfl, rfl⟩, hK _ ?_⟩
    clear hK K
    refine wpB_nil ?_
    intro w5 hw5
    go_wp2
    go_ret
    refine ⟨?_, hw5.be⟩
    simp
end Go.Proofs.YtchhkejgdcmicaaDoor
