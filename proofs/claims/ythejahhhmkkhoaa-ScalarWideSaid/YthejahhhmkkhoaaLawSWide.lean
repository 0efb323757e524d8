/-
  PROVED: ScalarWide answers true for every input: a wide number is its halves', the upper one times 2^256. No condition: the statement '..Said' itself.
-/
import Derived.Test.YthejahhhmkkhoaaLaw
import Derived.Test.YthejahhhmkkhoaaScFirst
namespace Go.Proofs.Ythejahhhmkkhoaa
open Go.RowKit Go.IntWalk Nums
open Go.ChangeShapes Go.WideShapes Go.ChangeAt

/-- Both halves. -/
def both (a b : List UInt8) : List UInt8 := cop (cop (List.replicate 64 0) 0 a) 32 b
theorem both_len {a b : List UInt8} (ha : a.length = 32) (hb : b.length = 32) : (both a b).length = 64 := by
  unfold both
  rw [cop_len (by rw [(cop_half ha).1, hb]; omega), (cop_half ha).1]
theorem le_both {a b : List UInt8} (ha : a.length = 32) (hb : b.length = 32) : le (both a b) = le a + 115792089237316195423570985008687907853269984665640564039457584007913129639936 * le b := by
  have e : both a b = a ++ b := by
    unfold both
    simp [cop, ha, hb]
  rw [e, le_append, ha]
def upper : List UInt8 := (List.replicate 64 0).set 32 1
theorem upper_len : upper.length = 64 := by decide
theorem le_upper : le upper = 115792089237316195423570985008687907853269984665640564039457584007913129639936 := by decide
theorem wide_eq {a b : List UInt8} (ha : a.length = 32) (hb : b.length = 32) : le (both a b) % LL = (le a % LL + le b % LL * (le upper % LL) % LL) % LL := by
  rw [le_both ha hb, le_upper, ← Nat.mul_mod, ← Nat.add_mod, Nat.mul_comm]

set_option maxRecDepth 100000 in
set_option maxHeartbeats 4000000 in
theorem scalarWide_walk {a : List UInt8} {b : List UInt8} (la : a.length = 32) (lb : b.length = 32) (w : World) :
    Calls Try.prog 6 #[.agg (By a).toArray, .agg (By b).toArray] w fun e w' => e = .returned (.bool true) ∧ Below w.heap.size w w' := by
  go_enter Try.func6, Try.ntmps6
  refine wp_seq_k fun K hK => ?_
  refine wp_region_lit ?_
  refine wpl_box (By a).toArray rfl rfl rfl ?_
  refine wpl_box (By b).toArray rfl rfl rfl ?_
  refine wpl_assign rfl rfl ?_
  refine wpl_nil ?_
  go_simp
  refine hK _ _ ?_
  clear hK K
  refine wp_at (fun W => Blk W (w.heap.size) 22 (By a).toArray ∧ Blk W (w.heap.size + 1) 22 (By b).toArray ∧ Below w.heap.size w W)
    ⟨heap_alloc2_old w _ _, heap_alloc2_new w _ _, ((Below.refl _ _).alloc (Nat.le_refl _) _).alloc (by simp) _⟩ ?_
  rintro W ⟨ha, hb, hbe⟩
  -- walk wide
  refine wp_seq_k fun K hK => ?_
  refine wp_seq_k fun K2 hK2 => ?_
  refine reg_qF ?_
  refine b_one rfl own_first4 (fun w1 => first4_f w1) rfl rfl ?_
  simp only [Act.put, List.setIfInBounds_toArray, List.set_cons_zero, List.set_cons_succ]
  refine b_not _ rfl rfl rfl ?_
  simp only [Act.put, List.setIfInBounds_toArray, List.set_cons_zero, List.set_cons_succ]
  refine wpB_nil ?_
  intro W1 hw1
  simp only [Exit.then]
  refine hK2 _ _ ?_
  clear hK2 K2
  have ha := hw1.blk ha
  have hb := hw1.blk hb
  have hbe := below_up hbe hw1
  clear hw1
  refine wp_cond (t := false) rfl ?_
  rw [if_neg (by decide)]
  refine wp_skip ?_
  simp only [Exit.then]
  refine hK _ _ ?_
  clear hK K
  refine wp_seq_k fun K hK => ?_
  refine wp_region_lit ?_
  refine wpl_alloc (zs := z64) rfl rfl (by kernel_rfl) ?_
  refine wpl_alloc (zs := z64) rfl rfl (by kernel_rfl) ?_
  refine wpl_nil ?_
  have k5 : Blk ((W1.alloc (.cells z64 35)).alloc (.cells z64 35)) W1.heap.size 35 z64 := heap_alloc2_old W1 _ _
  have k6 : Blk ((W1.alloc (.cells z64 35)).alloc (.cells z64 35)) (W1.heap.size + 1) 35 z64 := heap_alloc2_new W1 _ _
  have n5 : w.heap.size + 1 + 1 ≤ W1.heap.size := hb.lt
  have ha := (ha.alloc (.cells z64 35)).alloc (.cells z64 35)
  have hb := (hb.alloc (.cells z64 35)).alloc (.cells z64 35)
  have hbe := (hbe.alloc hbe.size (.cells z64 35)).alloc (hbe.alloc hbe.size (.cells z64 35)).size (.cells z64 35)
  go_simp
  refine hK _ _ ?_
  clear hK K
  generalize ((W1.alloc (.cells z64 35)).alloc (.cells z64 35)) = W2 at *
  generalize W1.heap.size = g5 at *
  refine wp_seq_k fun K hK => ?_
  refine reg_copy 2 (.tmp 9) (.tmp 10) rfl rfl rfl (tail_ok (by kernel_rfl)) (fun _ _ d _ _ h => by cases d <;> exact h) (by kernel_rfl) ?_
  simp only [List.take_succ_cons, List.take_zero]
  refine b_val (v := .slice (some ⟨g5, 0, none⟩) 64 64) rfl (fun w1 h1 => by go_simp) ?_
  simp only [Act.put, List.setIfInBounds_toArray, List.set_cons_zero, List.set_cons_succ]
  refine b_slice32 w.heap.size rfl rfl rfl ?_
  simp only [Act.put, List.setIfInBounds_toArray, List.set_cons_zero, List.set_cons_succ]
  refine wpB_nil ⟨g5, 0, 64, 64, w.heap.size, 32, _, _, (List.replicate 64 0), a, rfl, by rw [la]; rfl, k5, ha, by omega, by rw [la, List.length_replicate]; omega, fun W3 hw1 => ?_⟩
  simp only [Exit.then, Act.put, List.setIfInBounds_toArray, List.set_cons_zero, List.set_cons_succ]
  refine hK _ _ ?_
  clear hK K
  have ha := (hw1.blk ha).rowFar (g' := g5) (by omega) (By (cop (List.replicate 64 0) 0 a)).toArray
  have hb := (hw1.blk hb).rowFar (g' := g5) (by omega) (By (cop (List.replicate 64 0) 0 a)).toArray
  have k6 := (hw1.blk k6).rowFar (g' := g5) (by omega) (By (cop (List.replicate 64 0) 0 a)).toArray
  have k5 := (hw1.blk k5).row (By (cop (List.replicate 64 0) 0 a)).toArray
  have hbe := below_setRow (below_up hbe hw1) (g := g5) (by omega) (By (cop (List.replicate 64 0) 0 a)).toArray
  clear hw1
  generalize W3.setRow g5 (By (cop (List.replicate 64 0) 0 a)).toArray = W3 at *
  refine wp_seq_k fun K hK => ?_
  refine reg_copy 2 (.tmp 12) (.tmp 13) rfl rfl rfl (tail_ok (by kernel_rfl)) (fun _ _ d _ _ h => by cases d <;> exact h) (by kernel_rfl) ?_
  simp only [List.take_succ_cons, List.take_zero]
  refine b_val (v := .slice (some ⟨g5, 32, none⟩) 32 32) rfl (fun w1 h1 => by go_simp) ?_
  simp only [Act.put, List.setIfInBounds_toArray, List.set_cons_zero, List.set_cons_succ]
  refine b_slice32 (w.heap.size + 1) rfl rfl rfl ?_
  simp only [Act.put, List.setIfInBounds_toArray, List.set_cons_zero, List.set_cons_succ]
  refine wpB_nil ⟨g5, 32, 32, 32, (w.heap.size + 1), 32, _, _, (cop (List.replicate 64 0) 0 a), b, rfl, by rw [lb]; rfl, k5, hb, by omega, by rw [lb, (cop_half la).1]; omega, fun W3 hw1 => ?_⟩
  simp only [Exit.then, Act.put, List.setIfInBounds_toArray, List.set_cons_zero, List.set_cons_succ]
  refine hK _ _ ?_
  clear hK K
  have ha := (hw1.blk ha).rowFar (g' := g5) (by omega) (By (cop (cop (List.replicate 64 0) 0 a) 32 b)).toArray
  have hb := (hw1.blk hb).rowFar (g' := g5) (by omega) (By (cop (cop (List.replicate 64 0) 0 a) 32 b)).toArray
  have k6 := (hw1.blk k6).rowFar (g' := g5) (by omega) (By (cop (cop (List.replicate 64 0) 0 a) 32 b)).toArray
  have k5 := (hw1.blk k5).row (By (cop (cop (List.replicate 64 0) 0 a) 32 b)).toArray
  have hbe := below_setRow (below_up hbe hw1) (g := g5) (by omega) (By (cop (cop (List.replicate 64 0) 0 a) 32 b)).toArray
  clear hw1
  generalize W3.setRow g5 (By (cop (cop (List.replicate 64 0) 0 a) 32 b)).toArray = W3 at *
  have l5 := both_len la lb
  have heq := wide_eq la lb
  change Blk W3 g5 35 (By (both a b)).toArray at k5
  generalize both a b = d at *
  have c6 := (k6.cell 32).trans (By_get (l := List.replicate 64 0) (by rw [List.length_replicate]; omega))
  have f6 := k6.free 32
  have k6s := k6.set 32 (.int .u8 ((1 : UInt8).toNat : Int))
  unfold z64 at k6s
  rw [By_set] at k6s
  change Blk _ (g5 + 1) 35 (By upper).toArray at k6s
  have k5s := k5.far (p := ⟨g5 + 1, 32, none⟩) (by show g5 ≠ g5 + 1; omega) (.int .u8 ((1 : UInt8).toNat : Int))
  have has := ha.far (p := ⟨g5 + 1, 32, none⟩) (by show w.heap.size ≠ g5 + 1; omega) (.int .u8 ((1 : UInt8).toNat : Int))
  have hbs := hb.far (p := ⟨g5 + 1, 32, none⟩) (by show w.heap.size + 1 ≠ g5 + 1; omega) (.int .u8 ((1 : UInt8).toNat : Int))
  have hbes := hbe.setCell (p := ⟨g5 + 1, 32, none⟩) (by show w.heap.size ≤ g5 + 1; omega) (.int .u8 ((1 : UInt8).toNat : Int))
  have HS := Lib.hid (And.intro has (And.intro hbs (And.intro k5s (And.intro k6s hbes))))
  clear has hbs k5s k6s hbes ha hb hbe k5 k6
  go_wp2
  obtain ⟨ha, hb, k5, k6, hbe⟩ := HS.out
  clear HS
  refine reg_q (by kernel_rfl) (tail_ok (by kernel_rfl)) (fun _ _ d _ _ h => by cases d <;> exact h) ?_
  refine b_by64 g5 l5 _ rfl rfl rfl (fun _ h => h.blk k5) ?_
  simp only [Act.put, List.setIfInBounds_toArray, List.set_cons_zero, List.set_cons_succ]
  refine b_one rfl own_wide (fun w1 => wide_f l5 w1) rfl rfl ?_
  simp only [Act.put, List.setIfInBounds_toArray, List.set_cons_zero, List.set_cons_succ]
  refine b_one rfl own_schash (fun w1 => schash_f (le d % LL) w1) rfl rfl ?_
  simp only [Act.put, List.setIfInBounds_toArray, List.set_cons_zero, List.set_cons_succ]
  refine b_by w.heap.size la _ rfl rfl rfl (fun _ h => h.blk ha) ?_
  simp only [Act.put, List.setIfInBounds_toArray, List.set_cons_zero, List.set_cons_succ]
  refine b_one rfl own_in4 (fun w1 => in4_f la w1) rfl rfl ?_
  simp only [Act.put, List.setIfInBounds_toArray, List.set_cons_zero, List.set_cons_succ]
  refine b_by (w.heap.size + 1) lb _ rfl rfl rfl (fun _ h => h.blk hb) ?_
  simp only [Act.put, List.setIfInBounds_toArray, List.set_cons_zero, List.set_cons_succ]
  refine b_one rfl own_in4 (fun w1 => in4_f lb w1) rfl rfl ?_
  simp only [Act.put, List.setIfInBounds_toArray, List.set_cons_zero, List.set_cons_succ]
  refine b_by64 (g5 + 1) upper_len _ rfl rfl rfl (fun _ h => h.blk k6) ?_
  simp only [Act.put, List.setIfInBounds_toArray, List.set_cons_zero, List.set_cons_succ]
  refine b_one rfl own_wide (fun w1 => wide_f upper_len w1) rfl rfl ?_
  simp only [Act.put, List.setIfInBounds_toArray, List.set_cons_zero, List.set_cons_succ]
  refine b_one rfl own_scmul (fun w1 => scmul_f (modL _) (modL _) w1) rfl rfl ?_
  simp only [Act.put, List.setIfInBounds_toArray, List.set_cons_zero, List.set_cons_succ]
  refine b_one rfl own_scadd (fun w1 => scadd_f (modL _) (modL _) w1) rfl rfl ?_
  simp only [Act.put, List.setIfInBounds_toArray, List.set_cons_zero, List.set_cons_succ]
  refine b_one rfl own_schash (fun w1 => schash_f (((le a % LL) + ((le b % LL) * (le upper % LL) % LL)) % LL) w1) rfl rfl ?_
  simp only [Act.put, List.setIfInBounds_toArray, List.set_cons_zero, List.set_cons_succ]
  refine b_eqn (le d % LL) (((le a % LL) + ((le b % LL) * (le upper % LL) % LL)) % LL) (heq) rfl rfl rfl rfl rfl ?_
  simp only [Act.put, List.setIfInBounds_toArray, List.set_cons_zero, List.set_cons_succ]
  refine b_assign rfl rfl ?_
  refine wpB_nil ?_
  intro W4 hw1
  have hbe := below_up hbe hw1
  clear hw1
  go_wp2
  go_ret
  exact ⟨rfl, hbe⟩
  -- end wide

theorem scalarWide_types : ∀ t ∈ Try.f6.params.toList, Try.prog.readableRec t = true ∧ t < Try.prog.types.size := by
  have h : Try.f6.params.toList.all (fun t => Try.prog.readableRec t && decide (t < Try.prog.types.size)) = true := by kernel_rfl
  intro t ht
  have := List.all_eq_true.1 h t ht
  simpa using this

set_option maxRecDepth 100000 in
theorem scalarWide_lifted (os : Os) (started : os.Started) (H : Type) (enc : TypeId × Value → H) :
    ReturnsInHanded {} Try.checked os 6 .any (Rows.scalarWideSpec.pre6 enc Try.prog Try.f6 Rows.scalarWideRow.domain false) (Rows.scalarWideSpec.post enc Try.prog Try.f6 false true false false) := by
  refine returnsInHanded_of_change (C := Try.checked) own started (by kernel_rfl) Try.func6
    (ChangeSpec.witness6 (enc := enc) (C := Try.checked) false ⟨#[], #[.agg (By (List.replicate 32 0)).toArray, .agg (By (List.replicate 32 0)).toArray], []⟩ 8 (by kernel_rfl) (by kernel_rfl) (by kernel_rfl) (by kernel_rfl)) ?_
  intro W base args ds gs before hval0 hW _ _
  have hval : ∀ (j : Nat) t v, Try.f6.params[j]? = some t → args[j]? = some v → Value.okWide Try.prog W .any base t v := hval0
  have hW' : DataW.Whole enc Try.prog Try.f6.params.toList Rows.scalarWideSpec.vars false W args.toList ds gs before := hW
  obtain ⟨p, q, hA0, hV, rfl, hfz, hnd⟩ := hW
  have hA : DataW.TrodAll enc Try.prog W 0 (fun _ => true) true Try.f6.params.toList args.toList ds p := hA0
  rw [Try.params6] at hA hval
  obtain ⟨v0, v1, d0, d1, p0, p1, rfl, rfl, rfl, h0, h1⟩ := trodAll_two hA
  obtain ⟨rfl, rfl⟩ := trodVars_none hV
  obtain ⟨a, la, rfl⟩ := open_hash (hval 0 22 v0 rfl rfl) h0
  obtain ⟨b, lb, rfl⟩ := open_hash (hval 1 22 v1 rfl rfl) h1
  clear hA0 hval0
  refine (scalarWide_walk la lb W).mono fun e W' ⟨he, hb⟩ => ?_
  exact ⟨_, he, law_post (by kernel_rfl) rfl scalarWide_types hW' rfl hb⟩

theorem scalarWide_holds : Rows.ScalarWideSaid :=
  OpenClaim.holds_of_wide 6 Try.f6 rfl rfl rfl rfl rfl rfl rfl ⟨rfl, rfl, rfl, rfl, rfl⟩ rfl rfl rfl rfl rfl (by kernel_rfl) Try.func6 (by kernel_rfl)
    (of_decide_eq_true (by kernel_rfl)) (by unfold Func.isWrapper; first | (rw [if_pos (by decide +kernel)]; kernel_rfl) | (rw [if_neg (by decide +kernel)]; exact ⟨rfl, rfl⟩))
    (fun os started H enc _ => scalarWide_lifted os started H enc)
#print axioms scalarWide_holds
end Go.Proofs.Ythejahhhmkkhoaa
