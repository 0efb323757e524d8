/-
  THE DOCUMENT'S OWN SCALARS: Good, Add.
-/
import Derived.Test.YthejahhhmkkhoaaCalls
import Derived.Test.YthejahhhmkkhoaaMod
import Derived.Test.YthejahhhmkkhoaaSumP
namespace Go.Proofs.Ythejahhhmkkhoaa
open Go.RowKit Go.IntWalk Nums

theorem own_mod : Own 11 := fun _ _ => by go_simp

/-- Bytes that may be written. -/
def WL (w : World) (g : Nat) (l : List UInt8) : Prop := BL w g l ∧ ∀ j, j < l.length → w.frozen? ⟨g, j, none⟩ = false
section
variable {w w' : World} {g B : Nat} {l : List UInt8}
theorem WL.later (h : WL w g l) (hb : Below w.heap.size w w') : WL w' g l :=
  ⟨h.1.below hb h.1.1, fun j hj => (hb.frozen (p := ⟨g, j, none⟩) h.1.1).trans (h.2 j hj)⟩
theorem WL.set (h : WL w g l) (k : Nat) (x : UInt8) : WL (w.setCell ⟨g, k, none⟩ (.int .u8 (x.toNat : Int))) g (l.set k x) := by
  refine ⟨⟨by simpa [World.setCell] using h.1.1, fun j hj => ?_⟩, fun j hj => ?_⟩
  · rw [List.length_set] at hj
    by_cases e : j = k
    · subst e
      rw [World.cell?_setCell_same _ _ _ (h.1.2 j hj)]
      simp [hj]
    · rw [World.cell?_setCell_other _ _ _ _ (by intro he; injection he with _ he _; omega), h.1.2 j hj]
      have e1 : (l.set k x)[j]! = l[j]! := by
        rw [getElem!_pos (l.set k x) j (by rw [List.length_set]; exact hj), List.getElem_set_ne (by omega), getElem!_pos l j hj]
      rw [e1]
  · rw [List.length_set] at hj
    rw [World.frozen?_setCell]
    exact h.2 j hj
theorem WL.row {t : Nat} (h : Blk w g t (By l).toArray) : WL w g l :=
  ⟨⟨h.lt, fun j hj => (h.cell j).trans (By_get hj)⟩, fun j _ => h.free j⟩
end
theorem made_bytes (n : Nat) : madeCells #[.int .u8 0] n = (By (List.replicate n 0)).toArray := by
  apply Array.ext
  · simp [size_madeCells, By]
  · intro i h1 h2
    simp [madeCells, By, Nat.mod_one]
theorem info_u8 : (Try.prog.info? 5).map (fun i => (i.zero, i.size, i.bytes)) = some (some (.int .u8 0), 1, 1) := by kernel_rfl
set_option maxRecDepth 100000 in
set_option maxHeartbeats 2000000 in
theorem good4_f (b : List UInt8) (hb : b.length = 32) (w : World) :
    Calls Try.prog 17 #[.agg (By b).toArray] w fun e w' => e = .returned (.bool (decide (le b < LL))) ∧ Below w.heap.size w w' := by
  have hE := fun w1 => equal32 (Nums.bytes 32 (le b % LL)) b (bytes_len _ _) hb w1
  rw [good_iff hb] at hE
  have hz := len_by hb
  have HM := fun (w1 : World) (h : Blk w1 w.heap.size 22 (By b).toArray) => Lib.hid (mod_any b w.heap.size 32 w1 (by omega) (WL.row h).1)
  rw [hb] at HM
  generalize decide (le b < LL) = q at *
  generalize Nums.bytes 32 (le b % LL) = u at *
  go_enter Try.func17, Try.ntmps17
  refine wp_seq_k fun K hK => ?_
  refine wp_region_lit ?_
  refine wpl_box (By b).toArray rfl rfl rfl ?_
  refine wpl_assign rfl rfl ?_
  refine wpl_nil ?_
  go_simp
  refine hK _ _ ?_
  clear hK K
  refine wp_at (fun W => Blk W w.heap.size 22 (By b).toArray ∧ Below w.heap.size w W) ⟨Blk.new w _ _, (Below.refl _ _).alloc (Nat.le_refl _) _⟩ ?_
  rintro W ⟨hbb, hbe⟩
  refine wp_seq_k fun K hK => ?_
  refine reg_q (by kernel_rfl) (by kernel_rfl) (fun _ _ d _ _ h => by cases d <;> exact h) ?_
  refine b_val (v := .slice (some ⟨w.heap.size, 0, none⟩) 32 32) rfl (fun w1 h1 => by go_simp) ?_
  refine b_call1 (f := 11) (args := #[.slice (some ⟨w.heap.size, 0, none⟩) 32 32]) rfl (fun w1 h1 => (HM w1 (h1.blk hbb)).out) (fun w1 => by rw [run_call_fn own_mod rfl, map_eval (args := #[.slice (some ⟨w.heap.size, 0, none⟩) 32 32]) rfl]) ?_
  refine b_mid rfl 22 _ rfl w.heap.size 0 rfl (By b) _ (fun _ h => (h.blk hbb).range) Try.underlying22 rfl (size_hash (By b).toArray hz) ?_
  refine b_eq (By u).toArray (By b).toArray rfl rfl rfl rfl (by kernel_rfl) hE ?_
  refine b_assign rfl rfl ?_
  refine wpB_nil ?_
  intro W1 hw1
  simp only [Exit.then, Act.put, List.setIfInBounds_toArray, List.set_cons_zero, List.set_cons_succ]
  refine hK _ _ ?_
  have HB := Lib.hid (below_up hbe hw1)
  clear hK K hw1 hbe
  refine wp_ret ?_
  go_ret
  refine ⟨?_, HB.out⟩
  simp [Act.eval]
end Go.Proofs.Ythejahhhmkkhoaa
