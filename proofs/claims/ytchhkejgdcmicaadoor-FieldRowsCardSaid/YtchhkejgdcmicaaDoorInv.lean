/-
  THE DOCUMENT'S OWN NUMBERS: Inv.
-/
import Derived.Test.YtchhkejgdcmicaaDoorPower
namespace Go.Proofs.YtchhkejgdcmicaaDoor
open Go.RowKit Go.IntWalk Nums

theorem inv_e : 2 ^ 255 - 21 = p - 2 := by decide

set_option maxRecDepth 100000 in
set_option maxHeartbeats 1000000 in
theorem inv_f {a : List Int} {x : F} (ha : NB 1048576 a x) (w : World) :
    Calls Tryd.prog 28 #[.agg (Is a).toArray] w fun e w' => ∃ r, NB 65573 r (finv x) ∧ e = .returned (.agg (Is r).toArray) ∧ Below w.heap.size w w' := by
  have hza : (Is a).toArray.size = 16 := by rw [List.size_toArray, Is_len, ha.len]
  have h0 : ∀ u, Blk ((w.alloc (Obj.cells (Is a).toArray 30)).alloc u) w.heap.size 30 (Is a).toArray := fun u => (Blk.new w _ _).alloc u
  have h1 : Blk ((w.alloc (Obj.cells (Is a).toArray 30)).alloc (Obj.cells z16 30)) (w.heap.size + 1) 30 z16 := heap_alloc2_new w _ _
  have hbel : Below w.heap.size w ((w.alloc (Obj.cells (Is a).toArray 30)).alloc (Obj.cells z16 30)) := ((Below.refl _ _).alloc (Nat.le_refl _) _).alloc (by simp) _
  have HK := Lib.hid (And.intro h1 hbel)
  have HC := fun w1 => Lib.hid (power_f ha 255 21 (by omega) (by decide) (by omega) w1)
  rw [inv_e] at HC
  clear h1 hbel ha
  go_enter Tryd.func28, Tryd.ntmps28
  go_wp2_with (refine wpList_load_row rfl 30 _ rfl w.heap.size rfl 30 (Is a).toArray (0, 0) _ (h0 _) Tryd.underlying30 rfl (size_num _ hza) ?_)
  refine (HC _).out.mono ?_
  rintro e w1 ⟨r, hr, rfl, hw1⟩
  obtain ⟨h1, hbel⟩ := HK.out
  have hz : (Is r).toArray.size = 16 := by rw [List.size_toArray, Is_len, hr.len]
  have h2 := h1.below hw1 h1.lt
  have HB := Lib.hid (hbel.trans (hw1.mono hbel.size))
  clear HC HK h0 h1 hbel hw1
  go_wp2_with (refine wpList_store_row rfl 30 _ _ rfl (w.heap.size + 1) rfl (Is r).toArray rfl 30 _ h2 (size_num _ hz) (by rw [hz]; rfl) (Is_one _) ?_)
  refine bodyPost_ret (results_cell_row rfl _ _ (w.heap.size + 1) 30 (Is r).toArray (0, 0) _ rfl (h2.row _) Tryd.underlying30 rfl (size_num _ hz)) rfl ⟨r, hr, rfl, ?_⟩
  exact below_setRow HB.out (by omega) _

end Go.Proofs.YtchhkejgdcmicaaDoor
