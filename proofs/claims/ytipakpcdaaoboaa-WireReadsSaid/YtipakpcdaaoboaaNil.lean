/-
  THE CONTRACTS OF THE READER'S METHODS ON A NIL READER.
-/
import Derived.Test.YtipakpcdaaoboaaHash
namespace Go.Proofs.Ytipakpcdaaoboaa
open Go.RowKit

set_option maxHeartbeats 400000 in
theorem take_nil (k : Int) (w : World) : Calls Try.prog 30 #[.pointer none, .int .i64 k] w fun e w' => e = .returned (.slice none 0 0) ∧ w = w' := by
  go_enter Try.func30, Try.ntmps30
  go_wp2
  go_ret
  exact ⟨rfl, rfl⟩

set_option maxHeartbeats 400000 in
theorem rnum_nil (w : World) : Calls Try.prog 16 #[.pointer none] w fun e w' => e = .returned (.int .u64 0) ∧ w = w' := by
  go_enter Try.func16, Try.ntmps16
  go_wp2_with (fail)
  refine (take_nil _ w).mono ?_
  rintro e w1 ⟨rfl, rfl⟩
  go_wp2_with (fail)
  refine (worth_any none [] 0 0 0 w (BV.nil _ _ _ _) (Nat.le_refl _) (by omega)).mono ?_
  rintro e w1 ⟨rfl, rfl⟩
  go_wp2
  go_ret
  exact ⟨rfl, rfl⟩

set_option maxHeartbeats 400000 in
theorem most_nil (lim : Nat) (w : World) : Calls Try.prog 31 #[.pointer none, .int .u64 lim] w fun e w' => e = .returned (.int .i64 0) ∧ w = w' := by
  go_enter Try.func31, Try.ntmps31
  go_wp2_with (fail)
  refine (rnum_nil w).mono ?_
  rintro e w1 ⟨rfl, rfl⟩
  go_wp2
  go_ret
  exact ⟨rfl, rfl⟩

set_option maxHeartbeats 400000 in
theorem count_nil (w : World) : Calls Try.prog 20 #[.pointer none] w fun e w' => e = .returned (.int .i64 0) ∧ w = w' := by
  go_enter Try.func20, Try.ntmps20
  go_wp2_with (fail)
  refine (most_nil 65536 w).mono ?_
  rintro e w1 ⟨rfl, rfl⟩
  go_wp2
  go_ret
  exact ⟨rfl, rfl⟩

set_option maxHeartbeats 400000 in
theorem done_nil (w : World) : Calls Try.prog 21 #[.pointer none] w fun e w' => e = .returned (.int .i64 1) ∧ w = w' := by
  go_enter Try.func21, Try.ntmps21
  go_wp2
  go_ret
  exact ⟨rfl, rfl⟩

set_option maxHeartbeats 400000 in
theorem rbytes_nil (w : World) : Calls Try.prog 17 #[.pointer none] w (Made w []) := by
  have hp := parts_new (ls := [[]]) (vs := [.slice none 0 0]) (w := w) (hi := w.heap.size) (Nat.le_refl _) (by
    intro i y hy
    match i, hy with
    | 0, hy => injection hy with hy; subst hy; exact ⟨_, _, rfl, SL.nil _ _ _⟩)
  have hbq := (Below.refl w.heap.size w).alloc (Nat.le_refl _) (Obj.cells #[.slice none 0 0] 24)
  have hJ := join_made w _ _ 1 _ [[]] rfl hp (by simp) (by omega) (by unfold tot; simp) hbq
  have HJ := Lib.hid hJ
  clear hJ hp hbq
  go_enter Try.func17, Try.ntmps17
  go_wp2_with (fail)
  refine (most_nil 1048576 w).mono ?_
  rintro e w1 ⟨rfl, rfl⟩
  go_wp2_with (fail)
  refine (take_nil _ w).mono ?_
  rintro e w1 ⟨rfl, rfl⟩
  go_wp2_with (fail)
  refine HJ.out.mono ?_
  rintro e w3 ⟨g, rfl, ho, hb2⟩
  go_wp2
  go_ret
  exact ⟨g, rfl, ho, hb2⟩

theorem spn {w : World} {g t n : Nat} (h : w.heap[g]? = some (.cells (splice (By (List.replicate n 0)) 0 []).toArray t (0, 0))) : w.heap[g]? = some (.cells (By (List.replicate n 0)).toArray t (0, 0)) := by
  rw [h]
  simp [splice]

set_option maxRecDepth 100000 in
set_option maxHeartbeats 1000000 in
theorem hash_nil (w : World) : Calls Try.prog 18 #[.pointer none] w fun e w' => e = .returned (.agg zrow32) ∧ Below w.heap.size w w' := by
  have hb0 : Blk ((w.alloc (.cells zrow32 39)).alloc (.cells zrow32 39)) w.heap.size 39 zrow32 := heap_alloc2_old w _ _
  have hb1 : Blk ((w.alloc (.cells zrow32 39)).alloc (.cells zrow32 39)) (w.heap.size + 1) 39 zrow32 := heap_alloc2_new w _ _
  have hbw : Below w.heap.size w ((w.alloc (.cells zrow32 39)).alloc (.cells zrow32 39)) := ((Below.refl _ _).alloc (Nat.le_refl _) _).alloc (by simp) _
  go_enter Try.func18, Try.ntmps18
  go_wp2_with (fail)
  have hsz := hbw.size
  change Code.wp _ _ _ _ ((w.alloc (.cells zrow32 39)).alloc (.cells zrow32 39))
  generalize ((w.alloc (.cells zrow32 39)).alloc (.cells zrow32 39)) = w2 at *
  go_region_law (first
    | (refine step_copy_splice rfl (.tmp 4) (.tmp 6) 24 24 rfl 5 Try.underlying24 size5 (some ⟨w.heap.size + 1, 0, none⟩) none 32 32 0 0 (by simp [Act.eval]) (by simp [Act.eval]) (w.heap.size + 1) 0 (By (List.replicate 32 0)) 39 (hb1.drewN 1) [] (by simp) (fun hp => absurd hp (by simp)) (by simp) (by simp) (w.heap.size + 1) w2.drew (Below.refl _ _) (Nat.le_refl _) ?_; intro w4 hb14 hbel)
    | (go_simp; go_at_call 30; refine (take_nil _ _).mono ?_; rintro e w3 ⟨rfl, rfl⟩))
  all_goals
    have hr4 := spn hb14.out
    have hc0 : Blk w4 w.heap.size 39 zrow32 := (hb0.drewN 1).below hbel (by omega)
    go_wp2_with (first
      | (refine wpList_load_row rfl 39 _ rfl (w.heap.size + 1) rfl 39 zrow32 (0, 0) _ hr4 Try.underlying39 rfl (size39 _ zsize32) ?_)
      | (refine wpList_store_row rfl 39 _ _ rfl w.heap.size rfl zrow32 rfl 39 zrow32 hc0 (size39 _ zsize32) rfl (By_one _) ?_))
    refine bodyPost_ret (results_cell_row rfl _ _ w.heap.size 39 zrow32 (0, 0) _ rfl (hc0.row _) Try.underlying39 rfl (size39 _ zsize32)) rfl ⟨rfl, ?_⟩
    exact below_setRow (hbw.drew.trans (hbel.mono (by omega))) (Nat.le_refl _) _

set_option maxRecDepth 100000 in
set_option maxHeartbeats 1000000 in
theorem sig_nil (w : World) : Calls Try.prog 19 #[.pointer none] w fun e w' => e = .returned (.agg zrow64) ∧ Below w.heap.size w w' := by
  have hb0 : Blk ((w.alloc (.cells zrow64 41)).alloc (.cells zrow64 41)) w.heap.size 41 zrow64 := heap_alloc2_old w _ _
  have hb1 : Blk ((w.alloc (.cells zrow64 41)).alloc (.cells zrow64 41)) (w.heap.size + 1) 41 zrow64 := heap_alloc2_new w _ _
  have hbw : Below w.heap.size w ((w.alloc (.cells zrow64 41)).alloc (.cells zrow64 41)) := ((Below.refl _ _).alloc (Nat.le_refl _) _).alloc (by simp) _
  go_enter Try.func19, Try.ntmps19
  go_wp2_with (fail)
  have hsz := hbw.size
  change Code.wp _ _ _ _ ((w.alloc (.cells zrow64 41)).alloc (.cells zrow64 41))
  generalize ((w.alloc (.cells zrow64 41)).alloc (.cells zrow64 41)) = w2 at *
  go_region_law (first
    | (refine step_copy_splice rfl (.tmp 4) (.tmp 6) 24 24 rfl 5 Try.underlying24 size5 (some ⟨w.heap.size + 1, 0, none⟩) none 64 64 0 0 (by simp [Act.eval]) (by simp [Act.eval]) (w.heap.size + 1) 0 (By (List.replicate 64 0)) 41 (hb1.drewN 1) [] (by simp) (fun hp => absurd hp (by simp)) (by simp) (by simp) (w.heap.size + 1) w2.drew (Below.refl _ _) (Nat.le_refl _) ?_; intro w4 hb14 hbel)
    | (go_simp; go_at_call 30; refine (take_nil _ _).mono ?_; rintro e w3 ⟨rfl, rfl⟩))
  all_goals
    have hr4 := spn hb14.out
    have hc0 : Blk w4 w.heap.size 41 zrow64 := (hb0.drewN 1).below hbel (by omega)
    go_wp2_with (first
      | (refine wpList_load_row rfl 41 _ rfl (w.heap.size + 1) rfl 41 zrow64 (0, 0) _ hr4 Try.underlying41 rfl (size41 _ zsize64) ?_)
      | (refine wpList_store_row rfl 41 _ _ rfl w.heap.size rfl zrow64 rfl 41 zrow64 hc0 (size41 _ zsize64) rfl (By_one _) ?_))
    refine bodyPost_ret (results_cell_row rfl _ _ w.heap.size 41 zrow64 (0, 0) _ rfl (hc0.row _) Try.underlying41 rfl (size41 _ zsize64)) rfl ⟨rfl, ?_⟩
    exact below_setRow (hbw.drew.trans (hbel.mono (by omega))) (Nat.le_refl _) _

end Go.Proofs.Ytipakpcdaaoboaa
