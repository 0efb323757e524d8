/-
  THE CONTRACTS OF THE READER'S Hash AND Sig.
-/
import Derived.Test.YtipakpcdaaoboaaEql
import Derived.Deep.RegionLaw
import Derived.Laws.CopyOwn
namespace Go.Proofs.Ytipakpcdaaoboaa
open Go.RowKit

theorem only_after {a b c : World} {r : Nat} (h : a.grownBy b (some r)) (k : Below a.heap.size b c) : a.grownBy c (some r) :=
  ⟨k.os.trans h.os, k.tape.trans h.tape, k.output.trans h.output, Nat.le_trans h.size k.size, fun i hi hn => (k.block i hi).trans (h.block i hi hn)⟩
theorem size5 : (Try.prog.info? 5).map (·.size) = some 1 := by kernel_rfl

theorem psize {n : Nat} {l : List UInt8} (h : (pad n l).length = n) : (By (pad n l)).toArray.size = n := by rw [List.size_toArray, By_len, h]

theorem hash_src {w : World} {lo hi c : Nat} {A : Option Addr} {l : List UInt8} (h : SL w lo hi A l c) : 0 < (By l).length → ∃ ad, A = some ad ∧ ∀ j v, (By l)[j]? = some v → w.cell? (ad.add j) = some v := fun hp => by
  rw [By_len] at hp
  obtain ⟨ad, hA, _⟩ := h.2.2.2 hp
  exact ⟨ad, hA, h.cells ad hA⟩
theorem hash_len {n : Nat} {l : List UInt8} (h : l.length ≤ n) : (By l).length = Nat.min l.length n := by
  rw [By_len]
  exact (Nat.min_eq_left h).symm

/-- What copying leaves. -/
theorem spl {w : World} {g t n : Nat} {l : List UInt8} (h : w.heap[g]? = some (.cells (splice (By (List.replicate n 0)) 0 (By l)).toArray t (0, 0))) : w.heap[g]? = some (.cells (By (pad n l)).toArray t (0, 0)) := by
  rw [h]
  have e : splice (By (List.replicate n 0)) 0 (By l) = By (pad n l) := by
    simp [splice, pad, By]
  rw [e]

def zrow32 : Array Value := (By (List.replicate 32 0)).toArray
theorem zsize32 : zrow32.size = 32 := by simp [zrow32, By]
theorem size39 (cs : Array Value) (h : cs.size = 32) : (Try.prog.info? 39).map (·.size) = some cs.size := by
  rw [h]
  kernel_rfl

set_option maxRecDepth 100000 in
set_option maxHeartbeats 1000000 in
theorem rhash_any (lo r : Nat) (l : List UInt8) (f : Nat) (w : World) (h : Rdr w lo r l f) :
    Calls Try.prog 18 #[.pointer (some ⟨r, 0, none⟩)] w (ValPost w lo r (.agg (By (pad 32 (tk l f 32).1)).toArray) (tk l f 32).2.1 (tk l f 32).2.2) := by
  have hlt := h.lt
  have hpl := pad_len 32 (tk l f 32).1 (tk_len l f 32).2.2
  have hb0 : Blk ((w.alloc (.cells zrow32 39)).alloc (.cells zrow32 39)).drew w.heap.size 39 zrow32 := heap_alloc2_old w _ _
  have hb1 : Blk ((w.alloc (.cells zrow32 39)).alloc (.cells zrow32 39)).drew (w.heap.size + 1) 39 zrow32 := heap_alloc2_new w _ _
  have hbw : Below w.heap.size w ((w.alloc (.cells zrow32 39)).alloc (.cells zrow32 39)).drew := (((Below.refl _ _).alloc (Nat.le_refl _) _).alloc (by simp) _).drew
  have hr2 := h.below hbw hlt
  have HT := Lib.hid (take_any lo r l f 32 _ hr2 (by omega))
  go_enter Try.func18, Try.ntmps18
  go_wp2_with (fail)
  have hsz := hbw.size
  clear h hr2
  change Code.wp _ _ _ _ ((w.alloc (.cells zrow32 39)).alloc (.cells zrow32 39))
  generalize ((w.alloc (.cells zrow32 39)).alloc (.cells zrow32 39)) = w2 at *
  go_region_law (first
    | (refine step_copy_splice rfl (.tmp 4) (.tmp 6) 24 24 rfl 5 Try.underlying24 size5 (some ⟨w.heap.size + 1, 0, none⟩) A 32 32 (tk l f 32).1.length c (by simp [Act.eval]) (by simp [Act.eval]) (w.heap.size + 1) 0 (By (List.replicate 32 0)) 39 hb13 (By (tk l f 32).1) HN.out (fun hp => ⟨rfl, HP.out hp⟩) (by rw [By_len, By_len, List.length_replicate]; have := (tk_len l f 32).2.2; omega) (By_one _) (w.heap.size + 1) w3 (Below.refl _ _) (Nat.le_refl _) ?_; intro w4 hb14 hbel)
    | (go_simp; go_at_call 30; refine HT.out.mono ?_; rintro e w3 ⟨A, c, rfl, hs, hr, hg⟩; have hb13 := hb1.grown hg (fun e => by injection e with e; omega); have HP := Lib.hid (hash_src hs); have HN := Lib.hid (hash_len (tk_len l f 32).2.2)))
  all_goals
    have hb03 := hb0.grown hg (fun e => by injection e with e; omega)
    have hbw3 : w.grownBy w3 (some r) := ⟨hg.os.trans hbw.os, hg.tape.trans hbw.tape, hg.output.trans hbw.output, Nat.le_trans hbw.size hg.size, fun i hi hn => (hg.block i (Nat.lt_of_lt_of_le hi hbw.size) hn).trans (hbw.block i hi)⟩
    clear HT hb0 hb1 hg hs HP HN
    go_wp2_with (first
      | (refine wpList_load_row rfl 39 _ rfl (w.heap.size + 1) rfl 39 (By (pad 32 (tk l f 32).1)).toArray (0, 0) _ (spl hb14.out) Try.underlying39 rfl (size39 _ (psize hpl)) ?_)
      | (refine wpList_store_row rfl 39 _ _ rfl w.heap.size rfl (By (pad 32 (tk l f 32).1)).toArray rfl 39 zrow32 (hb03.below hbel (by omega)) (size39 _ (psize hpl)) (zsize32.trans (psize hpl).symm) (By_one _) ?_))
    refine bodyPost_ret (results_cell_row rfl _ _ w.heap.size 39 (By (pad 32 (tk l f 32).1)).toArray (0, 0) _ rfl ((hb03.below hbel (by omega)).row _) Try.underlying39 rfl (size39 _ (psize hpl))) rfl ⟨rfl, ?_, ?_⟩
    · have h4 := hr.below hbel (by omega)
      exact h4.below (below_setRow (B := w.heap.size) (Below.refl _ _) (Nat.le_refl _) _) hlt
    · have h4 := only_after hbw3 (hbel.mono (by omega))
      exact only_after h4 (below_setRow (Below.refl _ _) (Nat.le_refl _) _)

def zrow64 : Array Value := (By (List.replicate 64 0)).toArray
theorem zsize64 : zrow64.size = 64 := by simp [zrow64, By]
theorem size41 (cs : Array Value) (h : cs.size = 64) : (Try.prog.info? 41).map (·.size) = some cs.size := by
  rw [h]
  kernel_rfl

set_option maxRecDepth 100000 in
set_option maxHeartbeats 1000000 in
theorem rsig_any (lo r : Nat) (l : List UInt8) (f : Nat) (w : World) (h : Rdr w lo r l f) :
    Calls Try.prog 19 #[.pointer (some ⟨r, 0, none⟩)] w (ValPost w lo r (.agg (By (pad 64 (tk l f 64).1)).toArray) (tk l f 64).2.1 (tk l f 64).2.2) := by
  have hlt := h.lt
  have hpl := pad_len 64 (tk l f 64).1 (tk_len l f 64).2.2
  have hb0 : Blk ((w.alloc (.cells zrow64 41)).alloc (.cells zrow64 41)).drew w.heap.size 41 zrow64 := heap_alloc2_old w _ _
  have hb1 : Blk ((w.alloc (.cells zrow64 41)).alloc (.cells zrow64 41)).drew (w.heap.size + 1) 41 zrow64 := heap_alloc2_new w _ _
  have hbw : Below w.heap.size w ((w.alloc (.cells zrow64 41)).alloc (.cells zrow64 41)).drew := (((Below.refl _ _).alloc (Nat.le_refl _) _).alloc (by simp) _).drew
  have hr2 := h.below hbw hlt
  have HT := Lib.hid (take_any lo r l f 64 _ hr2 (by omega))
  go_enter Try.func19, Try.ntmps19
  go_wp2_with (fail)
  have hsz := hbw.size
  clear h hr2
  change Code.wp _ _ _ _ ((w.alloc (.cells zrow64 41)).alloc (.cells zrow64 41))
  generalize ((w.alloc (.cells zrow64 41)).alloc (.cells zrow64 41)) = w2 at *
  go_region_law (first
    | (refine step_copy_splice rfl (.tmp 4) (.tmp 6) 24 24 rfl 5 Try.underlying24 size5 (some ⟨w.heap.size + 1, 0, none⟩) A 64 64 (tk l f 64).1.length c (by simp [Act.eval]) (by simp [Act.eval]) (w.heap.size + 1) 0 (By (List.replicate 64 0)) 41 hb13 (By (tk l f 64).1) HN.out (fun hp => ⟨rfl, HP.out hp⟩) (by rw [By_len, By_len, List.length_replicate]; have := (tk_len l f 64).2.2; omega) (By_one _) (w.heap.size + 1) w3 (Below.refl _ _) (Nat.le_refl _) ?_; intro w4 hb14 hbel)
    | (go_simp; go_at_call 30; refine HT.out.mono ?_; rintro e w3 ⟨A, c, rfl, hs, hr, hg⟩; have hb13 := hb1.grown hg (fun e => by injection e with e; omega); have HP := Lib.hid (hash_src hs); have HN := Lib.hid (hash_len (tk_len l f 64).2.2)))
  all_goals
    have hb03 := hb0.grown hg (fun e => by injection e with e; omega)
    have hbw3 : w.grownBy w3 (some r) := ⟨hg.os.trans hbw.os, hg.tape.trans hbw.tape, hg.output.trans hbw.output, Nat.le_trans hbw.size hg.size, fun i hi hn => (hg.block i (Nat.lt_of_lt_of_le hi hbw.size) hn).trans (hbw.block i hi)⟩
    clear HT hb0 hb1 hg hs HP HN
    go_wp2_with (first
      | (refine wpList_load_row rfl 41 _ rfl (w.heap.size + 1) rfl 41 (By (pad 64 (tk l f 64).1)).toArray (0, 0) _ (spl hb14.out) Try.underlying41 rfl (size41 _ (psize hpl)) ?_)
      | (refine wpList_store_row rfl 41 _ _ rfl w.heap.size rfl (By (pad 64 (tk l f 64).1)).toArray rfl 41 zrow64 (hb03.below hbel (by omega)) (size41 _ (psize hpl)) (zsize64.trans (psize hpl).symm) (By_one _) ?_))
    refine bodyPost_ret (results_cell_row rfl _ _ w.heap.size 41 (By (pad 64 (tk l f 64).1)).toArray (0, 0) _ rfl ((hb03.below hbel (by omega)).row _) Try.underlying41 rfl (size41 _ (psize hpl))) rfl ⟨rfl, ?_, ?_⟩
    · have h4 := hr.below hbel (by omega)
      exact h4.below (below_setRow (B := w.heap.size) (Below.refl _ _) (Nat.le_refl _) _) hlt
    · have h4 := only_after hbw3 (hbel.mono (by omega))
      exact only_after h4 (below_setRow (Below.refl _ _) (Nat.le_refl _) _)

end Go.Proofs.Ytipakpcdaaoboaa
