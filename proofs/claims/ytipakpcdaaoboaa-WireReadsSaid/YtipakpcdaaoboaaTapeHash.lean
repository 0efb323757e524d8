/-
  THE CONTRACTS OF THE DOCUMENT'S OWN READER: Hash AND Sig.
-/
import Derived.Test.YtipakpcdaaoboaaTape
namespace Go.Proofs.Ytipakpcdaaoboaa
open Go.RowKit

theorem Calls.at_world {P : Program} {f : FuncId} {args : Array Value} {w w' : World} {R : Ending → World → Prop} (e : w' = w) (h : Calls P f args w' R) : Calls P f args w R := e ▸ h

theorem Tap.hi_ {w : World} {hi τ f : Nat} {l : List UInt8} (h : Tap w hi τ l f) : hi ≤ τ := by
  obtain ⟨A, L, c, p, hk, h1, h2, h3, h4⟩ := h
  exact h3

theorem pad_at (n : Nat) (l : List UInt8) (k : Nat) (hk : k < n) : ∃ u, (By (pad n l)).toArray[k]? = some (Value.int IntKind.u8 u) := by
  have h : k < (pad n l).length := by simp [pad]; omega
  exact ⟨_, by simp [By, List.getElem?_eq_getElem h]; rfl⟩

theorem pad_set (n : Nat) (l : List UInt8) (k : Nat) (hk : k < l.length) (hn : l.length ≤ n) : (By (pad n (l.take k))).toArray.setIfInBounds k (Value.int IntKind.u8 (l[k].toNat : Int)) = (By (pad n (l.take (k + 1)))).toArray := by
  have e : (pad n (l.take k)).set k l[k] = pad n (l.take (k + 1)) := by
    have h1 : (l.take k).length = k := by rw [List.length_take]; omega
    have h2 : (l.take (k + 1)).length = k + 1 := by rw [List.length_take]; omega
    unfold pad
    rw [h1, h2, List.take_succ_eq_append_getElem hk, List.set_append_right _ _ (by omega), h1, Nat.sub_self, List.append_assoc]
    have h3 : n - k = (n - (k + 1)) + 1 := by omega
    rw [h3, List.replicate_succ]
    rfl
  rw [← e]
  simp [By, List.map_set]

set_option maxRecDepth 100000 in
set_option maxHeartbeats 1000000 in
theorem thash_any (hi τ : Nat) (l : List UInt8) (f : Nat) (w : World) (h : Tap w hi τ l f) :
    Calls Try.prog 24 #[.pointer (some ⟨τ, 0, none⟩)] w (TValPost w hi τ (.agg (By (pad 32 (tk l f 32).1)).toArray) (tk l f 32).2.1 (tk l f 32).2.2) := by
  have hlt := h.lt
  have hhi : hi ≤ τ := h.hi_
  have hT := (tk_len l f 32).2.2
  have hpl := pad_len 32 (tk l f 32).1 hT
  have hb0 : Blk ((w.alloc (.cells zrow32 39)).alloc (.cells zrow32 39)) w.heap.size 39 zrow32 := heap_alloc2_old w _ _
  have hb1 : Blk ((w.alloc (.cells zrow32 39)).alloc (.cells zrow32 39)) (w.heap.size + 1) 39 zrow32 := heap_alloc2_new w _ _
  have hbw : Below w.heap.size w ((w.alloc (.cells zrow32 39)).alloc (.cells zrow32 39)) := ((Below.refl _ _).alloc (Nat.le_refl _) _).alloc (by simp) _
  have ht2 := h.below hbw hlt
  have HT := Lib.hid (ttake_any hi τ l f 32 _ ht2 (by omega))
  go_enter Try.func24, Try.ntmps24
  go_wp2_with (fail)
  have hsz := hbw.size
  clear h ht2
  refine Calls.at_world (w' := (w.alloc (.cells zrow32 39)).alloc (.cells zrow32 39)) rfl ?_
  generalize ((w.alloc (.cells zrow32 39)).alloc (.cells zrow32 39)) = w2 at *
  refine HT.out.mono ?_
  rintro e w3 ⟨A, c, rfl, hs, hr, hg⟩
  generalize tk l f 32 = t at *
  have hb03 := hb0.grown hg (fun e => by injection e with e; omega)
  have hb13 := hb1.grown hg (fun e => by injection e with e; omega)
  have hbw3 : w.grownBy w3 (some τ) := ⟨hg.os.trans hbw.os, hg.tape.trans hbw.tape, hg.output.trans hbw.output, Nat.le_trans hbw.size hg.size, fun i hi hn => (hg.block i (Nat.lt_of_lt_of_le hi hbw.size) hn).trans (hbw.block i hi)⟩
  have l1 := hs.1
  have l2 := hs.2.1
  clear HT hb0 hb1 hg hbw
  go_wp2_with (fail)
  go_loopw [4, 5, 9] (fun _ _ i wr => ∃ k : Nat, k ≤ t.1.length ∧ i = .int .i64 k ∧ Below w.heap.size w3 wr ∧ Blk wr w.heap.size 39 zrow32 ∧ Blk wr (w.heap.size + 1) 39 (By (pad 32 (t.1.take k))).toArray) (fun _ _ i _ => t.1.length - (intOf i).toNat)
  case atStart => exact ⟨0, Nat.zero_le _, rfl, Below.refl _ _, hb03, hb13⟩
  case round =>
    obtain ⟨k, hk, rfl, hbl, hc0, hc1⟩ := hrel
    by_cases hlt2 : k < t.1.length
    · obtain ⟨ad, rfl, _, had, hcell⟩ := hs.2.2.2 (by omega)
      have hx := (hbl.cell (p := ad.add k) (by rw [block_add]; omega)).trans (hcell k t.1[k] (List.getElem?_eq_getElem hlt2))
      obtain ⟨u, hu⟩ := pad_at 32 (t.1.take k) k (by omega)
      have hcc := (hc1.cell k).trans hu
      have hff := hc1.free k
      have hks : k < 32 := by omega
      clear hcell hu
      go_wp2
      go_roundw
      case rel =>
        refine ⟨k + 1, by omega, by go_num, hbl.setCell (by simp) _, hc0.far (by simp) _, ?_⟩
        rw [← pad_set 32 t.1 k hlt2 hT]
        exact hc1.set k _
      case measure => simp [intOf]; omega
    · obtain rfl : k = t.1.length := by omega
      rw [List.take_length] at hc1
      go_wp2_with (first
        | (refine wpList_load_row rfl 39 _ rfl (w.heap.size + 1) rfl 39 (By (pad 32 t.1)).toArray (0, 0) _ hc1 Try.underlying39 rfl (size39 _ (psize hpl)) ?_)
        | (refine wpList_store_row rfl 39 _ _ rfl w.heap.size rfl (By (pad 32 t.1)).toArray rfl 39 zrow32 hc0 (size39 _ (psize hpl)) (zsize32.trans (psize hpl).symm) (By_one _) ?_))
      refine bodyPost_ret (results_cell_row rfl _ _ w.heap.size 39 (By (pad 32 t.1)).toArray (0, 0) _ rfl (hc0.row _) Try.underlying39 rfl (size39 _ (psize hpl))) rfl ⟨rfl, ?_, ?_⟩
      · exact (hr.below hbl hlt).below (below_setRow (B := w.heap.size) (Below.refl _ _) (Nat.le_refl _) _) hlt
      · exact only_after (only_after hbw3 hbl) (below_setRow (Below.refl _ _) (Nat.le_refl _) _)

set_option maxRecDepth 100000 in
set_option maxHeartbeats 1000000 in
theorem tsig_any (hi τ : Nat) (l : List UInt8) (f : Nat) (w : World) (h : Tap w hi τ l f) :
    Calls Try.prog 25 #[.pointer (some ⟨τ, 0, none⟩)] w (TValPost w hi τ (.agg (By (pad 64 (tk l f 64).1)).toArray) (tk l f 64).2.1 (tk l f 64).2.2) := by
  have hlt := h.lt
  have hhi : hi ≤ τ := h.hi_
  have hT := (tk_len l f 64).2.2
  have hpl := pad_len 64 (tk l f 64).1 hT
  have hb0 : Blk ((w.alloc (.cells zrow64 41)).alloc (.cells zrow64 41)) w.heap.size 41 zrow64 := heap_alloc2_old w _ _
  have hb1 : Blk ((w.alloc (.cells zrow64 41)).alloc (.cells zrow64 41)) (w.heap.size + 1) 41 zrow64 := heap_alloc2_new w _ _
  have hbw : Below w.heap.size w ((w.alloc (.cells zrow64 41)).alloc (.cells zrow64 41)) := ((Below.refl _ _).alloc (Nat.le_refl _) _).alloc (by simp) _
  have ht2 := h.below hbw hlt
  have HT := Lib.hid (ttake_any hi τ l f 64 _ ht2 (by omega))
  go_enter Try.func25, Try.ntmps25
  go_wp2_with (fail)
  have hsz := hbw.size
  clear h ht2
  refine Calls.at_world (w' := (w.alloc (.cells zrow64 41)).alloc (.cells zrow64 41)) rfl ?_
  generalize ((w.alloc (.cells zrow64 41)).alloc (.cells zrow64 41)) = w2 at *
  refine HT.out.mono ?_
  rintro e w3 ⟨A, c, rfl, hs, hr, hg⟩
  generalize tk l f 64 = t at *
  have hb03 := hb0.grown hg (fun e => by injection e with e; omega)
  have hb13 := hb1.grown hg (fun e => by injection e with e; omega)
  have hbw3 : w.grownBy w3 (some τ) := ⟨hg.os.trans hbw.os, hg.tape.trans hbw.tape, hg.output.trans hbw.output, Nat.le_trans hbw.size hg.size, fun i hi hn => (hg.block i (Nat.lt_of_lt_of_le hi hbw.size) hn).trans (hbw.block i hi)⟩
  have l1 := hs.1
  have l2 := hs.2.1
  clear HT hb0 hb1 hg hbw
  go_wp2_with (fail)
  go_loopw [4, 5, 9] (fun _ _ i wr => ∃ k : Nat, k ≤ t.1.length ∧ i = .int .i64 k ∧ Below w.heap.size w3 wr ∧ Blk wr w.heap.size 41 zrow64 ∧ Blk wr (w.heap.size + 1) 41 (By (pad 64 (t.1.take k))).toArray) (fun _ _ i _ => t.1.length - (intOf i).toNat)
  case atStart => exact ⟨0, Nat.zero_le _, rfl, Below.refl _ _, hb03, hb13⟩
  case round =>
    obtain ⟨k, hk, rfl, hbl, hc0, hc1⟩ := hrel
    by_cases hlt2 : k < t.1.length
    · obtain ⟨ad, rfl, _, had, hcell⟩ := hs.2.2.2 (by omega)
      have hx := (hbl.cell (p := ad.add k) (by rw [block_add]; omega)).trans (hcell k t.1[k] (List.getElem?_eq_getElem hlt2))
      obtain ⟨u, hu⟩ := pad_at 64 (t.1.take k) k (by omega)
      have hcc := (hc1.cell k).trans hu
      have hff := hc1.free k
      have hks : k < 64 := by omega
      clear hcell hu
      go_wp2
      go_roundw
      case rel =>
        refine ⟨k + 1, by omega, by go_num, hbl.setCell (by simp) _, hc0.far (by simp) _, ?_⟩
        rw [← pad_set 64 t.1 k hlt2 hT]
        exact hc1.set k _
      case measure => simp [intOf]; omega
    · obtain rfl : k = t.1.length := by omega
      rw [List.take_length] at hc1
      go_wp2_with (first
        | (refine wpList_load_row rfl 41 _ rfl (w.heap.size + 1) rfl 41 (By (pad 64 t.1)).toArray (0, 0) _ hc1 Try.underlying41 rfl (size41 _ (psize hpl)) ?_)
        | (refine wpList_store_row rfl 41 _ _ rfl w.heap.size rfl (By (pad 64 t.1)).toArray rfl 41 zrow64 hc0 (size41 _ (psize hpl)) (zsize64.trans (psize hpl).symm) (By_one _) ?_))
      refine bodyPost_ret (results_cell_row rfl _ _ w.heap.size 41 (By (pad 64 t.1)).toArray (0, 0) _ rfl (hc0.row _) Try.underlying41 rfl (size41 _ (psize hpl))) rfl ⟨rfl, ?_, ?_⟩
      · exact (hr.below hbl hlt).below (below_setRow (B := w.heap.size) (Below.refl _ _) (Nat.le_refl _) _) hlt
      · exact only_after (only_after hbw3 hbl) (below_setRow (Below.refl _ _) (Nat.le_refl _) _)

end Go.Proofs.Ytipakpcdaaoboaa
