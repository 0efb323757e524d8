/-
  THE FIELD'S NUMBERS: Sub, which reads the table of 2p; Small.
-/
import Derived.Test.YtchhkejgdcmicaaDoorElOps
namespace Go.Proofs.YtchhkejgdcmicaaDoor
open Go.RowKit Go.IntWalk Nums

/-- 2p in limbs, as the program's table has it. -/
def twl : List Nat := [4503599627370458, 4503599627370494, 4503599627370494, 4503599627370494, 4503599627370494]
theorem twl_get {k : Nat} (h : k < 5) : 4503599627370458 ≤ twl[k]! ∧ twl[k]! ≤ 4503599627370494 := by
  have h5 : k = 0 ∨ k = 1 ∨ k = 2 ∨ k = 3 ∨ k = 4 := by omega
  rcases h5 with rfl | rfl | rfl | rfl | rfl <;> decide

/-- The table lies where it lay. -/
structure Tw (w : World) : Prop where
  cell : ∀ i, i < 5 → w.cell? ⟨0, i, none⟩ = some (.int .u64 (twl[i]! : Nat))
  lt : 0 < w.heap.size
theorem Tw.below {w w' : World}  (h : Tw w) (hb : Below w.heap.size w w') : Tw w' :=
  ⟨fun i hi => (hb.cell (p := ⟨0, i, none⟩) h.lt).trans (h.cell i hi), Nat.lt_of_lt_of_le h.lt hb.size⟩
theorem Tw.drew {w : World} (h : Tw w) : Tw w.drew := ⟨h.cell, h.lt⟩
theorem Tw.at {w : World} (h : Tw w) {k : Nat} (hk : k < 5) : w.cell? ⟨0, k, none⟩ = some (.int .u64 (twl[k]! : Nat)) := h.cell k hk

set_option maxRecDepth 100000 in
set_option maxHeartbeats 1000000 in
theorem elsub_f {a b : List Nat} {x y : F} (ha : EB a x) (hb : EB b y) (w : World) (hT : Tw w) :
    Calls Tryd.prog 18 #[.agg (Us a).toArray, .agg (Us b).toArray] w fun e w' => ∃ r, EB r (x - y) ∧ e = .returned (.agg (Us r).toArray) ∧ Below w.heap.size w w' := by
  go_enter Tryd.func18, Tryd.ntmps18
  go_wp2
  go_loopw [6] (fun i wr => ∃ k : Nat, k ≤ 5 ∧ i = .int .i64 k ∧ Blk wr w.heap.size 27 (Us (mx (fun j => a[j]! + (twl[j]! - b[j]!)) a k)).toArray ∧ Blk wr (w.heap.size + 1) 27 (Us b).toArray ∧ Blk wr (w.heap.size + 1 + 1) 27 z5 ∧ Below w.heap.size w wr) (fun i _ => 5 - (intOf i).toNat)
  case atStart =>
    refine ⟨0, by omega, rfl, ?_, blk3_1 w _ _ _ _, blk3_2 w _ _ _ _, (((Below.refl _ _).alloc (Nat.le_refl _) _).alloc (by simp) _).alloc (by simp; omega) _⟩
    rw [mx_zero _ ha.len]
    exact blk3_0 w _ _ _ _
  case round =>
    obtain ⟨k, hk, rfl, h0, h1, h2, hbel⟩ := hrel
    by_cases hlt : k < 5
    · have hN := mx_set (fun j => a[j]! + (twl[j]! - b[j]!)) a (k := k)
      have hg := mx_get (fun j => a[j]! + (twl[j]! - b[j]!)) a hlt
      have c0 := (h0.drew.cell k).trans (Us_at (by rw [mx_len]; exact hlt))
      rw [hg] at c0
      have c1 := (h1.drew.cell k).trans (Us_at (by rw [hb.len]; exact hlt))
      have b0 := eb_get ha hlt
      have b1 := eb_get hb hlt
      have hf := h0.drew.free k
      have c2 := (hT.below hbel).drew.at hlt
      have b2 := twl_get hlt
      generalize a[k]! = u at *
      generalize b[k]! = v at *
      generalize twl[k]! = t at *
      have q0 : IntKind.u64.wrap ((t : Int) - (v : Int)) = ((t - v : Nat) : Int) := by rw [IntKind.wrap_u64]; omega
      have q1 : IntKind.u64.wrap ((u : Int) + ((t - v : Nat) : Int)) = ((u + (t - v) : Nat) : Int) := by rw [IntKind.wrap_u64]; omega
      have hle : v ≤ t := by omega
      have q2 : (0 : Int) ≤ (k : Int) := by omega
      have HK := Lib.hid (And.intro h0 (And.intro h1 (And.intro h2 (And.intro hbel hN))))
      clear h0 h1 h2 hbel hN hg
      go_wp2
      go_still_tail 15, (by kernel_rfl)
      go_wp2
      go_roundw
      case rel =>
        obtain ⟨h0, h1, h2, hbel, hN⟩ := HK.out
        have h4 := h0.set k (.int .u64 ((u + (t - v) : Nat) : Int))
        rw [Us_set, hN] at h4
        exact ⟨k + 1, by omega, by go_num, h4, h1.far (by simp) _, h2.far (by simp; omega) _, (hbel.setCell (by simp) _).drew⟩
      case measure => simp [intOf]; omega
    · obtain rfl : k = 5 := by omega
      obtain ⟨a0, a1, a2, a3, a4, rfl, p0, p1, p2, p3, p4, pv⟩ := ha.five
      obtain ⟨b0, b1, b2, b3, b4, rfl, r0, r1, r2, r3, r4, rv⟩ := hb.five
      have e5 : mx (fun j => [a0, a1, a2, a3, a4][j]! + (twl[j]! - [b0, b1, b2, b3, b4][j]!)) [a0, a1, a2, a3, a4] 5 = [a0 + (4503599627370458 - b0), a1 + (4503599627370494 - b1), a2 + (4503599627370494 - b2), a3 + (4503599627370494 - b3), a4 + (4503599627370494 - b4)] := rfl
      rw [e5] at h0
      have HC := fun w1 => Lib.hid (carried_f (a0 + (4503599627370458 - b0)) (a1 + (4503599627370494 - b1)) (a2 + (4503599627370494 - b2)) (a3 + (4503599627370494 - b3)) (a4 + (4503599627370494 - b4)) (by omega) (by omega) (by omega) (by omega) (by omega) w1)
      have hE := crd_eb (a0 := a0 + (4503599627370458 - b0)) (a1 := a1 + (4503599627370494 - b1)) (a2 := a2 + (4503599627370494 - b2)) (a3 := a3 + (4503599627370494 - b3)) (a4 := a4 + (4503599627370494 - b4)) (by omega) (by omega) (by omega) (by omega) (by omega)
      rw [sub_lv r0 r1 r2 r3 r4, pv, rv] at hE
      generalize crd (a0 + (4503599627370458 - b0)) (a1 + (4503599627370494 - b1)) (a2 + (4503599627370494 - b2)) (a3 + (4503599627370494 - b3)) (a4 + (4503599627370494 - b4)) = r at *
      have hz : (Us [a0 + (4503599627370458 - b0), a1 + (4503599627370494 - b1), a2 + (4503599627370494 - b2), a3 + (4503599627370494 - b3), a4 + (4503599627370494 - b4)]).toArray.size = 5 := rfl
      generalize (Us [a0 + (4503599627370458 - b0), a1 + (4503599627370494 - b1), a2 + (4503599627370494 - b2), a3 + (4503599627370494 - b3), a4 + (4503599627370494 - b4)]).toArray = cs at *
      have HK := Lib.hid (And.intro h2 hbel)
      clear h1 h2 hbel ha hb p0 p1 p2 p3 p4 pv r0 r1 r2 r3 r4 rv e5
      have hzr := len_us hE.len
      go_wp2_with (refine wpList_load_row rfl 27 _ rfl w.heap.size rfl 27 cs (0, 0) _ h0 Tryd.underlying27 rfl (size_el _ hz) ?_)
      refine (HC _).out.mono ?_
      rintro e w1 ⟨rfl, hw1⟩
      obtain ⟨h2, hbel⟩ := HK.out
      have hb2 := hbel.trans (hw1.mono hbel.size)
      have h4 := h2.below hw1 h2.lt
      go_wp2_with (refine wpList_store_row rfl 27 _ _ rfl (w.heap.size + 1 + 1) rfl (Us r).toArray rfl 27 _ h4 (size_el _ hzr) (by rw [hzr]; rfl) (Us_one _) ?_)
      refine bodyPost_ret (results_cell_row rfl _ _ (w.heap.size + 1 + 1) 27 (Us r).toArray (0, 0) _ rfl (h4.row _) Tryd.underlying27 rfl (size_el _ hzr)) rfl ⟨r, hE, rfl, ?_⟩
      exact below_setRow hb2 (by omega) _

set_option maxRecDepth 100000 in
theorem small_f (v : Nat) (hv : v < 18446744073709551616) (w : World) :
    Calls Tryd.prog 25 #[.int .u64 v] w fun e w' => ∃ r, EB r (fof v) ∧ e = .returned (.agg (Us r).toArray) ∧ Below w.heap.size w w' := by
  go_enter Tryd.func25, Tryd.ntmps25
  go_wp2
  rw [maskW v hv]
  have hE : EB [v % 2251799813685248, v / 2251799813685248, 0, 0, 0] (fof v) := EB.mk5 (by omega) (by omega) (by omega) (by omega) (by omega) (by
    congr 1
    rw [lv5]
    omega)
  refine bodyPost_ret (results_cell_row rfl _ _ w.heap.size 27 _ (0, 0) _ rfl (heap_alloc_new w _) Tryd.underlying27 rfl (size_el _ rfl)) rfl ⟨_, hE, rfl, ?_⟩
  exact (Below.refl _ _).alloc (Nat.le_refl _) _
end Go.Proofs.YtchhkejgdcmicaaDoor
