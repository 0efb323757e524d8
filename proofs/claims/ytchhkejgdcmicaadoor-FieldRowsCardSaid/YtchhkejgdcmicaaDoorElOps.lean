/-
  THE FIELD'S NUMBERS: carried, Add, Sub, Small.
-/
import Derived.Test.YtchhkejgdcmicaaDoorWords
import Derived.Test.YtchhkejgdcmicaaDoorLimb
import Derived.StillTailTactics
namespace Go.Proofs.YtchhkejgdcmicaaDoor
open Go.RowKit Go.IntWalk Nums

theorem size_el (cs : Array Value) (h : cs.size = 5) : (Tryd.prog.info? 27).map (·.size) = some cs.size := by
  rw [h]
  kernel_rfl
theorem size_u5 (cs : Array Value) (h : cs.size = 5) : (Tryd.prog.info? 25).map (·.size) = some cs.size := by
  rw [h]
  kernel_rfl
def z5 : Array Value := (Us [0, 0, 0, 0, 0]).toArray
theorem len_us {l : List Nat} (h : l.length = 5) : (Us l).toArray.size = 5 := by rw [List.size_toArray, Us_len, h]

theorem crd_cell0 (a c : Nat) (ha : a < 18446744073709551616) (hc : c < 18446744073709551616) :
    IntKind.u64.wrap (bits .and .u64 (a : Int) 2251799813685247 + 19 * ((c : Int) / 2251799813685248)) = ((a % 2251799813685248 + 19 * (c / 2251799813685248) : Nat) : Int) := by
  rw [maskW a ha, IntKind.wrap_u64]
  omega
theorem crd_cell (a c : Nat) (ha : a < 18446744073709551616) (hc : c < 18446744073709551616) :
    IntKind.u64.wrap (bits .and .u64 (a : Int) 2251799813685247 + (c : Int) / 2251799813685248) = ((a % 2251799813685248 + c / 2251799813685248 : Nat) : Int) := by
  rw [maskW a ha, IntKind.wrap_u64]
  omega

set_option maxRecDepth 100000 in
set_option maxHeartbeats 1000000 in
theorem carried_f (a0 a1 a2 a3 a4 : Nat) (h0 : a0 < 18446744073709551616) (h1 : a1 < 18446744073709551616) (h2 : a2 < 18446744073709551616) (h3 : a3 < 18446744073709551616) (h4 : a4 < 18446744073709551616) (w : World) :
    Calls Tryd.prog 31 #[.agg (Us [a0, a1, a2, a3, a4]).toArray] w fun e w' => e = .returned (.agg (Us (crd a0 a1 a2 a3 a4)).toArray) ∧ Below w.heap.size w w' := by
  have e0 : (Us [a0, a1, a2, a3, a4]).toArray = #[.int .u64 (a0 : Int), .int .u64 (a1 : Int), .int .u64 (a2 : Int), .int .u64 (a3 : Int), .int .u64 (a4 : Int)] := rfl
  rw [e0]
  go_enter Tryd.func31, Tryd.ntmps31
  go_wp2
  rw [crd_cell0 a0 a4 h0 h4, crd_cell a1 a0 h1 h0, crd_cell a2 a1 h2 h1, crd_cell a3 a2 h3 h2, crd_cell a4 a3 h4 h3]
  refine bodyPost_ret (results_cell_row rfl _ _ (w.heap.size + 1) 27 _ (0, 0) _ rfl (blk3_1 w _ _ _ _) Tryd.underlying27 rfl (size_el _ rfl)) rfl ⟨rfl, ?_⟩
  exact (((Below.refl _ _).alloc (Nat.le_refl _) _).alloc (by simp) _).alloc (by simp; omega) _

/-! ### Rows whose first k words have turned -/
def mx (f : Nat → Nat) (l : List Nat) (k : Nat) : List Nat := (List.range 5).map fun j => if j < k then f j else l[j]!
theorem mx_len (f : Nat → Nat) (l : List Nat) (k : Nat) : (mx f l k).length = 5 := by simp [mx]
theorem mx_zero (f : Nat → Nat) {l : List Nat} (h : l.length = 5) : mx f l 0 = l := by
  obtain ⟨a0, a1, a2, a3, a4, rfl⟩ := five h
  rfl
theorem mx_get (f : Nat → Nat) (l : List Nat) {k : Nat} (h : k < 5) : (mx f l k)[k]! = l[k]! := by
  rw [getElem!_pos _ k (by rw [mx_len]; exact h)]
  simp [mx]
theorem mx_set (f : Nat → Nat) (l : List Nat) {k : Nat} : (mx f l k).set k (f k) = mx f l (k + 1) := by
  apply List.ext_getElem (by simp [mx])
  intro j h1 h2
  rw [List.getElem_set]
  simp only [mx, List.getElem_map, List.getElem_range]
  by_cases hjk : k = j
  · subst hjk
    simp
  · rw [if_neg hjk]
    by_cases hlt : j < k
    · rw [if_pos hlt, if_pos (by omega)]
    · rw [if_neg hlt, if_neg (by omega)]

theorem eb_get {l : List Nat} {x : F} (h : EB l x) {k : Nat} (hk : k < 5) : l[k]! < 2251799813947392 :=
  h.bnd _ (by rw [getElem!_pos l k (by rw [h.len]; exact hk)]; exact List.getElem_mem _)

set_option maxRecDepth 100000 in
set_option maxHeartbeats 1000000 in
theorem eladd_f {a b : List Nat} {x y : F} (ha : EB a x) (hb : EB b y) (w : World) :
    Calls Tryd.prog 14 #[.agg (Us a).toArray, .agg (Us b).toArray] w fun e w' => ∃ r, EB r (x + y) ∧ e = .returned (.agg (Us r).toArray) ∧ Below w.heap.size w w' := by
  go_enter Tryd.func14, Tryd.ntmps14
  go_wp2
  go_loopw [6] (fun i wr => ∃ k : Nat, k ≤ 5 ∧ i = .int .i64 k ∧ Blk wr w.heap.size 27 (Us (mx (fun j => a[j]! + b[j]!) a k)).toArray ∧ Blk wr (w.heap.size + 1) 27 (Us b).toArray ∧ Blk wr (w.heap.size + 1 + 1) 27 z5 ∧ Below w.heap.size w wr) (fun i _ => 5 - (intOf i).toNat)
  case atStart =>
    refine ⟨0, by omega, rfl, ?_, blk3_1 w _ _ _ _, blk3_2 w _ _ _ _, (((Below.refl _ _).alloc (Nat.le_refl _) _).alloc (by simp) _).alloc (by simp; omega) _⟩
    rw [mx_zero _ ha.len]
    exact blk3_0 w _ _ _ _
  case round =>
    obtain ⟨k, hk, rfl, h0, h1, h2, hbel⟩ := hrel
    by_cases hlt : k < 5
    · have hN := mx_set (fun j => a[j]! + b[j]!) a (k := k)
      have hg := mx_get (fun j => a[j]! + b[j]!) a hlt
      have c0 := (h0.drew.cell k).trans (Us_at (by rw [mx_len]; exact hlt))
      rw [hg] at c0
      have c1 := (h1.drew.cell k).trans (Us_at (by rw [hb.len]; exact hlt))
      have b0 := eb_get ha hlt
      have b1 := eb_get hb hlt
      have hf := h0.drew.free k
      generalize a[k]! = u at *
      generalize b[k]! = v at *
      have q1 : IntKind.u64.wrap ((u : Int) + (v : Int)) = ((u + v : Nat) : Int) := by rw [IntKind.wrap_u64]; omega
      have q2 : (0 : Int) ≤ (k : Int) := by omega
      have HK := Lib.hid (And.intro h0 (And.intro h1 (And.intro h2 (And.intro hbel hN))))
      clear h0 h1 h2 hbel hN hg
      go_wp2
      go_still_tail 11, (by kernel_rfl)
      go_wp2
      go_roundw
      case rel =>
        obtain ⟨h0, h1, h2, hbel, hN⟩ := HK.out
        have h4 := h0.set k (.int .u64 ((u + v : Nat) : Int))
        rw [Us_set, hN] at h4
        exact ⟨k + 1, by omega, by go_num, h4, h1.far (by simp) _, h2.far (by simp; omega) _, (hbel.setCell (by simp) _).drew⟩
      case measure => simp [intOf]; omega
    · obtain rfl : k = 5 := by omega
      obtain ⟨a0, a1, a2, a3, a4, rfl, p0, p1, p2, p3, p4, pv⟩ := ha.five
      obtain ⟨b0, b1, b2, b3, b4, rfl, r0, r1, r2, r3, r4, rv⟩ := hb.five
      have e5 : mx (fun j => [a0, a1, a2, a3, a4][j]! + [b0, b1, b2, b3, b4][j]!) [a0, a1, a2, a3, a4] 5 = [a0 + b0, a1 + b1, a2 + b2, a3 + b3, a4 + b4] := rfl
      rw [e5] at h0
      have HC := fun w1 => Lib.hid (carried_f (a0 + b0) (a1 + b1) (a2 + b2) (a3 + b3) (a4 + b4) (by omega) (by omega) (by omega) (by omega) (by omega) w1)
      have hE := crd_eb (a0 := a0 + b0) (a1 := a1 + b1) (a2 := a2 + b2) (a3 := a3 + b3) (a4 := a4 + b4) (by omega) (by omega) (by omega) (by omega) (by omega)
      rw [add_lv, fof_add, pv, rv] at hE
      generalize crd (a0 + b0) (a1 + b1) (a2 + b2) (a3 + b3) (a4 + b4) = r at *
      have hz : (Us [a0 + b0, a1 + b1, a2 + b2, a3 + b3, a4 + b4]).toArray.size = 5 := rfl
      generalize (Us [a0 + b0, a1 + b1, a2 + b2, a3 + b3, a4 + b4]).toArray = cs at *
      have HK := Lib.hid (And.intro h2 hbel)
      clear h1 h2 hbel ha hb p0 p1 p2 p3 p4 pv r0 r1 r2 r3 r4 rv e5
      have hzr := len_us hE.len
      go_wp2_with (refine wpList_load_row rfl 27 _ rfl w.heap.size rfl 27 cs (0, 0) _ h0 Tryd.underlying27 rfl (size_el _ hz) ?_)
      refine (HC _).out.mono ?_
      rintro e w1 ⟨rfl, hw1⟩
      obtain ⟨h2, hbel⟩ := HK.out
      have hb2 := hbel.trans (hw1.mono hbel.size)
      have h4 := h2.below hw1 h2.lt
      go_wp2_with (refine wpList_store_row rfl 27 _ _ rfl (w.heap.size + 1 + 1) rfl (Us r).toArray rfl 27 _ h4 (size_el _ hzr) (by rw [hzr]; rfl) (Us_one _) ?_)
      refine bodyPost_ret (results_cell_row rfl _ _ (w.heap.size + 1 + 1) 27 (Us r).toArray (0, 0) _ rfl (h4.row _) Tryd.underlying27 rfl (size_el _ hzr)) rfl ⟨r, hE, rfl, ?_⟩
      exact below_setRow hb2 (by omega) _
end Go.Proofs.YtchhkejgdcmicaaDoor
