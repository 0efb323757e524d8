/-
  THE FIELD'S NUMBERS: whole: the number below p.
-/
import Derived.Test.YtchhkejgdcmicaaDoorElOps
namespace Go.Proofs.YtchhkejgdcmicaaDoor
open Go.RowKit Go.IntWalk Nums

theorem whs_eq (l : List Nat) (u k : Nat) : whs l u k = mx (fun j => (up2 l u j + l[j]!) % 2251799813685248) l k := rfl
theorem up1_le {l : List Nat} {x : F} (h : EB l x) : ∀ k, k ≤ 5 → up1 l 19 k ≤ 19
  | 0, _ => Nat.le_refl _
  | k + 1, hk => by
    have h1 := up1_le h k (by omega)
    have h2 := eb_get h (k := k) (by omega)
    show (l[k]! + up1 l 19 k) / 2251799813685248 ≤ 19
    omega
theorem up2_le {l : List Nat} {x : F} (h : EB l x) {u : Nat} (hu : u ≤ 361) : ∀ k, k ≤ 5 → up2 l u k ≤ 361
  | 0, _ => hu
  | k + 1, hk => by
    have h1 := up2_le h hu k (by omega)
    have h2 := eb_get h (k := k) (by omega)
    show (up2 l u k + l[k]!) / 2251799813685248 ≤ 361
    omega

set_option maxRecDepth 100000 in
set_option maxHeartbeats 1000000 in
theorem whole_f {a : List Nat} {x : F} (ha : EB a x) (w : World) :
    Calls Tryd.prog 32 #[.agg (Us a).toArray] w fun e w' => e = .returned (.agg (Us (whole a)).toArray) ∧ Below w.heap.size w w' := by
  have hW : whole a = whs a (up1 a 19 5 * 19) 5 := rfl
  rw [hW]
  clear hW
  generalize hq1 : up1 a 19 5 = q
  generalize hu0 : q * 19 = u0
  go_enter Tryd.func32, Tryd.ntmps32
  go_wp2
  go_loopw [6, 3] (fun i u wr => ∃ k : Nat, k ≤ 5 ∧ i = .int .i64 k ∧ u = .int .u64 (up1 a 19 k : Nat) ∧ Blk wr w.heap.size 27 (Us a).toArray ∧ Blk wr (w.heap.size + 1) 27 z5 ∧ Below w.heap.size w wr) (fun i _ _ => 5 - (intOf i).toNat)
  case atStart =>
    exact ⟨0, by omega, rfl, rfl, heap_alloc2_old w _ _, heap_alloc2_new w _ _, ((Below.refl _ _).alloc (Nat.le_refl _) _).alloc (by simp) _⟩
  case round =>
    obtain ⟨k, hk, rfl, rfl, h0, h1, hbel⟩ := hrel
    by_cases hlt : k < 5
    · have hN : up1 a 19 (k + 1) = (a[k]! + up1 a 19 k) / 2251799813685248 := rfl
      have c0 := (h0.cell k).trans (Us_at (by rw [ha.len]; exact hlt))
      have b0 := eb_get ha hlt
      have b1 := up1_le ha k (by omega)
      generalize a[k]! = u at *
      generalize up1 a 19 k = v at *
      have q1 : IntKind.u64.wrap ((u : Int) + (v : Int)) = ((u + v : Nat) : Int) := by rw [IntKind.wrap_u64]; omega
      have q2 : (0 : Int) ≤ (k : Int) := by omega
      have HK := Lib.hid (And.intro h0 (And.intro h1 (And.intro hbel hN)))
      clear h0 h1 hbel hN
      go_wp2
      go_roundw
      case rel =>
        obtain ⟨h0, h1, hbel, hN⟩ := HK.out
        exact ⟨k + 1, by omega, by go_num, by rw [hN]; congr 1, h0, h1, hbel⟩
      case measure => simp [intOf]; omega
    · obtain rfl : k = 5 := by omega
      have b1 := up1_le ha 5 (by omega)
      rw [hq1] at b1 ⊢
      have hq : u0 ≤ 361 := by omega
      have q1 : IntKind.u64.wrap ((q : Int) * 19) = (u0 : Int) := by rw [IntKind.wrap_u64]; omega
      clear hq1 hu0
      have hW0 : whs a u0 0 = a := by rw [whs_eq, mx_zero _ ha.len]
      have HK := Lib.hid (And.intro h0 (And.intro h1 hbel))
      clear h0 h1 hbel
      go_wp2
      go_loopw [19, 3] (fun i u wq => ∃ k : Nat, k ≤ 5 ∧ i = .int .i64 k ∧ u = .int .u64 (up2 a u0 k : Nat) ∧ Blk wq w.heap.size 27 (Us (whs a u0 k)).toArray ∧ Blk wq (w.heap.size + 1) 27 z5 ∧ Below w.heap.size w wq) (fun i _ _ => 5 - (intOf i).toNat)
      case atStart =>
        obtain ⟨h0, h1, hbel⟩ := HK.out
        exact ⟨0, by omega, rfl, rfl, by rw [hW0]; exact h0, h1, hbel⟩
      case round =>
        obtain ⟨k, hk, rfl, rfl, h0, h1, hbel⟩ := hrel
        clear HK
        by_cases hlt : k < 5
        · have hN : up2 a u0 (k + 1) = (up2 a u0 k + a[k]!) / 2251799813685248 := rfl
          have hS : (whs a u0 k).set k ((up2 a u0 k + a[k]!) % 2251799813685248) = whs a u0 (k + 1) := mx_set (fun j => (up2 a u0 j + a[j]!) % 2251799813685248) a
          have hg : (whs a u0 k)[k]! = a[k]! := mx_get _ a hlt
          have c0 := (h0.cell k).trans (Us_at (by rw [whs_eq, mx_len]; exact hlt))
          rw [hg] at c0
          have hf := h0.free k
          have b0 := eb_get ha hlt
          have b1 := up2_le ha hq k (by omega)
          generalize a[k]! = u at *
          generalize up2 a u0 k = v at *
          have q2 : IntKind.u64.wrap ((v : Int) + (u : Int)) = ((v + u : Nat) : Int) := by rw [IntKind.wrap_u64]; omega
          have q3 := maskW (v + u) (by omega)
          have q4 : (0 : Int) ≤ (k : Int) := by omega
          have HK := Lib.hid (And.intro h0 (And.intro h1 (And.intro hbel (And.intro hN hS))))
          clear h0 h1 hbel hN hS hg
          generalize hs : v + u = s at *
          go_wp2
          go_roundw
          case rel =>
            obtain ⟨h0, h1, hbel, hN, hS⟩ := HK.out
            have h4 := h0.set k (.int .u64 ((s % 2251799813685248 : Nat) : Int))
            rw [Us_set, hS] at h4
            exact ⟨k + 1, by omega, by go_num, by rw [hN]; congr 1, h4, h1.far (by simp) _, hbel.setCell (by simp) _⟩
          case measure => simp [intOf]; omega
        · obtain rfl : k = 5 := by omega
          have hz : (Us (whs a u0 5)).toArray.size = 5 := len_us (by rw [whs_eq, mx_len])
          go_wp2_with (first
            | (refine wpList_load_row rfl 27 _ rfl w.heap.size rfl 27 (Us (whs a u0 5)).toArray (0, 0) _ h0 Tryd.underlying27 rfl (size_el _ hz) ?_)
            | (refine wpList_store_row rfl 27 _ _ rfl (w.heap.size + 1) rfl (Us (whs a u0 5)).toArray rfl 27 _ h1 (size_el _ hz) (by rw [hz]; rfl) (Us_one _) ?_))
          refine bodyPost_ret (results_cell_row rfl _ _ (w.heap.size + 1) 27 (Us (whs a u0 5)).toArray (0, 0) _ rfl (h1.row _) Tryd.underlying27 rfl (size_el _ hz)) rfl ⟨rfl, ?_⟩
          exact below_setRow hbel (by omega) _
end Go.Proofs.YtchhkejgdcmicaaDoor
