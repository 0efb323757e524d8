/-
  THE DOCUMENT'S OWN NUMBERS: Mul.
-/
import Derived.Test.YtchhkejgdcmicaaDoorAddSub
import Derived.Test.YtchhkejgdcmicaaDoorLent
namespace Go.Proofs.YtchhkejgdcmicaaDoor
open Go.RowKit Go.IntWalk Nums

theorem numT31 (cs : Array Value) (h : cs.size = 31) : (Tryd.prog.info? 57).map (·.size) = some cs.size := by
  rw [h]
  kernel_rfl
def z16 : Array Value := (Is (List.replicate 16 0)).toArray

/-- What the product's digits lie in. -/
structure MulW (w wr : World) (a b t : List Int) : Prop where
  b0 : Blk wr w.heap.size 30 (Is a).toArray
  b1 : Blk wr (w.heap.size + 1) 30 (Is b).toArray
  b2 : Blk wr (w.heap.size + 1 + 1) 30 z16
  b3 : Blk wr (w.heap.size + 1 + 1 + 1) 57 (Is t).toArray
  be : Below w.heap.size w wr

theorem MulW.set {w wr : World} {a b t t' : List Int} (h : MulW w wr a b t) {k : Nat} {x : Int} (e : t.set k x = t') :
    MulW w (wr.setCell ⟨w.heap.size + 1 + 1 + 1, k, none⟩ (.int .i64 x)).drew a b t' where
  b0 := h.b0.far (by simp <;> omega) _
  b1 := h.b1.far (by simp <;> omega) _
  b2 := h.b2.far (by simp <;> omega) _
  b3 := by
    have h4 := h.b3.set k (.int .i64 x)
    rw [Is_set, e] at h4
    exact h4
  be := (h.be.setCell (by simp; omega) _).drew

/-- The fold's way: k digits are there. -/
structure Fold (w wq : World) (go : Nat) (t : List Int) (k : Nat) : Prop where
  b2 : Blk wq (w.heap.size + 1 + 1) 30 z16
  b3 : Blk wq (w.heap.size + 1 + 1 + 1) 57 (Is t).toArray
  bo : Blk wq go 30 (Is (fil (folded t) 16 k)).toArray
  be : Below w.heap.size w wq
  hg : w.heap.size + 1 + 1 + 1 < go

set_option maxRecDepth 100000 in
set_option maxHeartbeats 2000000 in
theorem mul_any (a b : List Int) (w : World) (ha : a.length = 16) (hb : b.length = 16) (hba : Bnd 1048576 a) (hbb : Bnd 1048576 b) :
    Calls Tryd.prog 21 #[.agg (Is a).toArray, .agg (Is b).toArray] w fun e w' => ∃ t, V t = V a * V b ∧ Bnd 281474976710656 t ∧ t.length = 31 ∧ e = .returned (.agg (Is (carry (carry (folded t)))).toArray) ∧ Below w.heap.size w w' := by
  go_enter Tryd.func21, Tryd.ntmps21
  go_wp2
  go_loopw [6] (fun i wr => ∃ k : Nat, k ≤ 16 ∧ i = .int .i64 k ∧ ∃ t, Conv a b t k 0 ∧ MulW w wr a b t) (fun i _ => 16 - (intOf i).toNat)
  case atStart =>
    exact ⟨0, by omega, rfl, List.replicate 31 0, Conv.zero a b, ⟨blk4_0 w _ _ _ _ _, blk4_1 w _ _ _ _ _, blk4_2 w _ _ _ _ _, blk4_3 w _ _ _ _ _, below4 _ _ _ _ _⟩⟩
  case round =>
    obtain ⟨k, hk, rfl, t, hC, hM⟩ := hrel
    by_cases hlt : k < 16
    · have q7 : (k : Int) < 16 := by omega
      have HC := Lib.hid hC
      have HM := Lib.hid hM
      clear hC hM
      go_wp2
      go_loopw [7] (fun i wr => ∃ j : Nat, j ≤ 16 ∧ i = .int .i64 j ∧ ∃ t, Conv a b t k j ∧ MulW w wr a b t) (fun i _ => 16 - (intOf i).toNat)
      case atStart => exact ⟨0, by omega, rfl, t, HC.out, HM.out⟩
      case round =>
        obtain ⟨j, hj, rfl, t, hC, hM⟩ := hrel
        by_cases hlj : j < 16
        · have hN := hC.next hlt hlj ha hb hba hbb
          have c0 := (hM.b3.drew.cell (k + j)).trans (Is_at (by rw [hC.len]; omega))
          have c1 := (hM.b0.drew.cell k).trans (Is_at (by omega))
          have c2 := (hM.b1.drew.cell j).trans (Is_at (by omega))
          have b0 := bnd_get (hC.bnd.mono (C := 281474976710656) (by omega)) (k := k + j) (by rw [hC.len]; omega)
          have b1 := bnd_get hba (k := k) (by omega)
          have b2 := bnd_get hbb (k := j) (by omega)
          have hf := hM.b3.drew.free (k + j)
          have hst := fun x => hM.set (k := k + j) (x := x) rfl
          generalize t[k + j]! = z at *
          generalize a[k]! = x at *
          generalize b[j]! = y at *
          have hxy := mul_bound b1.1 b1.2 b2.1 b2.2
          have q0 : IntKind.i64.wrap ((k : Int) + (j : Int)) = ((k + j : Nat) : Int) := by rw [i64_left, wrap64_in _ (by omega)]; omega
          have q1 : IntKind.i64.wrap (x * y) = x * y := by rw [i64_left, wrap64_in _ (by omega)]
          have q2 : IntKind.i64.wrap (z + x * y) = z + x * y := by rw [i64_left, wrap64_in _ (by omega)]
          have q3 : (0 : Int) ≤ ((k + j : Nat) : Int) := by omega
          have q4 : ((k + j : Nat) : Int) < 31 := by omega
          have q5 : (0 : Int) ≤ (k : Int) := by omega
          have q6 : (0 : Int) ≤ (j : Int) := by omega
          have HN := Lib.hid (And.intro hN (hst (z + x * y)))
          clear hN hst hC hM
          generalize k + j = m at *
          go_wp2
          go_still_tail 13, (by kernel_rfl)
          go_wp2
          go_roundw
          case rel =>
            obtain ⟨hN, hM⟩ := HN.out
            exact ⟨j + 1, by omega, by go_num, _, hN, hM⟩
          case measure => simp [intOf]; omega
        · obtain rfl : j = 16 := by omega
          have hR := hC.roll hlt ha hb
          have HR := Lib.hid (And.intro hR hM)
          clear hC hM
          go_wp2
          go_roundw
          case rel =>
            obtain ⟨hR, hM⟩ := HR.out
            exact ⟨k + 1, by omega, by go_num, _, hR, hM⟩
          case measure => simp [intOf]; omega
    · obtain rfl : k = 16 := by omega
      obtain ⟨tv, tb⟩ := hC.all ha
      have tl := hC.len
      clear hC
      have hb3 : ∀ u, Blk (wr.alloc u) (w.heap.size + 1 + 1 + 1) 57 (Is t).toArray := fun u => hM.b3.alloc u
      have hb2 : ∀ u, Blk (wr.alloc u) (w.heap.size + 1 + 1) 30 z16 := fun u => hM.b2.alloc u
      have hbe : ∀ u, Below w.heap.size w (wr.alloc u) := fun u => hM.be.alloc hM.be.size u
      have hg : w.heap.size + 1 + 1 + 1 < wr.heap.size := hM.b3.lt
      have hfl := V_folded tl
      have hn := Blk.new wr 30 z16
      obtain ⟨go, hgo⟩ : ∃ go, wr.heap.size = go := ⟨_, rfl⟩
      clear hM
      go_wp2
      rw [hgo] at hn hg
      generalize ((16 : Nat) : Int) = s16
      go_loopw [9] (fun i wq => ∃ k : Nat, k ≤ 16 ∧ i = .int .i64 k ∧ Fold w wq go t k) (fun i _ => 16 - (intOf i).toNat)
      case atStart =>
        refine ⟨0, by omega, rfl, hb2 _, hb3 _, ?_, hbe _, hg⟩
        rw [fil_zero]
        exact hn
      case round =>
        obtain ⟨k, hk, rfl, h2, h3, ho, hbel, hg⟩ := hrel
        clear hn hb3 hb2 hbe
        by_cases hlt : k < 16
        · have c1 := (h3.cell k).trans (Is_at (by omega))
          have b1 := bnd_get tb (k := k) (by omega)
          have hf := ho.free k
          have hc := (ho.cell k).trans (Is_at (by rw [fil_len hfl.1 (by omega)]; omega))
          by_cases hk15 : k < 15
          · have hN := fil_next (l := folded t) (n := 16) (k := k) hfl.1 hlt (folded_get tl hk15).symm
            have b2 := bnd_get tb (k := k + 16) (by omega)
            have hfo : ((fil (folded t) 16 k).set k t[k]!).length = 16 := by rw [List.length_set, fil_len hfl.1 (by omega)]
            have hfk : ((fil (folded t) 16 k).set k t[k]!)[k]! = t[k]! := by
              rw [getElem!_pos _ k (by rw [hfo]; omega), List.getElem_set_self]
            have hss : ((fil (folded t) 16 k).set k t[k]!).set k (t[k]! + 38 * t[k + 16]!) = fil (folded t) 16 (k + 1) := by rw [List.set_set]; exact hN
            have k2 : Blk (wr.setCell ⟨go, k, none⟩ (.int .i64 t[k]!)) (w.heap.size + 1 + 1) 30 z16 := h2.far (by simp; omega) _
            have k3 : Blk (wr.setCell ⟨go, k, none⟩ (.int .i64 t[k]!)) (w.heap.size + 1 + 1 + 1) 57 (Is t).toArray := h3.far (by simp; omega) _
            have ko := ho.set k (.int .i64 t[k]!)
            rw [Is_set] at ko
            have kb : Below w.heap.size w (wr.setCell ⟨go, k, none⟩ (.int .i64 t[k]!)) := hbel.setCell (by simp; omega) _
            generalize t[k]! = x at *
            have q6 : (0 : Int) ≤ (k : Int) := by omega
            have q7 : (k : Int) < 16 := by omega
            have q8 : (k : Int) < 15 := by omega
            have HK := Lib.hid (And.intro k2 (And.intro k3 (And.intro ko kb)))
            clear h2 h3 ho hbel k2 k3 ko kb
            go_wp2_with (fail)
            obtain ⟨k2, k3, ko, kb⟩ := HK.out
            clear HK hc hf c1
            generalize wr.setCell ⟨go, k, none⟩ (.int .i64 x) = w2 at *
            have c1 := (ko.drew.cell k).trans (Is_at (by omega))
            have hf := ko.drew.free k
            have c2 := (k3.drew.cell (k + 16)).trans (Is_at (by omega))
            rw [hfk] at c1
            have HK := Lib.hid (And.intro k2 (And.intro k3 (And.intro ko (And.intro kb hss))))
            clear k2 k3 ko kb hss hN
            generalize t[k+16]! = y at *
            have q1 : IntKind.i64.wrap ((k : Int) + 16) = ((k + 16 : Nat) : Int) := by rw [i64_left, wrap64_in _ (by omega)]; omega
            have q2 : IntKind.i64.wrap (38 * y) = 38 * y := by rw [i64_left, wrap64_in _ (by omega)]
            have q3 : IntKind.i64.wrap (x + 38 * y) = x + 38 * y := by rw [i64_left, wrap64_in _ (by omega)]
            have q4 : (0 : Int) ≤ ((k + 16 : Nat) : Int) := by omega
            have q5 : ((k + 16 : Nat) : Int) < 31 := by omega
            generalize k + 16 = m at *
            go_still_tail 9, (by kernel_rfl)
            go_wp2
            go_roundw
            case rel =>
              obtain ⟨k2, k3, ko, kb, hss⟩ := HK.out
              have h4 := ko.set k (.int .i64 (x + 38 * y))
              rw [Is_set, hss] at h4
              exact ⟨k + 1, by omega, by go_num, k2.far (by simp; omega) _, k3.far (by simp; omega) _, h4, (kb.setCell (by simp; omega) _).drew, hg⟩
            case measure => simp [intOf]; omega
          · obtain rfl : k = 15 := by omega
            have hN := fil_next (l := folded t) (n := 16) (k := 15) hfl.1 hlt (folded_last tl).symm
            generalize t[15]! = x at *
            have HK := Lib.hid (And.intro h2 (And.intro h3 (And.intro ho (And.intro hbel hN))))
            clear h2 h3 ho hbel hN
            go_wp2
            go_roundw
            case rel =>
              obtain ⟨h2, h3, ho, hbel, hN⟩ := HK.out
              have h4 := ho.set 15 (.int .i64 x)
              rw [Is_set, hN] at h4
              exact ⟨16, by omega, by go_num, h2.far (by simp; omega) _, h3.far (by simp; omega) _, h4, hbel.setCell (by simp; omega) _, hg⟩
            case measure => simp [intOf]
        · obtain rfl : k = 16 := by omega
          rw [fil_all hfl.1] at ho
          have hz : (Is (folded t)).toArray.size = 16 := by rw [List.size_toArray, Is_len, hfl.1]
          have hfb := folded_bnd tl tb
          have hc1 := carry_all hfl.1
          have hc2 := carry_all hc1.1.len
          have hr := V_room hfl.1 (hfb.mono (by omega))
          have hz2 : (Is (carry (carry (folded t)))).toArray.size = 16 := by rw [List.size_toArray, Is_len, hc2.1.len]
          have hb1 : Bnd 2305843009213693952 (carry (folded t)) := by
            have h2 := carry_two hfl.1 hr.1 hr.2
            have h3 := div_bound (W_pos 16) hr.1 hr.2
            exact hc1.1.bnd (by omega) (by omega) (by omega)
          have HC := Lib.hid (carry_any (folded t) wr hfl.1 (hfb.mono (by omega)))
          have HD := fun w1 => Lib.hid (carry_any (carry (folded t)) w1 hc1.1.len hb1)
          have HK := Lib.hid (And.intro h2 hbel)
          clear h2 h3 hbel hfb hc1 hr hfl
          go_wp2_with (refine wpList_load_row rfl 30 _ rfl go rfl 30 (Is (folded t)).toArray (0, 0) _ ho Tryd.underlying30 rfl (size_num _ hz) ?_)
          refine HC.out.mono ?_
          rintro e w1 ⟨rfl, hw1⟩
          go_wp2_with (fail)
          refine (HD w1).out.mono ?_
          rintro e w2 ⟨rfl, hw2⟩
          obtain ⟨h2, hbel⟩ := HK.out
          have hbw := hbel.trans ((hw1.trans (hw2.mono hw1.size)).mono hbel.size)
          have h22 : Blk w2 (w.heap.size + 1 + 1) 30 z16 := (h2.below hw1 h2.lt).below hw2 (h2.below hw1 h2.lt).lt
          clear HC HD HK h2 hbel
          go_wp2_with (refine wpList_store_row rfl 30 _ _ rfl (w.heap.size + 1 + 1) rfl (Is (carry (carry (folded t)))).toArray rfl 30 _ h22 (size_num _ hz2) (by rw [hz2]; rfl) (Is_one _) ?_)
          refine bodyPost_ret (results_cell_row rfl _ _ (w.heap.size + 1 + 1) 30 (Is (carry (carry (folded t)))).toArray (0, 0) _ rfl (h22.row _) Tryd.underlying30 rfl (size_num _ hz2)) rfl ⟨t, tv, tb, tl, rfl, ?_⟩
          exact below_setRow hbw (by omega) _
end Go.Proofs.YtchhkejgdcmicaaDoor
