/-
  THE DOCUMENT'S OWN NUMBERS: carry.
-/
import Derived.Test.YtchhkejgdcmicaaDoorBase
import Derived.Test.YtchhkejgdcmicaaDoorSteps
namespace Go.Proofs.YtchhkejgdcmicaaDoor
open Go.RowKit Nums

theorem bnd_get {B : Int} {l : List Int} (h : Bnd B l) {k : Nat} (hk : k < l.length) : -B ≤ l[k]! ∧ l[k]! ≤ B := h _ (by rw [getElem!_pos l k hk]; exact List.getElem_mem _)

def numT : TypeId := 30
theorem size_num (cs : Array Value) (h : cs.size = 16) : (Tryd.prog.info? 30).map (·.size) = some cs.size := by
  rw [h]
  kernel_rfl

theorem tdiv_nn {z : Int} (h : ¬ z < 0) : z.tdiv 65536 = z / 65536 := Int.tdiv_eq_ediv_of_nonneg (by omega)
theorem tdiv_neg {z : Int} (h : z < 0) : z.tdiv 65536 = -((-z) / 65536) := by
  have : z.tdiv 65536 = -((-z).tdiv 65536) := by rw [Int.neg_tdiv, Int.neg_neg]
  rw [this, Int.tdiv_eq_ediv_of_nonneg (by omega)]
theorem tmod_neg {z : Int} (h : z < 0) : z.tmod 65536 = -((-z) % 65536) := by
  have : z.tmod 65536 = -((-z).tmod 65536) := by rw [Int.neg_tmod, Int.neg_neg]
  rw [this, Int.tmod_eq_emod_of_nonneg (by omega)]

/-- The carry's number, by whichever way it was reckoned: 1 more than the floor. -/
theorem car_a {x : Int} (h : ¬ x + 65536 < 0) : (x + 65536).tdiv 65536 = x / 65536 + 1 := by rw [tdiv_nn h]; omega
theorem car_b {x : Int} (h : x + 65536 < 0) (h2 : ((x + 65536).tmod 65536 != 0) = false) : (x + 65536).tdiv 65536 = x / 65536 + 1 := by
  rw [tmod_neg h] at h2
  simp only [bne_eq_false_iff_eq] at h2
  rw [tdiv_neg h]
  omega
theorem car_c {x : Int} (h : x + 65536 < 0) (h2 : ((x + 65536).tmod 65536 != 0) = true) : (x + 65536).tdiv 65536 = x / 65536 + 2 := by
  rw [tmod_neg h] at h2
  simp only [bne_iff_ne, ne_eq] at h2
  rw [tdiv_neg h]
  omega

def cst (l : List Int) (k : Nat) : List Int := if k = 16 then carry l else pst l k
theorem cst_lt (l : List Int) {k : Nat} (h : k < 16) : cst l k = pst l k := by unfold cst; rw [if_neg (by omega)]
theorem cst_16 (l : List Int) : cst l 16 = carry l := by unfold cst; rw [if_pos rfl]

/-- The row behind three writes, two of them to one digit. -/
theorem thrice {wr : World} {g t : Nat} {s : List Int} (hb : Blk wr g t (Is s).toArray) (k j : Nat) (a : Int) {b c b' c' : Int} (e1 : b = b') (e2 : c = c') :
    Blk (((wr.setCell ⟨g, k, none⟩ (.int .i64 a)).setCell ⟨g, k, none⟩ (.int .i64 b)).setCell ⟨g, j, none⟩ (.int .i64 c)) g t (Is ((s.set k b').set j c')).toArray := by
  subst e1 e2
  have h := ((hb.set k (.int .i64 a)).set k (.int .i64 b)).set j (.int .i64 c)
  rw [Is_set, Is_set, Is_set, List.set_set] at h
  exact h
theorem thrice_below {w wr : World} {g : Nat} (h : Below w.heap.size w wr) (hg : w.heap.size ≤ g) (k j : Nat) (a b c : Value) :
    Below w.heap.size w (((wr.setCell ⟨g, k, none⟩ a).setCell ⟨g, k, none⟩ b).setCell ⟨g, j, none⟩ c) := ((h.setCell hg _).setCell hg _).setCell hg _

set_option maxHeartbeats 1000000 in
theorem carry_any (l : List Int) (w : World) (hl : l.length = 16) (hbd : Bnd 2305843009213693952 l) :
    Calls Tryd.prog 33 #[.agg (Is l).toArray] w fun e w' => e = .returned (.agg (Is (carry l)).toArray) ∧ Below w.heap.size w w' := by
  go_enter Tryd.func33, Tryd.ntmps33
  go_wp2
  go_loopw [3] (fun i wr => ∃ k : Nat, k ≤ 16 ∧ i = .int .i64 k ∧ Blk wr w.heap.size 30 (Is (cst l k)).toArray ∧ Blk wr (w.heap.size + 1) 30 (Is (List.replicate 16 0)).toArray ∧ Below w.heap.size w wr) (fun i _ => 16 - (intOf i).toNat)
  case atStart =>
    refine ⟨0, by omega, rfl, ?_, heap_alloc2_new w _ _, ((Below.refl _ _).alloc (Nat.le_refl _) _).alloc (by simp) _⟩
    rw [cst_lt l (by omega), pst_zero]
    exact heap_alloc2_old w _ _
  case round =>
    obtain ⟨k, hk, rfl, hb, hb1, hbel⟩ := hrel
    by_cases hlt : k < 16
    · rw [cst_lt l hlt] at hb
      have hs : (pst l k).length = 16 := by rw [pst_len, hl]
      have hbk := pst_bnd (k := k) (by omega) hbd
      have hx := bnd_get hbk (k := k) (by omega)
      have hc := (hb.cell k).trans (Is_at (by omega))
      have hf := hb.free k
      by_cases hk15 : k < 15
      · have hN := pst_next (l := l) (k := k) (by omega)
        have hy := bnd_get hbk (k := k + 1) (by omega)
        have hc1 := (hb.cell (k + 1)).trans (Is_at (by omega))
        have hf1 := hb.free (k + 1)
        generalize pst l k = s at *
        generalize s[k]! = x at *
        generalize s[k+1]! = y at *
        go_wp2
        all_goals
          go_roundw
          case rel =>
            refine ⟨k + 1, by omega, by go_num, ?_, (((hb1.far (by simp) _).far (by simp) _).far (by simp) _), thrice_below hbel (Nat.le_refl _) _ _ _ _ _⟩
            rw [cst_lt l (by omega), hN]
            first
              | rw [car_c (by assumption) (by assumption)]
              | rw [car_b (by assumption) (by assumption)]
              | rw [car_a (by omega)]
            exact thrice hb k (k + 1) _ (by unfold wrap64; omega) (by unfold wrap64; omega)
          case measure => simp [intOf]; omega
      · obtain rfl : k = 15 := by omega
        have hN := pst_last hl
        have hy := bnd_get hbk (k := 0) (by omega)
        have hc1 := (hb.cell 0).trans (Is_at (by omega))
        have hf1 := hb.free 0
        generalize pst l 15 = s at *
        generalize s[15]! = x at *
        generalize s[0]! = y at *
        go_wp2
        all_goals
          go_roundw
          case rel =>
            refine ⟨16, by omega, by go_num, ?_, (((hb1.far (by simp) _).far (by simp) _).far (by simp) _), thrice_below hbel (Nat.le_refl _) _ _ _ _ _⟩
            rw [cst_16, hN]
            first
              | rw [car_c (by assumption) (by assumption)]
              | rw [car_b (by assumption) (by assumption)]
              | rw [car_a (by omega)]
            exact thrice hb 15 0 _ (by unfold wrap64; omega) (by unfold wrap64; omega)
          case measure => simp [intOf]
    · obtain rfl : k = 16 := by omega
      rw [cst_16] at hb
      go_wp2_with (first
        | (refine wpList_load_row rfl 30 _ rfl w.heap.size rfl 30 (Is (carry l)).toArray (0, 0) _ hb Tryd.underlying30 rfl (size_num _ (by simp [Is_len, (carry_all hl).1.len])) ?_)
        | (refine wpList_store_row rfl 30 _ _ rfl (w.heap.size + 1) rfl (Is (carry l)).toArray rfl 30 _ hb1 (size_num _ (by simp [Is_len, (carry_all hl).1.len])) (by simp [Is_len, (carry_all hl).1.len]) (Is_one _) ?_))
      refine bodyPost_ret (results_cell_row rfl _ _ (w.heap.size + 1) 30 (Is (carry l)).toArray (0, 0) _ rfl (hb1.row _) Tryd.underlying30 rfl (size_num _ (by simp [Is_len, (carry_all hl).1.len]))) rfl ⟨rfl, ?_⟩
      exact below_setRow hbel (by omega) _
end Go.Proofs.YtchhkejgdcmicaaDoor
