/-
  THE DOCUMENT'S OWN NUMBERS: Of; numbers modulo p as rows.
-/
import Derived.Test.YtchhkejgdcmicaaDoorPackC
namespace Go.Proofs.YtchhkejgdcmicaaDoor
open Go.RowKit Go.IntWalk Nums

def dq (v : Nat) : Nat → Nat
  | 0 => v
  | k + 1 => dq v k / 65536
theorem dq_lt {v : Nat} (h : v < 18446744073709551616) : ∀ k, dq v k < 18446744073709551616
  | 0 => h
  | k + 1 => Nat.lt_of_le_of_lt (Nat.div_le_self _ _) (dq_lt h k)
theorem ofd_get (v : Nat) : ∀ k, k < 4 → (ofd v)[k]! = ((dq v k % 65536 : Nat) : Int)
  | 0, _ => rfl
  | 1, _ => rfl
  | 2, _ => rfl
  | 3, _ => rfl
theorem fil_ofd (v : Nat) : fil (ofd v) 16 4 = ofd v := rfl

set_option maxRecDepth 100000 in
set_option maxHeartbeats 1000000 in
theorem of_any (v : Nat) (w : World) (hv : v < 18446744073709551616) :
    Calls Tryd.prog 26 #[.int .u64 v] w fun e w' => e = .returned (.agg (Is (ofd v)).toArray) ∧ Below w.heap.size w w' := by
  go_enter Tryd.func26, Tryd.ntmps26
  go_wp2
  go_loopw [0, 4] (fun q i wr => ∃ k : Nat, k ≤ 4 ∧ i = .int .i64 k ∧ q = .int .u64 ((dq v k : Nat) : Int) ∧ Blk wr w.heap.size 30 z16 ∧ Blk wr (w.heap.size + 1) 30 (Is (fil (ofd v) 16 k)).toArray ∧ Below w.heap.size w wr) (fun _ i _ => 4 - (intOf i).toNat)
  case atStart => exact ⟨0, by omega, rfl, rfl, heap_alloc2_old w _ _, heap_alloc2_new w _ _, ((Below.refl _ _).alloc (Nat.le_refl _) _).alloc (by simp) _⟩
  case round =>
    obtain ⟨k, hk, rfl, rfl, h0, h1, hbel⟩ := hrel
    by_cases hlt : k < 4
    · have hN := fil_next (l := ofd v) (n := 16) (k := k) rfl (by omega) (ofd_get v k hlt).symm
      have hc := (h1.cell k).trans (Is_at (by rw [fil_len (n := 16) rfl (by omega)]; omega))
      have hf := h1.free k
      have hd := dq_lt hv k
      have hnx : dq v (k + 1) = dq v k / 65536 := rfl
      have HK := Lib.hid (And.intro h0 (And.intro h1 (And.intro hbel (And.intro hN hnx))))
      clear h0 h1 hbel hN hnx
      generalize dq v k = q at *
      go_wp2
      go_roundw
      case rel =>
        obtain ⟨h0, h1, hbel, hN, hnx⟩ := HK.out
        have h3 := h1.set k (.int .i64 ((q % 65536 : Nat) : Int))
        rw [Is_set, hN] at h3
        refine ⟨k + 1, by omega, by go_num, ?_, h0.far (by simp) _, ?_, hbel.setCell (by simp) _⟩
        · rw [hnx]
          simp
        · simpa using h3
      case measure => simp [intOf]; omega
    · obtain rfl : k = 4 := by omega
      rw [fil_ofd] at h1
      have hz : (Is (ofd v)).toArray.size = 16 := rfl
      go_wp2_with (first
        | (refine wpList_load_row rfl 30 _ rfl (w.heap.size + 1) rfl 30 (Is (ofd v)).toArray (0, 0) _ h1 Tryd.underlying30 rfl (size_num _ hz) ?_)
        | (refine wpList_store_row rfl 30 _ _ rfl w.heap.size rfl (Is (ofd v)).toArray rfl 30 _ h0 (size_num _ hz) rfl (Is_one _) ?_))
      refine bodyPost_ret (results_cell_row rfl _ _ w.heap.size 30 (Is (ofd v)).toArray (0, 0) _ rfl (h0.row _) Tryd.underlying30 rfl (size_num _ hz)) rfl ⟨rfl, ?_⟩
      exact below_setRow hbel (by omega) _

/-- The row l is the number x. -/
structure NB (B : Int) (l : List Int) (x : F) : Prop where
  len : l.length = 16
  bnd : Bnd B l
  val : zf (V l) = x

theorem NB.mono {B C : Int} {l : List Int} {x : F} (h : NB B l x) (hc : B ≤ C) : NB C l x := ⟨h.len, h.bnd.mono hc, h.val⟩
theorem NB.of {v : Nat} (hv : v < 18446744073709551616) : NB 65535 (ofd v) (fof v) := ⟨rfl, (ofd_small v).bnd, by rw [V_ofd hv, zf_nat]⟩
theorem NB.adds {B C : Int} {a b : List Int} {x y : F} (ha : NB B a x) (hb : NB C b y) : NB (B + C) (adds a b) (x + y) :=
  ⟨adds_len ha.len hb.len, adds_bnd ha.bnd hb.bnd, by rw [V_adds (by rw [ha.len, hb.len]), zf_add, ha.val, hb.val]⟩
theorem NB.subs {B C : Int} {a b : List Int} {x y : F} (ha : NB B a x) (hb : NB C b y) : NB (B + C) (subs a b) (x - y) :=
  ⟨subs_len ha.len hb.len, subs_bnd ha.bnd hb.bnd, by rw [V_subs (by rw [ha.len, hb.len]), zf_sub, ha.val, hb.val]⟩

/-- Mul, said of numbers modulo p. -/
theorem mul_f {a b : List Int} {x y : F} (ha : NB 1048576 a x) (hb : NB 1048576 b y) (w : World) :
    Calls Tryd.prog 21 #[.agg (Is a).toArray, .agg (Is b).toArray] w fun e w' => ∃ r, NB 65573 r (x * y) ∧ e = .returned (.agg (Is r).toArray) ∧ Below w.heap.size w w' := by
  refine (mul_any a b w ha.len hb.len ha.bnd hb.bnd).mono ?_
  rintro e w' ⟨t, hv, hb1, hl, rfl, hw⟩
  obtain ⟨fl, fz⟩ := V_folded hl
  have hr := V_room fl ((folded_bnd hl hb1).mono (by omega))
  have h2 := carry_two fl hr.1 hr.2
  refine ⟨_, ⟨h2.1.len, h2.1.bnd (by omega) (by omega) (by omega), ?_⟩, rfl, hw⟩
  rw [carry_zf (carry_all fl).1.len, carry_zf fl, fz, hv, zf_mul, ha.val, hb.val]

theorem pack_f {l : List Int} {x : F} (h : NB 1048576 l x) (w : World) :
    Calls Tryd.prog 16 #[.agg (Is l).toArray] w fun e w' => e = .returned (.agg (By (enc x)).toArray) ∧ Below w.heap.size w w' := by
  have h1 := pack_any l w h.len (h.bnd.mono (by omega))
  rw [h.val] at h1
  exact h1

theorem load_f {b : List UInt8} (hl : b.length = 32) : NB 65535 (low b) (fof (le b % 57896044618658097711785492504343953926634992332820282019728792003956564819968)) := by
  obtain ⟨h1, h2, h3⟩ := low_all hl
  exact ⟨h1, h2.bnd, by rw [h3, zf_nat]⟩

end Go.Proofs.YtchhkejgdcmicaaDoor
