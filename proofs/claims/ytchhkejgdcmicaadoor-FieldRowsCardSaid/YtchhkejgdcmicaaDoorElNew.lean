/-
  THE FIELD'S NUMBERS: New: which bytes are a number.
-/
import Derived.Test.YtchhkejgdcmicaaDoorElHash
import Derived.Test.YtchhkejgdcmicaaDoorCalls
import Derived.Test.YtchhkejgdcmicaaDoorHigh
import Derived.Test.YtchhkejgdcmicaaDoorGood
namespace Go.Proofs.YtchhkejgdcmicaaDoor
open Go.RowKit Go.IntWalk Nums

/-! ### Eight words of bytes -/
theorem wd_more (T y q r : Nat) (hr : r < 8) (hT : T < 256 ^ (8 * q + r)) (hy : y < 256) (j : Nat) :
    wd (T + 256 ^ (8 * q + r) * y) j = if j = q then wd T j + 256 ^ r * y else wd T j := by
  have hp : (256 : Nat) ^ (8 * q + r) = 18446744073709551616 ^ q * 256 ^ r := by rw [Nat.pow_add, Nat.pow_mul]
  have hr8 : (256 : Nat) ^ (r + 1) ≤ 18446744073709551616 := Nat.pow_le_pow_right (by omega) (show r + 1 ≤ 8 by omega)
  have hr9 : (256 : Nat) ^ (r + 1) = 256 ^ r * 256 := Nat.pow_succ ..
  have hm : (256 : Nat) ^ r * y ≤ 256 ^ r * 255 := Nat.mul_le_mul (Nat.le_refl _) (by omega)
  rw [hp] at hT ⊢
  have hPq : 0 < (18446744073709551616 : Nat) ^ q := Nat.pow_pos (by omega)
  unfold wd
  by_cases hjq : j = q
  · subst hjq
    rw [if_pos rfl, Nat.mul_assoc, Nat.add_mul_div_left _ _ hPq]
    have hz : T / 18446744073709551616 ^ j < 256 ^ r := Nat.div_lt_of_lt_mul hT
    rw [Nat.mod_eq_of_lt (by omega), Nat.mod_eq_of_lt (by omega)]
  · rw [if_neg hjq]
    rcases Nat.lt_or_gt_of_ne hjq with hlt | hgt
    · obtain ⟨d, rfl⟩ : ∃ d, q = j + 1 + d := ⟨q - j - 1, by omega⟩
      have e : (18446744073709551616 : Nat) ^ (j + 1 + d) * 256 ^ r * y = 18446744073709551616 ^ j * (18446744073709551616 * (18446744073709551616 ^ d * 256 ^ r * y)) := by
        rw [Nat.pow_add, Nat.pow_succ]
        simp only [Nat.mul_assoc]
      rw [e, Nat.add_mul_div_left _ _ (Nat.pow_pos (by omega)), Nat.add_mul_mod_self_left]
    · obtain ⟨d, rfl⟩ : ∃ d, j = q + 1 + d := ⟨j - q - 1, by omega⟩
      have e : (18446744073709551616 : Nat) ^ (q + 1 + d) = 18446744073709551616 ^ q * 18446744073709551616 * 18446744073709551616 ^ d := by rw [Nat.pow_add, Nat.pow_succ]
      have hd : 0 < (18446744073709551616 : Nat) ^ d := Nat.pow_pos (by omega)
      have hb : 18446744073709551616 ^ q * 18446744073709551616 ≤ (18446744073709551616 : Nat) ^ (q + 1 + d) := by
        rw [e]
        exact Nat.le_mul_of_pos_right _ hd
      have h1 : 18446744073709551616 ^ q * 256 ^ r + 18446744073709551616 ^ q * 256 ^ r * y ≤ 18446744073709551616 ^ q * 18446744073709551616 := by
        rw [Nat.mul_assoc, ← Nat.mul_add]
        exact Nat.mul_le_mul (Nat.le_refl _) (by omega)
      rw [Nat.div_eq_of_lt (by omega), Nat.div_eq_of_lt (by omega)]

theorem le_take {b : List UInt8} {n : Nat} (h : n < b.length) : le (b.take (n + 1)) = le (b.take n) + 256 ^ n * (b[n]!).toNat := by
  rw [List.take_succ_eq_append_getElem h, le_append, List.length_take, Nat.min_eq_left (by omega), getElem!_pos b n h]
  show le (b.take n) + 256 ^ n * ((b[n]).toNat + 256 * 0) = _
  rw [Nat.mul_zero, Nat.add_zero]

/-- The words of the first n bytes. -/
def wds (b : List UInt8) (n : Nat) : List Nat := (List.range 5).map fun j => wd (le (b.take n)) j
theorem wds_len (b : List UInt8) (n : Nat) : (wds b n).length = 5 := by simp [wds]
theorem wds_get (b : List UInt8) (n : Nat) {j : Nat} (h : j < 5) : (wds b n)[j]! = wd (le (b.take n)) j := by
  rw [getElem!_pos _ j (by rw [wds_len]; exact h)]
  simp [wds]
theorem wds_zero (b : List UInt8) : wds b 0 = [0, 0, 0, 0, 0] := by
  have e : ∀ j, wd (le (b.take 0)) j = 0 := fun j => by
    show 0 / _ % _ = 0
    rw [Nat.zero_div]
  simp only [wds, e]
  rfl
theorem wd_small {T n : Nat} (hT : T < 256 ^ n) : wd T (n / 8) < 2 ^ (8 * (n % 8)) := by
  have e : (256 : Nat) ^ n = 18446744073709551616 ^ (n / 8) * 2 ^ (8 * (n % 8)) := by
    have h : (256 : Nat) ^ n = 256 ^ (8 * (n / 8) + n % 8) := by congr 1; omega
    rw [h, Nat.pow_add, Nat.pow_mul, Nat.pow_mul]
  rw [e] at hT
  have hz := Nat.div_lt_of_lt_mul hT
  exact Nat.lt_of_le_of_lt (Nat.mod_le _ _) hz
theorem wds_set {b : List UInt8} {n : Nat} (h : n < b.length) : (wds b n).set (n / 8) (wd (le (b.take n)) (n / 8) + 2 ^ (8 * (n % 8)) * (b[n]!).toNat) = wds b (n + 1) := by
  have hT := le_lt (b.take n)
  rw [List.length_take, Nat.min_eq_left (by omega)] at hT
  have e2 : (256 : Nat) ^ n = 256 ^ (8 * (n / 8) + n % 8) := by congr 1; omega
  have e3 : (2 : Nat) ^ (8 * (n % 8)) = 256 ^ (n % 8) := by rw [Nat.pow_mul]
  have hy := (b[n]!).toNat_lt
  apply List.ext_getElem (by simp [wds])
  intro j h1 h2
  have hj : j < 5 := by simpa [wds] using h2
  rw [List.getElem_set]
  simp only [wds, List.getElem_map, List.getElem_range]
  rw [le_take h, e2, wd_more _ _ _ _ (by omega) (by rw [← e2]; exact hT) hy]
  by_cases hjq : n / 8 = j
  · subst hjq
    rw [if_pos rfl, if_pos rfl, e3]
  · rw [if_neg hjq, if_neg (fun e => hjq e.symm)]

/-- The byte put into its word. -/
theorem or_byte {old y m : Nat} (hm : m ≤ 56) (hold : old < 2 ^ m) (hy : y < 256) :
    bits .or .u64 (old : Int) (IntKind.u64.wrap ((y : Int) * 2 ^ m)) = ((old + 2 ^ m * y : Nat) : Int) := by
  have hp : (2 : Nat) ^ m ≤ 2 ^ 56 := Nat.pow_le_pow_right (by omega) hm
  have h56 : (2 : Nat) ^ 56 = 72057594037927936 := by decide
  have hx : y * 2 ^ m ≤ 255 * 2 ^ 56 := Nat.mul_le_mul (by omega) hp
  have f2 : IntKind.u64.wrap ((y : Int) * 2 ^ m) = ((y * 2 ^ m : Nat) : Int) := by
    have : ((y : Int) * 2 ^ m) = ((y * 2 ^ m : Nat) : Int) := by simp
    rw [this, wrapN _ (by omega)]
  rw [f2, u64_or_nat _ _ (by omega) (by omega), Nat.or_comm, nat_join m _ _ (Nat.mul_mod_left ..) hold, Nat.add_comm, Nat.mul_comm]

/-! ### Five limbs of words -/
def lbs (L : Nat) : List Nat := (List.range 5).map fun i => L / 2251799813685248 ^ i % 2251799813685248
theorem lbs_mx (L : Nat) : lbs L = mx (fun i => L / 2251799813685248 ^ i % 2251799813685248) [0, 0, 0, 0, 0] 5 := rfl
theorem lbs_eb (L : Nat) : EB (lbs L) (fof (L % 57896044618658097711785492504343953926634992332820282019728792003956564819968)) := by
  refine EB.mk5 (a0 := L / 2251799813685248 ^ 0 % 2251799813685248) (a1 := L / 2251799813685248 ^ 1 % 2251799813685248) (a2 := L / 2251799813685248 ^ 2 % 2251799813685248) (a3 := L / 2251799813685248 ^ 3 % 2251799813685248) (a4 := L / 2251799813685248 ^ 4 % 2251799813685248) (by omega) (by omega) (by omega) (by omega) (by omega) ?_
  congr 1
  rw [lv5]
  simp only [Nat.reducePow]
  omega

theorem lb_words {L : Nat} (hL : L < 115792089237316195423570985008687907853269984665640564039457584007913129639936) {i : Nat} (hi : i < 5) :
    bits .and .u64 (bits .or .u64 ((wd L (51 * i / 64) : Nat) / 2 ^ (51 * i % 64) : Int) (IntKind.u64.wrap ((wd L (51 * i / 64 + 1) : Nat) * 2 ^ (64 - 51 * i % 64) : Int))) 2251799813685247 = ((L / 2251799813685248 ^ i % 2251799813685248 : Nat) : Int) := by
  have key : ∀ (k x y r t R : Nat), y * 2 ^ t % 18446744073709551616 % 2 ^ k = 0 → x / 2 ^ r < 2 ^ k → x / 2 ^ r < 18446744073709551616 → y * 2 ^ t % 18446744073709551616 + x / 2 ^ r < 18446744073709551616 → (y * 2 ^ t % 18446744073709551616 + x / 2 ^ r) % 2251799813685248 = R →
      bits .and .u64 (bits .or .u64 ((x : Nat) / 2 ^ r : Int) (IntKind.u64.wrap ((y : Nat) * 2 ^ t : Int))) 2251799813685247 = (R : Int) := by
    intro k x y r t R e1 e2 e3 e5 e4
    have f1 : ((x : Int) / 2 ^ r) = ((x / 2 ^ r : Nat) : Int) := by simp
    have f2 : IntKind.u64.wrap ((y : Int) * 2 ^ t) = ((y * 2 ^ t % 18446744073709551616 : Nat) : Int) := by
      rw [IntKind.wrap_u64]
      simp
    rw [f1, f2, u64_or_nat _ _ e3 (by omega), Nat.or_comm, nat_join k _ _ e1 e2, maskW _ e5, e4]
  have h5 : i = 0 ∨ i = 1 ∨ i = 2 ∨ i = 3 ∨ i = 4 := by omega
  unfold wd
  rcases h5 with rfl | rfl | rfl | rfl | rfl
  · exact key 64 (L / 18446744073709551616 ^ 0 % 18446744073709551616) (L / 18446744073709551616 ^ 1 % 18446744073709551616) 0 64 _ (by omega) (by omega) (by omega) (by omega) (by simp only [Nat.reducePow]; omega)
  · exact key 13 (L / 18446744073709551616 ^ 0 % 18446744073709551616) (L / 18446744073709551616 ^ 1 % 18446744073709551616) 51 13 _ (by omega) (by omega) (by omega) (by omega) (by simp only [Nat.reducePow]; omega)
  · exact key 26 (L / 18446744073709551616 ^ 1 % 18446744073709551616) (L / 18446744073709551616 ^ 2 % 18446744073709551616) 38 26 _ (by omega) (by omega) (by omega) (by omega) (by simp only [Nat.reducePow]; omega)
  · exact key 39 (L / 18446744073709551616 ^ 2 % 18446744073709551616) (L / 18446744073709551616 ^ 3 % 18446744073709551616) 25 39 _ (by omega) (by omega) (by omega) (by omega) (by simp only [Nat.reducePow]; omega)
  · exact key 52 (L / 18446744073709551616 ^ 3 % 18446744073709551616) (L / 18446744073709551616 ^ 4 % 18446744073709551616) 12 52 _ (by omega) (by omega) (by omega) (by omega) (by simp only [Nat.reducePow]; omega)

/-- What New's rows lie in: the words. -/
structure NSt (w wr : World) (b : List UInt8) (n : Nat) : Prop where
  b0 : Blk wr w.heap.size 22 (By b).toArray
  b1 : Blk wr (w.heap.size + 1) 27 z5
  b2 : Blk wr (w.heap.size + 1 + 1) 25 (Us (wds b n)).toArray
  be : Below w.heap.size w wr
theorem NSt.drew {w wr : World} {b : List UInt8} {n : Nat} (h : NSt w wr b n) : NSt w wr.drew b n := ⟨h.b0, h.b1, h.b2, h.be.drew⟩

set_option maxRecDepth 100000 in
set_option maxHeartbeats 2000000 in
theorem new_f {b : List UInt8} (hbl : b.length = 32) (w : World) :
    Calls Tryd.prog 23 #[.agg (By b).toArray] w fun e w' =>
      ((isGood b = true ∧ ∃ r, EB r (fof (le b % 57896044618658097711785492504343953926634992332820282019728792003956564819968)) ∧ e = .returned (.tuple #[.agg (Us r).toArray, .bool true])) ∨ (isGood b = false ∧ e = .returned (.tuple #[.agg z5, .bool false]))) ∧ Below w.heap.size w w' := by
  have hG : isGood b = decide (enc (fof (le b % 57896044618658097711785492504343953926634992332820282019728792003956564819968)) = b) := by
    unfold isGood
    by_cases he : enc (fof (le b % 57896044618658097711785492504343953926634992332820282019728792003956564819968)) = b
    · have h128 : (b[31]!).toNat < 128 := by
        have := enc_top (fof (le b % 57896044618658097711785492504343953926634992332820282019728792003956564819968))
        rwa [he] at this
      rw [decide_eq_true h128, Bool.true_and]
    · rw [decide_eq_false he, Bool.and_false]
  rw [hG]
  clear hG
  have hE := lbs_eb (le b)
  generalize fof (le b % 57896044618658097711785492504343953926634992332820282019728792003956564819968) = z at *
  have hq := fun w1 => equal32 (enc z) b (enc_len _) hbl w1
  generalize decide (enc z = b) = ok at *
  have HH := fun w1 => hash_f hE w1
  have hez := enc_len z
  generalize enc z = ez at *
  have HE := Lib.hid (And.intro hE (And.intro hq HH))
  clear hE hq HH
  go_enter Tryd.func23, Tryd.ntmps23
  go_wp2
  go_loopw [9] (fun i wr => ∃ n : Nat, n ≤ 32 ∧ i = .int .i64 n ∧ NSt w wr b n) (fun i _ => 32 - (intOf i).toNat)
  case atStart =>
    refine ⟨0, by omega, rfl, blk3_0 w _ _ _ _, blk3_1 w _ _ _ _, ?_, (((Below.refl _ _).alloc (Nat.le_refl _) _).alloc (by simp) _).alloc (by simp; omega) _⟩
    rw [wds_zero]
    exact blk3_2 w _ _ _ _
  case round =>
    obtain ⟨n, hn, rfl, h0, h1, h2, hbel⟩ := hrel
    by_cases hlt : n < 32
    · have hT := le_lt (b.take n)
      rw [List.length_take, Nat.min_eq_left (by omega)] at hT
      have hsm := wd_small hT
      have hN := wds_set (b := b) (n := n) (by omega)
      have c0 := (h2.drew.cell (n / 8)).trans (Us_at (by rw [wds_len]; omega))
      rw [wds_get b n (by omega)] at c0
      have c1 := (h0.drew.cell n).trans (By_get (by omega))
      have hf := h2.drew.free (n / 8)
      have hy := (b[n]!).toNat_lt
      have hor := or_byte (m := 8 * (n % 8)) (by omega) hsm hy
      generalize (b[n]!).toNat = y at *
      generalize wd (le (b.take n)) (n / 8) = old at *
      have q1 : ((n : Nat) : Int).tdiv 8 = ((n / 8 : Nat) : Int) := rfl
      have q2 : ((n : Nat) : Int).tmod 8 = ((n % 8 : Nat) : Int) := rfl
      have q3 : IntKind.i64.wrap (((n % 8 : Nat) : Int) * 8) = ((8 * (n % 8) : Nat) : Int) := by rw [i64_left, wrap64_in _ (by omega)]; omega
      have q4 : IntKind.u64.wrap (y : Int) = (y : Int) := wrapN y (by omega)
      have q5 : IntKind.i64.wrap ((n / 8 : Nat) : Int) = ((n / 8 : Nat) : Int) := by rw [i64_left, wrap64_in _ (by omega)]
      have q6 : IntKind.i64.wrap ((n % 8 : Nat) : Int) = ((n % 8 : Nat) : Int) := by rw [i64_left, wrap64_in _ (by omega)]
      have g1 : ((n / 8 : Nat) : Int) < 5 := by omega
      have g2 : ((8 * (n % 8) : Nat) : Int) ≤ 64 := by omega
      have g3 : (0 : Int) ≤ (n : Int) := by omega
      generalize old + 2 ^ (8 * (n % 8)) * y = nw at *
      generalize 8 * (n % 8) = m at *
      generalize hq : n / 8 = q at *
      generalize n % 8 = r at *
      have HK := Lib.hid (And.intro h0 (And.intro h1 (And.intro h2 (And.intro hbel hN))))
      clear h0 h1 h2 hbel hN hT hsm hq hy
      go_wp2
      go_still_tail 14, (by kernel_rfl)
      go_wp2
      go_roundw
      case rel =>
        obtain ⟨h0, h1, h2, hbel, hN⟩ := HK.out
        have h4 := h2.set q (.int .u64 (nw : Int))
        rw [Us_set, hN] at h4
        exact ⟨n + 1, by omega, by go_num, h0.far (by simp; omega) _, h1.far (by simp) _, h4, (hbel.setCell (by simp; omega) _).drew⟩
      case measure => simp [intOf]; omega
    · obtain rfl : n = 32 := by omega
      have hT : b.take 32 = b := List.take_of_length_le (by omega)
      have hL := le_lt b
      rw [hbl] at hL
      have hW : ∀ j, j < 5 → (wds b 32)[j]! = wd (le b) j := fun j hj => by rw [wds_get b 32 hj, hT]
      have hwl := wds_len b 32
      have hbn := fun o => Blk.new wr 27 o
      have k0 : ∀ o, Blk (wr.alloc o) w.heap.size 22 (By b).toArray := fun o => h0.alloc o
      have k1 : ∀ o, Blk (wr.alloc o) (w.heap.size + 1) 27 z5 := fun o => h1.alloc o
      have k2 : ∀ o, Blk (wr.alloc o) (w.heap.size + 1 + 1) 25 (Us (wds b 32)).toArray := fun o => h2.alloc o
      have kb : ∀ o, Below w.heap.size w (wr.alloc o) := fun o => hbel.alloc hbel.size o
      have hlt2 := h2.lt
      have HK := Lib.hid (And.intro k0 (And.intro k1 (And.intro k2 (And.intro kb hbn))))
      clear h0 h1 h2 hbel k0 k1 k2 kb hbn hlt hn
      generalize hg : wr.heap.size = g at *
      generalize wds b 32 = W at *
      go_wp2
      generalize ((32 : Nat) : Int) = s32
      go_loopw [27] (fun i wq => ∃ k : Nat, k ≤ 5 ∧ i = .int .i64 k ∧ Blk wq w.heap.size 22 (By b).toArray ∧ Blk wq (w.heap.size + 1) 27 z5 ∧ Blk wq (w.heap.size + 1 + 1) 25 (Us W).toArray ∧ Blk wq g 27 (Us (mx (fun i => le b / 2251799813685248 ^ i % 2251799813685248) [0, 0, 0, 0, 0] k)).toArray ∧ Below w.heap.size w wq) (fun i _ => 5 - (intOf i).toNat)
      case atStart =>
        obtain ⟨k0, k1, k2, kb, hbn⟩ := HK.out
        exact ⟨0, by omega, rfl, k0 _, k1 _, k2 _, hbn _, kb _⟩
      case round =>
        clear HK hg
        obtain ⟨k, hk, rfl, h0, h1, h2, h3, hbel⟩ := hrel
        by_cases hlt : k < 5
        · have hN := mx_set (fun i => le b / 2251799813685248 ^ i % 2251799813685248) [0, 0, 0, 0, 0] (k := k)
          have hlb := lb_words hL hlt
          have c0 := (h2.drew.cell (51 * k / 64)).trans (Us_at (by omega))
          have c1 := (h2.drew.cell (51 * k / 64 + 1)).trans (Us_at (by omega))
          rw [hW _ (by omega)] at c0 c1
          have hc := (h3.drew.cell k).trans (Us_at (by rw [mx_len]; omega))
          have hf := h3.drew.free k
          have qA : IntKind.i64.wrap (51 * (k : Int)) = ((51 * k : Nat) : Int) := by rw [i64_left, wrap64_in _ (by omega)]; omega
          have qd : ((51 * k : Nat) : Int).tdiv 64 = ((51 * k / 64 : Nat) : Int) := rfl
          have qm : ((51 * k : Nat) : Int).tmod 64 = ((51 * k % 64 : Nat) : Int) := rfl
          have qs : IntKind.i64.wrap (((51 * k / 64 : Nat) : Int) + 1) = ((51 * k / 64 + 1 : Nat) : Int) := by rw [i64_left, wrap64_in _ (by omega)]; omega
          have qt : IntKind.i64.wrap (64 - ((51 * k % 64 : Nat) : Int)) = ((64 - 51 * k % 64 : Nat) : Int) := by rw [i64_left, wrap64_in _ (by omega)]; omega
          have q5 : IntKind.i64.wrap ((51 * k / 64 : Nat) : Int) = ((51 * k / 64 : Nat) : Int) := by rw [i64_left, wrap64_in _ (by omega)]
          have q6 : IntKind.i64.wrap ((51 * k % 64 : Nat) : Int) = ((51 * k % 64 : Nat) : Int) := by rw [i64_left, wrap64_in _ (by omega)]
          have g1 : ((51 * k / 64 + 1 : Nat) : Int) < 5 := by omega
          have g2 : ((51 * k / 64 : Nat) : Int) < 5 := by omega
          have g3 : ((51 * k % 64 : Nat) : Int) ≤ 64 := by omega
          have g4 : ((64 - 51 * k % 64 : Nat) : Int) ≤ 64 := by omega
          have g5 : (0 : Int) ≤ (k : Int) := by omega
          have HK := Lib.hid (And.intro h0 (And.intro h1 (And.intro h2 (And.intro h3 (And.intro hbel (And.intro hN hL))))))
          have HW := Lib.hid hW
          clear h0 h1 h2 h3 hbel hN hL hW
          generalize le b / 2251799813685248 ^ k % 2251799813685248 = nw at *
          generalize wd (le b) (51 * k / 64) = u at *
          generalize wd (le b) (51 * k / 64 + 1) = v at *
          generalize 64 - 51 * k % 64 = t at *
          generalize 51 * k % 64 = r at *
          generalize 51 * k / 64 + 1 = q1 at *
          generalize 51 * k / 64 = q at *
          generalize 51 * k = A at *
          go_wp2
          go_still_tail 21, (by kernel_rfl)
          go_wp2
          go_roundw
          case rel =>
            obtain ⟨h0, h1, h2, h3, hbel, hN, hL⟩ := HK.out
            have h4 := h3.set k (.int .u64 (nw : Int))
            rw [Us_set, hN] at h4
            exact ⟨k + 1, by omega, by go_num, h0.far (by simp; omega) _, h1.far (by simp; omega) _, h2.far (by simp; omega) _, h4, (hbel.setCell (by simp; omega) _).drew⟩
          case measure => simp [intOf]; omega
        · obtain rfl : k = 5 := by omega
          rw [← lbs_mx] at h3
          obtain ⟨hE, hq, HH⟩ := HE.out
          have hzb : (By b).toArray.size = 32 := by rw [List.size_toArray, By_len, hbl]
          have hzl := len_us hE.len
          clear hW hwl hT hL HE h2
          generalize lbs (le b) = l at *
          have HK2 := Lib.hid (And.intro hE hbel)
          clear hE hbel
          go_wp2
          refine reg_q (by kernel_rfl) (tail_ok (by kernel_rfl)) (fun _ _ d _ _ h => by cases d <;> exact h) ?_
          refine b_el g (by simpa [Us_len] using hzl) _ rfl rfl rfl (fun _ h => h.blk h3) ?_; simp only [Act.put, List.setIfInBounds_toArray, List.set_cons_zero, List.set_cons_succ]
          refine b_one rfl own_hash (fun w1 => HH w1) rfl rfl ?_; simp only [Act.put, List.setIfInBounds_toArray, List.set_cons_zero, List.set_cons_succ]
          refine b_mid rfl 22 _ rfl w.heap.size 0 rfl (By b) _ (fun _ h => (h.blk h0).range) Tryd.underlying22 rfl (size_hash (By b).toArray hzb) ?_; simp only [Act.put, List.setIfInBounds_toArray, List.set_cons_zero, List.set_cons_succ]
          refine b_neq (By ez).toArray (By b).toArray rfl rfl rfl rfl (by kernel_rfl) hq ?_; simp only [Act.put, List.setIfInBounds_toArray, List.set_cons_zero, List.set_cons_succ]
          refine wpB_nil ?_
          intro w1 hw1
          have j1 := hw1.blk h1
          have j3 := hw1.blk h3
          have hsz := hw1.size
          have HU := Lib.hid hw1
          clear h0 h1 h3 HH hq hw1
          cases ok with
          | true =>
            go_wp2_with (first
              | (refine wpList_load_row rfl 27 _ rfl g rfl 27 (Us l).toArray (0, 0) _ j3 Tryd.underlying27 rfl (size_el _ hzl) ?_)
              | (refine wpList_store_row rfl 27 _ _ rfl (w.heap.size + 1) rfl (Us l).toArray rfl 27 _ j1 (size_el _ hzl) (by rw [hzl]; rfl) (Us_one _) ?_))
            obtain ⟨hE, hbel⟩ := HK2.out
            refine bodyPost_ret (results_cell_tmp rfl _ _ (w.heap.size + 1) 27 (Us l).toArray (0, 0) _ (.bool true) rfl rfl (j1.row _) Tryd.underlying27 rfl (size_el _ hzl)) rfl ⟨⟨l, hE, rfl⟩, ?_⟩
            exact below_setRow (below_up hbel HU.out) (by omega) _
          | false =>
            go_wp2_with (first
              | (refine wpl_build [] z5 rfl rfl rfl built_zero ?_)
              | (refine wpList_store_row rfl 27 _ _ rfl (w.heap.size + 1) rfl z5 rfl 27 _ j1 (size_el _ rfl) rfl (Us_one _) ?_))
            obtain ⟨hE, hbel⟩ := HK2.out
            refine bodyPost_ret (results_cell_tmp rfl _ _ (w.heap.size + 1) 27 z5 (0, 0) _ (.bool false) rfl rfl (j1.row _) Tryd.underlying27 rfl (size_el _ rfl)) rfl ⟨rfl, ?_⟩
            exact below_setRow (below_up hbel HU.out) (by omega) _
end Go.Proofs.YtchhkejgdcmicaaDoor
