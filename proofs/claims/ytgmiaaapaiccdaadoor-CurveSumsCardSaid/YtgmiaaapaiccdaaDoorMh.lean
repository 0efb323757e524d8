/-
  SEVERAL TEXTS IN ONE: ElNew, CpAt, CpAdd.
-/
import Derived.Test.YtgmiaaapaiccdaaDoorMf
import Derived.Test.YtgmiaaapaiccdaaDoorMc
import Derived.Test.YtgmiaaapaiccdaaDoorMa
import Derived.Test.YtgmiaaapaiccdaaDoorMg
/-
  THE FIELD'S NUMBERS: New: which bytes are a number.
-/
namespace Go.Proofs.YtgmiaaapaiccdaaDoor
open Go.RowKit Go.IntWalk Nums

/-! ### Eight words of bytes -/
theorem wd_more (T y q r : Nat) (hr : r < 8) (hT : T < 256 ^ (8 * q + r)) (hy : y < 256) (j : Nat) :
    wd (T + 256 ^ (8 * q + r) * y) j = if j = q then wd T j + 256 ^ r * y else wd T j := by
  have hp : (256 : Nat) ^ (8 * q + r) = 18446744073709551616 ^ q * 256 ^ r := by rw [Nat.pow_add, Nat.pow_mul]
  have hr8 : (256 : Nat) ^ (r + 1) ≤ 18446744073709551616 := Nat.pow_le_pow_right (by omega) (show r + 1 ≤ 8 by omega)
  have hr9 : (256 : Nat) ^ (r + 1) = 256 ^ r * 256 := Nat.pow_succ ..
  have hm : (256 : Nat) ^ r * y ≤ 256 ^ r * 255 := Nat.mul_le_mul (Nat.le_refl _) (by omega)
  rw [hp] at hT ⊢
  have hPq : 0 < (18446744073709551616 : Nat) ^ q := Nat.pow_pos (by omega)
  unfold wd
  by_cases hjq : j = q
  · subst hjq
    rw [if_pos rfl, Nat.mul_assoc, Nat.add_mul_div_left _ _ hPq]
    have hz : T / 18446744073709551616 ^ j < 256 ^ r := Nat.div_lt_of_lt_mul hT
    rw [Nat.mod_eq_of_lt (by omega), Nat.mod_eq_of_lt (by omega)]
  · rw [if_neg hjq]
    rcases Nat.lt_or_gt_of_ne hjq with hlt | hgt
    · obtain ⟨d, rfl⟩ : ∃ d, q = j + 1 + d := ⟨q - j - 1, by omega⟩
      have e : (18446744073709551616 : Nat) ^ (j + 1 + d) * 256 ^ r * y = 18446744073709551616 ^ j * (18446744073709551616 * (18446744073709551616 ^ d * 256 ^ r * y)) := by
        rw [Nat.pow_add, Nat.pow_succ]
        simp only [Nat.mul_assoc]
      rw [e, Nat.add_mul_div_left _ _ (Nat.pow_pos (by omega)), Nat.add_mul_mod_self_left]
    · obtain ⟨d, rfl⟩ : ∃ d, j = q + 1 + d := ⟨j - q - 1, by omega⟩
      have e : (18446744073709551616 : Nat) ^ (q + 1 + d) = 18446744073709551616 ^ q * 18446744073709551616 * 18446744073709551616 ^ d := by rw [Nat.pow_add, Nat.pow_succ]
      have hd : 0 < (18446744073709551616 : Nat) ^ d := Nat.pow_pos (by omega)
      have hb : 18446744073709551616 ^ q * 18446744073709551616 ≤ (18446744073709551616 : Nat) ^ (q + 1 + d) := by
        rw [e]
        exact Nat.le_mul_of_pos_right _ hd
      have h1 : 18446744073709551616 ^ q * 256 ^ r + 18446744073709551616 ^ q * 256 ^ r * y ≤ 18446744073709551616 ^ q * 18446744073709551616 := by
        rw [Nat.mul_assoc, ← Nat.mul_add]
        exact Nat.mul_le_mul (Nat.le_refl _) (by omega)
      rw [Nat.div_eq_of_lt (by omega), Nat.div_eq_of_lt (by omega)]

theorem le_take {b : List UInt8} {n : Nat} (h : n < b.length) : le (b.take (n + 1)) = le (b.take n) + 256 ^ n * (b[n]!).toNat := by
  rw [List.take_succ_eq_append_getElem h, le_append, List.length_take, Nat.min_eq_left (by omega), getElem!_pos b n h]
  show le (b.take n) + 256 ^ n * ((b[n]).toNat + 256 * 0) = _
  rw [Nat.mul_zero, Nat.add_zero]

/-- The words of the first n bytes. -/
def wds (b : List UInt8) (n : Nat) : List Nat := (List.range 5).map fun j => wd (le (b.take n)) j
theorem wds_len (b : List UInt8) (n : Nat) : (wds b n).length = 5 := by simp [wds]
theorem wds_get (b : List UInt8) (n : Nat) {j : Nat} (h : j < 5) : (wds b n)[j]! = wd (le (b.take n)) j := by
  rw [getElem!_pos _ j (by rw [wds_len]; exact h)]
  simp [wds]
theorem wds_zero (b : List UInt8) : wds b 0 = [0, 0, 0, 0, 0] := by
  have e : ∀ j, wd (le (b.take 0)) j = 0 := fun j => by
    show 0 / _ % _ = 0
    rw [Nat.zero_div]
  simp only [wds, e]
  rfl
theorem wd_small {T n : Nat} (hT : T < 256 ^ n) : wd T (n / 8) < 2 ^ (8 * (n % 8)) := by
  have e : (256 : Nat) ^ n = 18446744073709551616 ^ (n / 8) * 2 ^ (8 * (n % 8)) := by
    have h : (256 : Nat) ^ n = 256 ^ (8 * (n / 8) + n % 8) := by congr 1; omega
    rw [h, Nat.pow_add, Nat.pow_mul, Nat.pow_mul]
  rw [e] at hT
  have hz := Nat.div_lt_of_lt_mul hT
  exact Nat.lt_of_le_of_lt (Nat.mod_le _ _) hz
theorem wds_set {b : List UInt8} {n : Nat} (h : n < b.length) : (wds b n).set (n / 8) (wd (le (b.take n)) (n / 8) + 2 ^ (8 * (n % 8)) * (b[n]!).toNat) = wds b (n + 1) := by
  have hT := le_lt (b.take n)
  rw [List.length_take, Nat.min_eq_left (by omega)] at hT
  have e2 : (256 : Nat) ^ n = 256 ^ (8 * (n / 8) + n % 8) := by congr 1; omega
  have e3 : (2 : Nat) ^ (8 * (n % 8)) = 256 ^ (n % 8) := by rw [Nat.pow_mul]
  have hy := (b[n]!).toNat_lt
  apply List.ext_getElem (by simp [wds])
  intro j h1 h2
  have hj : j < 5 := by simpa [wds] using h2
  rw [List.getElem_set]
  simp only [wds, List.getElem_map, List.getElem_range]
  rw [le_take h, e2, wd_more _ _ _ _ (by omega) (by rw [← e2]; exact hT) hy]
  by_cases hjq : n / 8 = j
  · subst hjq
    rw [if_pos rfl, if_pos rfl, e3]
  · rw [if_neg hjq, if_neg (fun e => hjq e.symm)]

/-- The byte put into its word. -/
theorem or_byte {old y m : Nat} (hm : m ≤ 56) (hold : old < 2 ^ m) (hy : y < 256) :
    bits .or .u64 (old : Int) (IntKind.u64.wrap ((y : Int) * 2 ^ m)) = ((old + 2 ^ m * y : Nat) : Int) := by
  have hp : (2 : Nat) ^ m ≤ 2 ^ 56 := Nat.pow_le_pow_right (by omega) hm
  have h56 : (2 : Nat) ^ 56 = 72057594037927936 := by decide
  have hx : y * 2 ^ m ≤ 255 * 2 ^ 56 := Nat.mul_le_mul (by omega) hp
  have f2 : IntKind.u64.wrap ((y : Int) * 2 ^ m) = ((y * 2 ^ m : Nat) : Int) := by
    have : ((y : Int) * 2 ^ m) = ((y * 2 ^ m : Nat) : Int) := by simp
    rw [this, wrapN _ (by omega)]
  rw [f2, u64_or_nat _ _ (by omega) (by omega), Nat.or_comm, nat_join m _ _ (Nat.mul_mod_left ..) hold, Nat.add_comm, Nat.mul_comm]

/-! ### Five limbs of words -/
def lbs (L : Nat) : List Nat := (List.range 5).map fun i => L / 2251799813685248 ^ i % 2251799813685248
theorem lbs_mx (L : Nat) : lbs L = mx (fun i => L / 2251799813685248 ^ i % 2251799813685248) [0, 0, 0, 0, 0] 5 := rfl
theorem lbs_eb (L : Nat) : EB (lbs L) (fof (L % 57896044618658097711785492504343953926634992332820282019728792003956564819968)) := by
  refine EB.mk5 (a0 := L / 2251799813685248 ^ 0 % 2251799813685248) (a1 := L / 2251799813685248 ^ 1 % 2251799813685248) (a2 := L / 2251799813685248 ^ 2 % 2251799813685248) (a3 := L / 2251799813685248 ^ 3 % 2251799813685248) (a4 := L / 2251799813685248 ^ 4 % 2251799813685248) (by omega) (by omega) (by omega) (by omega) (by omega) ?_
  congr 1
  rw [lv5]
  simp only [Nat.reducePow]
  omega

theorem lb_words {L : Nat} (hL : L < 115792089237316195423570985008687907853269984665640564039457584007913129639936) {i : Nat} (hi : i < 5) :
    bits .and .u64 (bits .or .u64 ((wd L (51 * i / 64) : Nat) / 2 ^ (51 * i % 64) : Int) (IntKind.u64.wrap ((wd L (51 * i / 64 + 1) : Nat) * 2 ^ (64 - 51 * i % 64) : Int))) 2251799813685247 = ((L / 2251799813685248 ^ i % 2251799813685248 : Nat) : Int) := by
  have key : ∀ (k x y r t R : Nat), y * 2 ^ t % 18446744073709551616 % 2 ^ k = 0 → x / 2 ^ r < 2 ^ k → x / 2 ^ r < 18446744073709551616 → y * 2 ^ t % 18446744073709551616 + x / 2 ^ r < 18446744073709551616 → (y * 2 ^ t % 18446744073709551616 + x / 2 ^ r) % 2251799813685248 = R →
      bits .and .u64 (bits .or .u64 ((x : Nat) / 2 ^ r : Int) (IntKind.u64.wrap ((y : Nat) * 2 ^ t : Int))) 2251799813685247 = (R : Int) := by
    intro k x y r t R e1 e2 e3 e5 e4
    have f1 : ((x : Int) / 2 ^ r) = ((x / 2 ^ r : Nat) : Int) := by simp
    have f2 : IntKind.u64.wrap ((y : Int) * 2 ^ t) = ((y * 2 ^ t % 18446744073709551616 : Nat) : Int) := by
      rw [IntKind.wrap_u64]
      simp
    rw [f1, f2, u64_or_nat _ _ e3 (by omega), Nat.or_comm, nat_join k _ _ e1 e2, maskW _ e5, e4]
  have h5 : i = 0 ∨ i = 1 ∨ i = 2 ∨ i = 3 ∨ i = 4 := by omega
  unfold wd
  rcases h5 with rfl | rfl | rfl | rfl | rfl
  · exact key 64 (L / 18446744073709551616 ^ 0 % 18446744073709551616) (L / 18446744073709551616 ^ 1 % 18446744073709551616) 0 64 _ (by omega) (by omega) (by omega) (by omega) (by simp only [Nat.reducePow]; omega)
  · exact key 13 (L / 18446744073709551616 ^ 0 % 18446744073709551616) (L / 18446744073709551616 ^ 1 % 18446744073709551616) 51 13 _ (by omega) (by omega) (by omega) (by omega) (by simp only [Nat.reducePow]; omega)
  · exact key 26 (L / 18446744073709551616 ^ 1 % 18446744073709551616) (L / 18446744073709551616 ^ 2 % 18446744073709551616) 38 26 _ (by omega) (by omega) (by omega) (by omega) (by simp only [Nat.reducePow]; omega)
  · exact key 39 (L / 18446744073709551616 ^ 2 % 18446744073709551616) (L / 18446744073709551616 ^ 3 % 18446744073709551616) 25 39 _ (by omega) (by omega) (by omega) (by omega) (by simp only [Nat.reducePow]; omega)
  · exact key 52 (L / 18446744073709551616 ^ 3 % 18446744073709551616) (L / 18446744073709551616 ^ 4 % 18446744073709551616) 12 52 _ (by omega) (by omega) (by omega) (by omega) (by simp only [Nat.reducePow]; omega)

/-- What New's rows lie in: the words. -/
structure NSt (w wr : World) (b : List UInt8) (n : Nat) : Prop where
  b0 : Blk wr w.heap.size 22 (By b).toArray
  b1 : Blk wr (w.heap.size + 1) 27 z5
  b2 : Blk wr (w.heap.size + 1 + 1) 25 (Us (wds b n)).toArray
  be : Below w.heap.size w wr
theorem NSt.drew {w wr : World} {b : List UInt8} {n : Nat} (h : NSt w wr b n) : NSt w wr.drew b n := ⟨h.b0, h.b1, h.b2, h.be.drew⟩

set_option maxRecDepth 100000 in
set_option maxHeartbeats 2000000 in
theorem new_f {b : List UInt8} (hbl : b.length = 32) (w : World) :
    Calls Tryd.prog 32 #[.agg (By b).toArray] w fun e w' =>
      ((isGood b = true ∧ ∃ r, EB r (fof (le b % 57896044618658097711785492504343953926634992332820282019728792003956564819968)) ∧ e = .returned (.tuple #[.agg (Us r).toArray, .bool true])) ∨ (isGood b = false ∧ e = .returned (.tuple #[.agg z5, .bool false]))) ∧ Below w.heap.size w w' := by
  have hG : isGood b = decide (enc (fof (le b % 57896044618658097711785492504343953926634992332820282019728792003956564819968)) = b) := by
    unfold isGood
    by_cases he : enc (fof (le b % 57896044618658097711785492504343953926634992332820282019728792003956564819968)) = b
    · have h128 : (b[31]!).toNat < 128 := by
        have := enc_top (fof (le b % 57896044618658097711785492504343953926634992332820282019728792003956564819968))
        rwa [he] at this
      rw [decide_eq_true h128, Bool.true_and]
    · rw [decide_eq_false he, Bool.and_false]
  rw [hG]
  clear hG
  have hE := lbs_eb (le b)
  generalize fof (le b % 57896044618658097711785492504343953926634992332820282019728792003956564819968) = z at *
  have hq := fun w1 => equal32 (enc z) b (enc_len _) hbl w1
  generalize decide (enc z = b) = ok at *
  have HH := fun w1 => hash_f hE w1
  have hez := enc_len z
  generalize enc z = ez at *
  have HE := Lib.hid (And.intro hE (And.intro hq HH))
  clear hE hq HH
  go_enter Tryd.func32, Tryd.ntmps32
  go_wp2
  go_loopw [9] (fun i wr => ∃ n : Nat, n ≤ 32 ∧ i = .int .i64 n ∧ NSt w wr b n) (fun i _ => 32 - (intOf i).toNat)
  case atStart =>
    refine ⟨0, by omega, rfl, blk3_0 w _ _ _ _, blk3_1 w _ _ _ _, ?_, (((Below.refl _ _).alloc (Nat.le_refl _) _).alloc (by simp) _).alloc (by simp; omega) _⟩
    rw [wds_zero]
    exact blk3_2 w _ _ _ _
  case round =>
    obtain ⟨n, hn, rfl, h0, h1, h2, hbel⟩ := hrel
    by_cases hlt : n < 32
    · have hT := le_lt (b.take n)
      rw [List.length_take, Nat.min_eq_left (by omega)] at hT
      have hsm := wd_small hT
      have hN := wds_set (b := b) (n := n) (by omega)
      have c0 := (h2.drew.cell (n / 8)).trans (Us_at (by rw [wds_len]; omega))
      rw [wds_get b n (by omega)] at c0
      have c1 := (h0.drew.cell n).trans (By_get (by omega))
      have hf := h2.drew.free (n / 8)
      have hy := (b[n]!).toNat_lt
      have hor := or_byte (m := 8 * (n % 8)) (by omega) hsm hy
      generalize (b[n]!).toNat = y at *
      generalize wd (le (b.take n)) (n / 8) = old at *
      have q1 : ((n : Nat) : Int).tdiv 8 = ((n / 8 : Nat) : Int) := rfl
      have q2 : ((n : Nat) : Int).tmod 8 = ((n % 8 : Nat) : Int) := rfl
      have q3 : IntKind.i64.wrap (((n % 8 : Nat) : Int) * 8) = ((8 * (n % 8) : Nat) : Int) := by rw [i64_left, wrap64_in _ (by omega)]; omega
      have q4 : IntKind.u64.wrap (y : Int) = (y : Int) := wrapN y (by omega)
      have q5 : IntKind.i64.wrap ((n / 8 : Nat) : Int) = ((n / 8 : Nat) : Int) := by rw [i64_left, wrap64_in _ (by omega)]
      have q6 : IntKind.i64.wrap ((n % 8 : Nat) : Int) = ((n % 8 : Nat) : Int) := by rw [i64_left, wrap64_in _ (by omega)]
      have g1 : ((n / 8 : Nat) : Int) < 5 := by omega
      have g2 : ((8 * (n % 8) : Nat) : Int) ≤ 64 := by omega
      have g3 : (0 : Int) ≤ (n : Int) := by omega
      generalize old + 2 ^ (8 * (n % 8)) * y = nw at *
      generalize 8 * (n % 8) = m at *
      generalize hq : n / 8 = q at *
      generalize n % 8 = r at *
      have HK := Lib.hid (And.intro h0 (And.intro h1 (And.intro h2 (And.intro hbel hN))))
      clear h0 h1 h2 hbel hN hT hsm hq hy
      go_wp2
      go_still_tail 14, (by kernel_rfl)
      go_wp2
      go_roundw
      case rel =>
        obtain ⟨h0, h1, h2, hbel, hN⟩ := HK.out
        have h4 := h2.set q (.int .u64 (nw : Int))
        rw [Us_set, hN] at h4
        exact ⟨n + 1, by omega, by go_num, h0.far (by simp; omega) _, h1.far (by simp) _, h4, (hbel.setCell (by simp; omega) _).drew⟩
      case measure => simp [intOf]; omega
    · obtain rfl : n = 32 := by omega
      have hT : b.take 32 = b := List.take_of_length_le (by omega)
      have hL := le_lt b
      rw [hbl] at hL
      have hW : ∀ j, j < 5 → (wds b 32)[j]! = wd (le b) j := fun j hj => by rw [wds_get b 32 hj, hT]
      have hwl := wds_len b 32
      have hbn := fun o => Blk.new wr 27 o
      have k0 : ∀ o, Blk (wr.alloc o) w.heap.size 22 (By b).toArray := fun o => h0.alloc o
      have k1 : ∀ o, Blk (wr.alloc o) (w.heap.size + 1) 27 z5 := fun o => h1.alloc o
      have k2 : ∀ o, Blk (wr.alloc o) (w.heap.size + 1 + 1) 25 (Us (wds b 32)).toArray := fun o => h2.alloc o
      have kb : ∀ o, Below w.heap.size w (wr.alloc o) := fun o => hbel.alloc hbel.size o
      have hlt2 := h2.lt
      have HK := Lib.hid (And.intro k0 (And.intro k1 (And.intro k2 (And.intro kb hbn))))
      clear h0 h1 h2 hbel k0 k1 k2 kb hbn hlt hn
      generalize hg : wr.heap.size = g at *
      generalize wds b 32 = W at *
      go_wp2
      generalize ((32 : Nat) : Int) = s32
      go_loopw [27] (fun i wq => ∃ k : Nat, k ≤ 5 ∧ i = .int .i64 k ∧ Blk wq w.heap.size 22 (By b).toArray ∧ Blk wq (w.heap.size + 1) 27 z5 ∧ Blk wq (w.heap.size + 1 + 1) 25 (Us W).toArray ∧ Blk wq g 27 (Us (mx (fun i => le b / 2251799813685248 ^ i % 2251799813685248) [0, 0, 0, 0, 0] k)).toArray ∧ Below w.heap.size w wq) (fun i _ => 5 - (intOf i).toNat)
      case atStart =>
        obtain ⟨k0, k1, k2, kb, hbn⟩ := HK.out
        exact ⟨0, by omega, rfl, k0 _, k1 _, k2 _, hbn _, kb _⟩
      case round =>
        clear HK hg
        obtain ⟨k, hk, rfl, h0, h1, h2, h3, hbel⟩ := hrel
        by_cases hlt : k < 5
        · have hN := mx_set (fun i => le b / 2251799813685248 ^ i % 2251799813685248) [0, 0, 0, 0, 0] (k := k)
          have hlb := lb_words hL hlt
          have c0 := (h2.drew.cell (51 * k / 64)).trans (Us_at (by omega))
          have c1 := (h2.drew.cell (51 * k / 64 + 1)).trans (Us_at (by omega))
          rw [hW _ (by omega)] at c0 c1
          have hc := (h3.drew.cell k).trans (Us_at (by rw [mx_len]; omega))
          have hf := h3.drew.free k
          have qA : IntKind.i64.wrap (51 * (k : Int)) = ((51 * k : Nat) : Int) := by rw [i64_left, wrap64_in _ (by omega)]; omega
          have qd : ((51 * k : Nat) : Int).tdiv 64 = ((51 * k / 64 : Nat) : Int) := rfl
          have qm : ((51 * k : Nat) : Int).tmod 64 = ((51 * k % 64 : Nat) : Int) := rfl
          have qs : IntKind.i64.wrap (((51 * k / 64 : Nat) : Int) + 1) = ((51 * k / 64 + 1 : Nat) : Int) := by rw [i64_left, wrap64_in _ (by omega)]; omega
          have qt : IntKind.i64.wrap (64 - ((51 * k % 64 : Nat) : Int)) = ((64 - 51 * k % 64 : Nat) : Int) := by rw [i64_left, wrap64_in _ (by omega)]; omega
          have q5 : IntKind.i64.wrap ((51 * k / 64 : Nat) : Int) = ((51 * k / 64 : Nat) : Int) := by rw [i64_left, wrap64_in _ (by omega)]
          have q6 : IntKind.i64.wrap ((51 * k % 64 : Nat) : Int) = ((51 * k % 64 : Nat) : Int) := by rw [i64_left, wrap64_in _ (by omega)]
          have g1 : ((51 * k / 64 + 1 : Nat) : Int) < 5 := by omega
          have g2 : ((51 * k / 64 : Nat) : Int) < 5 := by omega
          have g3 : ((51 * k % 64 : Nat) : Int) ≤ 64 := by omega
          have g4 : ((64 - 51 * k % 64 : Nat) : Int) ≤ 64 := by omega
          have g5 : (0 : Int) ≤ (k : Int) := by omega
          have HK := Lib.hid (And.intro h0 (And.intro h1 (And.intro h2 (And.intro h3 (And.intro hbel (And.intro hN hL))))))
          have HW := Lib.hid hW
          clear h0 h1 h2 h3 hbel hN hL hW
          generalize le b / 2251799813685248 ^ k % 2251799813685248 = nw at *
          generalize wd (le b) (51 * k / 64) = u at *
          generalize wd (le b) (51 * k / 64 + 1) = v at *
          generalize 64 - 51 * k % 64 = t at *
          generalize 51 * k % 64 = r at *
          generalize 51 * k / 64 + 1 = q1 at *
          generalize 51 * k / 64 = q at *
          generalize 51 * k = A at *
          go_wp2
          go_still_tail 21, (by kernel_rfl)
          go_wp2
          go_roundw
          case rel =>
            obtain ⟨h0, h1, h2, h3, hbel, hN, hL⟩ := HK.out
            have h4 := h3.set k (.int .u64 (nw : Int))
            rw [Us_set, hN] at h4
            exact ⟨k + 1, by omega, by go_num, h0.far (by simp; omega) _, h1.far (by simp; omega) _, h2.far (by simp; omega) _, h4, (hbel.setCell (by simp; omega) _).drew⟩
          case measure => simp [intOf]; omega
        · obtain rfl : k = 5 := by omega
          rw [← lbs_mx] at h3
          obtain ⟨hE, hq, HH⟩ := HE.out
          have hzb : (By b).toArray.size = 32 := by rw [List.size_toArray, By_len, hbl]
          have hzl := len_us hE.len
          clear hW hwl hT hL HE h2
          generalize lbs (le b) = l at *
          have HK2 := Lib.hid (And.intro hE hbel)
          clear hE hbel
          go_wp2
          refine reg_q (by kernel_rfl) (tail_ok (by kernel_rfl)) (fun _ _ d _ _ h => by cases d <;> exact h) ?_
          refine b_el g (by simpa [Us_len] using hzl) _ rfl rfl rfl (fun _ h => h.blk h3) ?_; simp only [Act.put, List.setIfInBounds_toArray, List.set_cons_zero, List.set_cons_succ]
          refine b_one rfl own_hash (fun w1 => HH w1) rfl rfl ?_; simp only [Act.put, List.setIfInBounds_toArray, List.set_cons_zero, List.set_cons_succ]
          refine b_mid rfl 22 _ rfl w.heap.size 0 rfl (By b) _ (fun _ h => (h.blk h0).range) Tryd.underlying22 rfl (size_hash (By b).toArray hzb) ?_; simp only [Act.put, List.setIfInBounds_toArray, List.set_cons_zero, List.set_cons_succ]
          refine b_neq (By ez).toArray (By b).toArray rfl rfl rfl rfl (by kernel_rfl) hq ?_; simp only [Act.put, List.setIfInBounds_toArray, List.set_cons_zero, List.set_cons_succ]
          refine wpB_nil ?_
          intro w1 hw1
          have j1 := hw1.blk h1
          have j3 := hw1.blk h3
          have hsz := hw1.size
          have HU := Lib.hid hw1
          clear h0 h1 h3 HH hq hw1
          cases ok with
          | true =>
            go_wp2_with (first
              | (refine wpList_load_row rfl 27 _ rfl g rfl 27 (Us l).toArray (0, 0) _ j3 Tryd.underlying27 rfl (size_el _ hzl) ?_)
              | (refine wpList_store_row rfl 27 _ _ rfl (w.heap.size + 1) rfl (Us l).toArray rfl 27 _ j1 (size_el _ hzl) (by rw [hzl]; rfl) (Us_one _) ?_))
            obtain ⟨hE, hbel⟩ := HK2.out
            refine bodyPost_ret (results_cell_tmp rfl _ _ (w.heap.size + 1) 27 (Us l).toArray (0, 0) _ (.bool true) rfl rfl (j1.row _) Tryd.underlying27 rfl (size_el _ hzl)) rfl ⟨⟨l, hE, rfl⟩, ?_⟩
            exact below_setRow (below_up hbel HU.out) (by omega) _
          | false =>
            go_wp2_with (first
              | (refine wpl_build [] z5 rfl rfl rfl built_zero ?_)
              | (refine wpList_store_row rfl 27 _ _ rfl (w.heap.size + 1) rfl z5 rfl 27 _ j1 (size_el _ rfl) rfl (Us_one _) ?_))
            obtain ⟨hE, hbel⟩ := HK2.out
            refine bodyPost_ret (results_cell_tmp rfl _ _ (w.heap.size + 1) 27 z5 (0, 0) _ (.bool false) rfl rfl (j1.row _) Tryd.underlying27 rfl (size_el _ rfl)) rfl ⟨rfl, ?_⟩
            exact below_setRow (below_up hbel HU.out) (by omega) _
end Go.Proofs.YtgmiaaapaiccdaaDoor
/-
  THE PROGRAM'S POINTS: at, factor, Base.
-/
namespace Go.Proofs.YtgmiaaapaiccdaaDoor
open Go.RowKit Go.IntWalk Nums

theorem small1_f (w : World) : Calls Tryd.prog 33 #[.int .u64 1] w fun e w' => ∃ r, EB r 1 ∧ e = .returned (.agg (Us r).toArray) ∧ Below w.heap.size w w' := by
  have h := small_f 1 (by omega) w
  rw [fof_one] at h
  exact h
def facB : List UInt8 := [163, 120, 89, 19, 202, 77, 235, 117, 171, 216, 65, 65, 77, 10, 112, 0, 152, 232, 121, 119, 121, 64, 199, 140, 115, 254, 111, 43, 238, 108, 3, 82]
def bxB : List UInt8 := [26, 213, 37, 143, 96, 45, 86, 201, 178, 167, 37, 149, 96, 199, 44, 105, 92, 220, 214, 253, 49, 226, 164, 192, 254, 83, 110, 205, 211, 54, 105, 33]
def byB : List UInt8 := [88, 102, 102, 102, 102, 102, 102, 102, 102, 102, 102, 102, 102, 102, 102, 102, 102, 102, 102, 102, 102, 102, 102, 102, 102, 102, 102, 102, 102, 102, 102, 102]
theorem new_const {b : List UInt8} {x : F} (hb : b.length = 32) (hg : isGood b = true) (hx : fof (le b % 57896044618658097711785492504343953926634992332820282019728792003956564819968) = x) (w : World) :
    Calls Tryd.prog 32 #[.agg (By b).toArray] w fun e w' => ∃ r, EB r x ∧ e = .returned (.tuple #[.agg (Us r).toArray, .bool true]) ∧ Below w.heap.size w w' :=
  (new_f hb w).mono fun e w' ⟨h, hw⟩ => by
    rcases h with ⟨_, r, hr, he⟩ | ⟨h, _⟩
    · exact ⟨r, hx ▸ hr, he, hw⟩
    · rw [hg] at h
      cases h
theorem good_fac : isGood facB = true := by decide +kernel
theorem good_bx : isGood bxB = true := by decide +kernel
theorem good_by : isGood byB = true := by decide +kernel
theorem le_fac : fof (le facB % 57896044618658097711785492504343953926634992332820282019728792003956564819968) = dd := fof_eq (by decide +kernel)
theorem le_bx : fof (le bxB % 57896044618658097711785492504343953926634992332820282019728792003956564819968) = fof bx := fof_eq (by decide +kernel)
theorem le_by : fof (le byB % 57896044618658097711785492504343953926634992332820282019728792003956564819968) = fof bY := fof_eq (by decide +kernel)

set_option maxRecDepth 100000 in
set_option maxHeartbeats 1000000 in
theorem at_f {X Y : List Nat} {x y : F} (hX : EB X x) (hY : EB Y y) (hon : Ed.On dd ⟨x, y⟩) (w : World) :
    Calls Tryd.prog 40 #[.agg (Us X).toArray, .agg (Us Y).toArray] w fun e w' => ∃ r, QB r ⟨x, y⟩ ∧ e = .returned (.agg (Us r).toArray) ∧ Below w.heap.size w w' := by
  refine calls_F (vs := [.agg (Us X).toArray, .agg (Us Y).toArray]) 12 Tryd.func40 rfl (by rw [Tryd.ntmps40]; rfl) ?_
  refine c_seq fun K hK => ?_
  refine c_lit ?_
  refine l_boxA ((Us X).toArray) rfl rfl rfl rfl rfl fun W1 g1 hw1 hg1 b1 => ?_
  have q1 : w.heap.size ≤ g1 := by rw [hg1]; exact Nat.le_refl _
  clear hg1
  have hU : Up w _ := hw1
  refine l_boxA ((Us Y).toArray) rfl rfl rfl rfl rfl fun W2 g2 hw2 hg2 b2 => ?_
  have q2 : w.heap.size ≤ g2 := by rw [hg2]; exact hU.size
  have n1_2 : g1 ≠ g2 := by have := b1.lt; omega
  clear hg2
  replace b1 := b1.later hw2
  replace hU := hU.step hw2
  refine l_allocA ((Us pz).toArray) rfl rfl rfl rfl (by kernel_rfl) fun W3 g3 hw3 hg3 b3 => ?_
  have q3 : w.heap.size ≤ g3 := by rw [hg3]; exact hU.size
  have n1_3 : g1 ≠ g3 := by have := b1.lt; omega
  have n2_3 : g2 ≠ g3 := by have := b2.lt; omega
  clear hg3
  replace b1 := b1.later hw3
  replace b2 := b2.later hw3
  replace hU := hU.step hw3
  refine l_nil ?_
  refine hK _ _ ?_
  clear hK K
  refine c_seq fun K hK => ?_
  refine c_t 7 (by decide) (by kernel_rfl) (tail_ok (by kernel_rfl)) (fun _ _ d _ _ h => by cases d <;> exact h) ?_
  refine f_el g1 0 hX.len rfl rfl rfl rfl rfl (fun _ h1 => (h1.blk b1).range) ?_
  refine f_el g2 0 hY.len rfl rfl rfl rfl rfl (fun _ h1 => (h1.blk b2).range) ?_
  refine f_us #[.int .u64 1] (EB · 1) rfl rfl rfl own_small (fun w1 _ => small1_f w1) rfl rfl fun r7 v7 => ?_
  refine f_el g1 0 hX.len rfl rfl rfl rfl rfl (fun _ h1 => (h1.blk b1).range) ?_
  refine f_el g2 0 hY.len rfl rfl rfl rfl rfl (fun _ h1 => (h1.blk b2).range) ?_
  refine f_us #[.agg (Us X).toArray, .agg (Us Y).toArray] (EB · (x * y)) rfl rfl rfl own_elmul (fun w1 h1 => elmul_f hX hY w1) rfl rfl fun r10 v10 => ?_
  refine f_build [(0, .agg (Us X).toArray), (1, .agg (Us Y).toArray), (2, .agg (Us r7).toArray), (3, .agg (Us r10).toArray)] (Us (pc X Y r7 r10)).toArray rfl rfl rfl rfl rfl (builtP4 hX.len hY.len v7.len v10.len) ?_
  refine f_set g3 _ ((Us (pc X Y r7 r10)).toArray) rfl rfl rfl rfl rfl b3 (size_P (pc_len hX.len hY.len v7.len v10.len)) ((us_size pz_len).trans (us_size (pc_len hX.len hY.len v7.len v10.len)).symm) (Us_oneA _) fun w4 hw4 c4 => ?_
  replace b1 := (b1.later hw4).rowFar n1_3 ((Us (pc X Y r7 r10)).toArray)
  replace b2 := (b2.later hw4).rowFar n2_3 ((Us (pc X Y r7 r10)).toArray)
  replace b3 := c4
  replace hU := up_row (hU.step hw4) q3 ((Us (pc X Y r7 r10)).toArray)
  clear hw4 c4
  generalize w4.setRow g3 ((Us (pc X Y r7 r10)).toArray) = W4 at *
  refine l_nil ?_
  refine hK _ _ ?_
  clear hK K
  refine c_ret (k_ret_row g3 _ rfl rfl b3 Tryd.underlying29 rfl (size_P (pc_len hX.len hY.len v7.len v10.len)) ⟨_, ⟨⟨X, Y, r7, r10, x, y, 1, x * y, rfl, hX, hY, v7, v10, Ed.Rep.one prime_p x y, by grind only⟩, hon⟩, rfl, hU⟩)
set_option maxRecDepth 100000 in
set_option maxHeartbeats 1000000 in
theorem factor_f  (w : World) :
    Calls Tryd.prog 37 #[] w fun e w' => ∃ r, EB r dd ∧ e = .returned (.agg (Us r).toArray) ∧ Below w.heap.size w w' := by
  refine calls_F (vs := []) 9 Tryd.func37 rfl (by rw [Tryd.ntmps37]; rfl) ?_
  refine c_seq fun K hK => ?_
  refine c_lit ?_
  refine l_allocA z5 rfl rfl rfl rfl (by kernel_rfl) fun W1 g1 hw1 hg1 b1 => ?_
  have q1 : w.heap.size ≤ g1 := by rw [hg1]; exact Nat.le_refl _
  clear hg1
  have hU : Up w _ := hw1
  refine l_nil ?_
  refine hK _ _ ?_
  clear hK K
  refine c_seq fun K hK => ?_
  refine c_newF 5 [nvE 1] (by decide) ⟨⟨rfl, rfl, rfl, rfl, by kernel_rfl⟩, trivial⟩ ?_
  refine f_build [(0, .int .u8 163), (1, .int .u8 120), (2, .int .u8 89), (3, .int .u8 19), (4, .int .u8 202), (5, .int .u8 77), (6, .int .u8 235), (7, .int .u8 117), (8, .int .u8 171), (9, .int .u8 216), (10, .int .u8 65), (11, .int .u8 65), (12, .int .u8 77), (13, .int .u8 10), (14, .int .u8 112), (15, .int .u8 0), (16, .int .u8 152), (17, .int .u8 232), (18, .int .u8 121), (19, .int .u8 119), (20, .int .u8 121), (21, .int .u8 64), (22, .int .u8 199), (23, .int .u8 140), (24, .int .u8 115), (25, .int .u8 254), (26, .int .u8 111), (27, .int .u8 43), (28, .int .u8 238), (29, .int .u8 108), (30, .int .u8 3), (31, .int .u8 82)] (By facB).toArray rfl rfl rfl rfl rfl (by kernel_rfl) ?_
  refine f_tup #[.agg (By facB).toArray] dd rfl rfl rfl own_elnew (fun w1 _ => new_const rfl good_fac le_fac w1) rfl rfl fun r5 v5 => ?_
  refine f_move (.tuple #[.agg (Us r5).toArray, .bool true]) rfl rfl rfl rfl rfl ?_
  refine f_extract (.agg (Us r5).toArray) rfl rfl rfl rfl rfl rfl ?_
  refine f_extract (.bool true) rfl rfl rfl rfl rfl rfl ?_
  refine f_new [.tmp 6] [(Us r5).toArray] ⟨rfl, trivial⟩ (by decide) ⟨⟨rfl, rfl, rfl⟩, rfl⟩ ⟨⟨rfl, (us_size zl_len).trans (us_size v5.len).symm, size_E v5.len, Us_oneA _⟩, trivial⟩ fun f2 W2 hg2 hd2 hw2 hb2 => ?_
  have b200 : Blk W2 (f2 0) 27 ((Us r5).toArray) := hb2.1
  clear hb2
  have q200 : w.heap.size ≤ f2 0 := Nat.le_trans hU.size (hg2 0 (by decide))
  have n1_200 : g1 ≠ f2 0 := by have := b1.lt; have := hg2 0 (by decide); omega
  replace b1 := b1.later hw2
  replace hU := hU.step hw2
  clear hg2 hd2 hw2
  generalize hf200 : f2 0 = g200 at *
  simp only [ptrs, hf200]
  clear hf200 f2
  refine l_assign (.bool true) rfl rfl rfl rfl rfl ?_
  refine l_nil ?_
  refine k_sub (E' := [(0, .pointer (some ⟨g1, 0, none⟩)), (1, .pointer (some ⟨g200, 0, none⟩))]) ⟨rfl, rfl, trivial⟩ ?_
  refine hK _ _ ?_
  clear hK K
  refine c_seq fun K hK => ?_
  refine c_tF 1 ?_
  refine f_el g200 0 v5.len rfl rfl rfl rfl rfl (fun _ h1 => (h1.blk b200).range) ?_
  refine f_set g1 _ ((Us r5).toArray) rfl rfl rfl rfl rfl b1 (size_E v5.len) ((us_size zl_len).trans (us_size v5.len).symm) (Us_oneA _) fun w3 hw3 c3 => ?_
  replace b200 := (b200.later hw3).rowFar (Ne.symm n1_200) ((Us r5).toArray)
  replace b1 := c3
  replace hU := up_row (hU.step hw3) q1 ((Us r5).toArray)
  clear hw3 c3
  generalize w3.setRow g1 ((Us r5).toArray) = W3 at *
  refine l_nil ?_
  refine hK _ _ ?_
  clear hK K
  refine c_ret (k_ret_row g1 _ rfl rfl b1 Tryd.underlying27 rfl (size_E v5.len) ⟨_, v5, rfl, hU⟩)
set_option maxRecDepth 100000 in
set_option maxHeartbeats 1000000 in
theorem cbase_f  (w : World) :
    Calls Tryd.prog 18 #[] w fun e w' => ∃ r, QB r base ∧ e = .returned (.agg (Us r).toArray) ∧ Below w.heap.size w w' := by
  refine calls_F (vs := []) 18 Tryd.func18 rfl (by rw [Tryd.ntmps18]; rfl) ?_
  refine c_seq fun K hK => ?_
  refine c_lit ?_
  refine l_allocA ((Us pz).toArray) rfl rfl rfl rfl (by kernel_rfl) fun W1 g1 hw1 hg1 b1 => ?_
  have q1 : w.heap.size ≤ g1 := by rw [hg1]; exact Nat.le_refl _
  clear hg1
  have hU : Up w _ := hw1
  refine l_nil ?_
  refine hK _ _ ?_
  clear hK K
  refine c_seq fun K hK => ?_
  refine c_newF 5 [nvE 1] (by decide) ⟨⟨rfl, rfl, rfl, rfl, by kernel_rfl⟩, trivial⟩ ?_
  refine f_build [(0, .int .u8 26), (1, .int .u8 213), (2, .int .u8 37), (3, .int .u8 143), (4, .int .u8 96), (5, .int .u8 45), (6, .int .u8 86), (7, .int .u8 201), (8, .int .u8 178), (9, .int .u8 167), (10, .int .u8 37), (11, .int .u8 149), (12, .int .u8 96), (13, .int .u8 199), (14, .int .u8 44), (15, .int .u8 105), (16, .int .u8 92), (17, .int .u8 220), (18, .int .u8 214), (19, .int .u8 253), (20, .int .u8 49), (21, .int .u8 226), (22, .int .u8 164), (23, .int .u8 192), (24, .int .u8 254), (25, .int .u8 83), (26, .int .u8 110), (27, .int .u8 205), (28, .int .u8 211), (29, .int .u8 54), (30, .int .u8 105), (31, .int .u8 33)] (By bxB).toArray rfl rfl rfl rfl rfl (by kernel_rfl) ?_
  refine f_tup #[.agg (By bxB).toArray] (fof bx) rfl rfl rfl own_elnew (fun w1 _ => new_const rfl good_bx le_bx w1) rfl rfl fun r7 v7 => ?_
  refine f_move (.tuple #[.agg (Us r7).toArray, .bool true]) rfl rfl rfl rfl rfl ?_
  refine f_extract (.agg (Us r7).toArray) rfl rfl rfl rfl rfl rfl ?_
  refine f_extract (.bool true) rfl rfl rfl rfl rfl rfl ?_
  refine f_new [.tmp 8] [(Us r7).toArray] ⟨rfl, trivial⟩ (by decide) ⟨⟨rfl, rfl, rfl⟩, rfl⟩ ⟨⟨rfl, (us_size zl_len).trans (us_size v7.len).symm, size_E v7.len, Us_oneA _⟩, trivial⟩ fun f2 W2 hg2 hd2 hw2 hb2 => ?_
  have b200 : Blk W2 (f2 0) 27 ((Us r7).toArray) := hb2.1
  clear hb2
  have q200 : w.heap.size ≤ f2 0 := Nat.le_trans hU.size (hg2 0 (by decide))
  have n1_200 : g1 ≠ f2 0 := by have := b1.lt; have := hg2 0 (by decide); omega
  replace b1 := b1.later hw2
  replace hU := hU.step hw2
  clear hg2 hd2 hw2
  generalize hf200 : f2 0 = g200 at *
  simp only [ptrs, hf200]
  clear hf200 f2
  refine l_assign (.bool true) rfl rfl rfl rfl rfl ?_
  refine l_nil ?_
  refine k_sub (E' := [(0, .pointer (some ⟨g1, 0, none⟩)), (1, .pointer (some ⟨g200, 0, none⟩))]) ⟨rfl, rfl, trivial⟩ ?_
  refine hK _ _ ?_
  clear hK K
  refine c_seq fun K hK => ?_
  refine c_newF 5 [nvE 3] (by decide) ⟨⟨rfl, rfl, rfl, rfl, by kernel_rfl⟩, trivial⟩ ?_
  refine f_build [(0, .int .u8 88), (1, .int .u8 102), (2, .int .u8 102), (3, .int .u8 102), (4, .int .u8 102), (5, .int .u8 102), (6, .int .u8 102), (7, .int .u8 102), (8, .int .u8 102), (9, .int .u8 102), (10, .int .u8 102), (11, .int .u8 102), (12, .int .u8 102), (13, .int .u8 102), (14, .int .u8 102), (15, .int .u8 102), (16, .int .u8 102), (17, .int .u8 102), (18, .int .u8 102), (19, .int .u8 102), (20, .int .u8 102), (21, .int .u8 102), (22, .int .u8 102), (23, .int .u8 102), (24, .int .u8 102), (25, .int .u8 102), (26, .int .u8 102), (27, .int .u8 102), (28, .int .u8 102), (29, .int .u8 102), (30, .int .u8 102), (31, .int .u8 102)] (By byB).toArray rfl rfl rfl rfl rfl (by kernel_rfl) ?_
  refine f_tup #[.agg (By byB).toArray] (fof bY) rfl rfl rfl own_elnew (fun w1 _ => new_const rfl good_by le_by w1) rfl rfl fun r12 v12 => ?_
  refine f_move (.tuple #[.agg (Us r12).toArray, .bool true]) rfl rfl rfl rfl rfl ?_
  refine f_extract (.agg (Us r12).toArray) rfl rfl rfl rfl rfl rfl ?_
  refine f_extract (.bool true) rfl rfl rfl rfl rfl rfl ?_
  refine f_new [.tmp 13] [(Us r12).toArray] ⟨rfl, trivial⟩ (by decide) ⟨⟨rfl, rfl, rfl⟩, rfl⟩ ⟨⟨rfl, (us_size zl_len).trans (us_size v12.len).symm, size_E v12.len, Us_oneA _⟩, trivial⟩ fun f3 W3 hg3 hd3 hw3 hb3 => ?_
  have b300 : Blk W3 (f3 0) 27 ((Us r12).toArray) := hb3.1
  clear hb3
  have q300 : w.heap.size ≤ f3 0 := Nat.le_trans hU.size (hg3 0 (by decide))
  have n1_300 : g1 ≠ f3 0 := by have := b1.lt; have := hg3 0 (by decide); omega
  have n200_300 : g200 ≠ f3 0 := by have := b200.lt; have := hg3 0 (by decide); omega
  replace b1 := b1.later hw3
  replace b200 := b200.later hw3
  replace hU := hU.step hw3
  clear hg3 hd3 hw3
  generalize hf300 : f3 0 = g300 at *
  simp only [ptrs, hf300]
  clear hf300 f3
  refine l_assign (.bool true) rfl rfl rfl rfl rfl ?_
  refine l_nil ?_
  refine k_sub (E' := [(0, .pointer (some ⟨g1, 0, none⟩)), (1, .pointer (some ⟨g200, 0, none⟩)), (3, .pointer (some ⟨g300, 0, none⟩))]) ⟨rfl, rfl, rfl, trivial⟩ ?_
  refine hK _ _ ?_
  clear hK K
  refine c_seq fun K hK => ?_
  refine c_tF 3 ?_
  refine f_el g200 0 v7.len rfl rfl rfl rfl rfl (fun _ h1 => (h1.blk b200).range) ?_
  refine f_el g300 0 v12.len rfl rfl rfl rfl rfl (fun _ h1 => (h1.blk b300).range) ?_
  refine f_us #[.agg (Us r7).toArray, .agg (Us r12).toArray] (QB · ⟨fof bx, fof bY⟩) rfl rfl rfl own_at (fun w1 h1 => at_f v7 v12 on_base w1) rfl rfl fun r17 v17 => ?_
  refine f_set g1 _ ((Us r17).toArray) rfl rfl rfl rfl rfl b1 (size_P v17.len) ((us_size pz_len).trans (us_size v17.len).symm) (Us_oneA _) fun w4 hw4 c4 => ?_
  replace b200 := (b200.later hw4).rowFar (Ne.symm n1_200) ((Us r17).toArray)
  replace b300 := (b300.later hw4).rowFar (Ne.symm n1_300) ((Us r17).toArray)
  replace b1 := c4
  replace hU := up_row (hU.step hw4) q1 ((Us r17).toArray)
  clear hw4 c4
  generalize w4.setRow g1 ((Us r17).toArray) = W4 at *
  refine l_nil ?_
  refine hK _ _ ?_
  clear hK K
  refine c_ret (k_ret_row g1 _ rfl rfl b1 Tryd.underlying29 rfl (size_P v17.len) ⟨_, v17, rfl, hU⟩)
end Go.Proofs.YtgmiaaapaiccdaaDoor
/-
  THE PROGRAM'S POINTS: whole, addend, plus, Neg, Add.
-/
namespace Go.Proofs.YtgmiaaapaiccdaaDoor
open Go.RowKit Go.IntWalk Nums

theorem neg_mul1 {n : Nat} [NeZero n] (t z : Fin n) : (0 - t) * z = 0 - t * z := by grind only
theorem neg_mul2 {n : Nat} [NeZero n] (x y : Fin n) : (0 - x) * y = 0 - x * y := neg_mul1 x y
theorem _root_.Nums.Ed.Rep.neg0 {n : Nat} [NeZero n] {X Y Z : Fin n} {P : Ed.Pt n} (r : Ed.Rep X Y Z P) : Ed.Rep (0 - X) Y Z (Ed.neg P) := by
  have h := r.neg
  have e : -X = 0 - X := by grind only
  rwa [e] at h

set_option maxRecDepth 100000 in
set_option maxHeartbeats 1000000 in
theorem pwhole_f {l : List Nat} {A : Ed.Pt p} (hP : PB l A) (w : World) :
    Calls Tryd.prog 50 #[.agg (Us l).toArray] w fun e w' => ∃ r, QB r A ∧ e = .returned (.agg (Us r).toArray) ∧ Below w.heap.size w w' := by
  refine calls_F (vs := [.agg (Us l).toArray]) 10 Tryd.func50 rfl (by rw [Tryd.ntmps50]; rfl) ?_
  have hl := hP.len
  refine c_seq fun K hK => ?_
  refine c_lit ?_
  refine l_boxA ((Us l).toArray) rfl rfl rfl rfl rfl fun W1 g1 hw1 hg1 b1 => ?_
  have q1 : w.heap.size ≤ g1 := by rw [hg1]; exact Nat.le_refl _
  clear hg1
  have hU : Up w _ := hw1
  refine l_allocA ((Us pz).toArray) rfl rfl rfl rfl (by kernel_rfl) fun W2 g2 hw2 hg2 b2 => ?_
  have q2 : w.heap.size ≤ g2 := by rw [hg2]; exact hU.size
  have n1_2 : g1 ≠ g2 := by have := b1.lt; omega
  clear hg2
  replace b1 := b1.later hw2
  replace hU := hU.step hw2
  refine l_nil ?_
  refine hK _ _ ?_
  clear hK K
  refine c_seq fun K0 hK0 => ?_
  refine c_seq fun K hK => ?_
  rcases hP with ⟨rfl, rfl⟩ | hQ
  · refine c_qF ?_
    refine f_pt g1 0 hl rfl rfl rfl rfl rfl (fun _ h1 => (h1.blk b1).range) ?_
    refine f_build [] (Us pz).toArray rfl rfl rfl rfl rfl builtP0 ?_
    refine f_eq (Us pz).toArray (Us pz).toArray rfl rfl rfl rfl rfl rfl (by kernel_rfl) eq_pz ?_
    refine f_end fun w9 hw9 => hK _ _ ?_
    clear hK K
    replace b1 := b1.later hw9
    replace b2 := b2.later hw9
    replace hU := hU.step hw9
    refine c_cond true rfl ?_
    rw [if_pos rfl]
    refine c_seq fun K2 hK2 => ?_
    refine c_tF 3 ?_
    refine f_build [] (Us zl).toArray rfl rfl rfl rfl rfl built_zero ?_
    refine f_us #[.int .u64 1] (EB · 1) rfl rfl rfl own_small (fun w1 _ => small1_f w1) rfl rfl fun r7 v7 => ?_
    refine f_us #[.agg (Us zl).toArray, .agg (Us r7).toArray] (QB · ⟨0, 1⟩) rfl rfl rfl own_at (fun w1 h1 => at_f eb_zero v7 Ed.on_zero w1) rfl rfl fun r8 v8 => ?_
    refine f_set g2 _ ((Us r8).toArray) rfl rfl rfl rfl rfl b2 (size_P v8.len) ((us_size pz_len).trans (us_size v8.len).symm) (Us_oneA _) fun w3 hw3 c3 => ?_
    replace b1 := (b1.later hw3).rowFar n1_2 ((Us r8).toArray)
    replace b2 := c3
    replace hU := up_row (hU.step hw3) q2 ((Us r8).toArray)
    clear hw3 c3
    generalize w3.setRow g2 ((Us r8).toArray) = W3 at *
    refine l_nil ?_
    refine hK2 _ _ ?_
    clear hK2 K2
    refine c_ret (k_then_ret (k_ret_row g2 _ rfl rfl b2 Tryd.underlying29 rfl (size_P v8.len) ⟨_, v8, rfl, hU⟩))
  · refine c_qF ?_
    refine f_pt g1 0 hl rfl rfl rfl rfl rfl (fun _ h1 => (h1.blk b1).range) ?_
    refine f_build [] (Us pz).toArray rfl rfl rfl rfl rfl builtP0 ?_
    refine f_eq (Us l).toArray (Us pz).toArray rfl rfl rfl rfl rfl rfl (by kernel_rfl) (ne_pz hQ) ?_
    refine f_end fun w9 hw9 => hK _ _ ?_
    clear hK K
    replace b1 := b1.later hw9
    replace b2 := b2.later hw9
    replace hU := hU.step hw9
    refine c_cond false rfl ?_
    rw [if_neg (by decide)]
    refine c_skip ?_
    refine hK0 _ _ ?_
    clear hK0 K0
    refine c_seq fun K hK => ?_
    refine c_tF 1 ?_
    refine f_pt g1 0 hl rfl rfl rfl rfl rfl (fun _ h1 => (h1.blk b1).range) ?_
    refine f_set g2 _ ((Us l).toArray) rfl rfl rfl rfl rfl b2 (size_P hl) ((us_size pz_len).trans (us_size hl).symm) (Us_oneA _) fun w3 hw3 c3 => ?_
    replace b1 := (b1.later hw3).rowFar n1_2 ((Us l).toArray)
    replace b2 := c3
    replace hU := up_row (hU.step hw3) q2 ((Us l).toArray)
    clear hw3 c3
    generalize w3.setRow g2 ((Us l).toArray) = W3 at *
    refine l_nil ?_
    refine hK _ _ ?_
    clear hK K
    refine c_ret (k_ret_row g2 _ rfl rfl b2 Tryd.underlying29 rfl (size_P hl) ⟨_, hQ, rfl, hU⟩)

set_option maxRecDepth 100000 in
set_option maxHeartbeats 1000000 in
theorem addend_f {l : List Nat} {A : Ed.Pt p} (hP : PB l A) (w : World) (hT : Tw w) :
    Calls Tryd.prog 58 #[.agg (Us l).toArray] w fun e w' => ∃ r, AB r A ∧ e = .returned (.agg (Us r).toArray) ∧ Below w.heap.size w w' := by
  refine calls_F (vs := [.agg (Us l).toArray]) 28 Tryd.func58 rfl (by rw [Tryd.ntmps58]; rfl) ?_
  have hw0 := hT.lt
  refine c_seq fun K hK => ?_
  refine c_lit ?_
  refine l_boxA ((Us l).toArray) rfl rfl rfl rfl rfl fun W1 g1 hw1 hg1 b1 => ?_
  have q1 : w.heap.size ≤ g1 := by rw [hg1]; exact Nat.le_refl _
  clear hg1
  replace hT := hT.below hw1
  have hU : Up w _ := hw1
  refine l_allocA ((Us pz).toArray) rfl rfl rfl rfl (by kernel_rfl) fun W2 g2 hw2 hg2 b2 => ?_
  have q2 : w.heap.size ≤ g2 := by rw [hg2]; exact hU.size
  have n1_2 : g1 ≠ g2 := by have := b1.lt; omega
  clear hg2
  replace b1 := b1.later hw2
  replace hT := hT.below hw2
  replace hU := hU.step hw2
  refine l_nil ?_
  refine hK _ _ ?_
  clear hK K
  refine c_seq fun K hK => ?_
  refine c_tF 2 ?_
  refine f_pt g1 0 hP.len rfl rfl rfl rfl rfl (fun _ h1 => (h1.blk b1).range) ?_
  refine f_us #[.agg (Us l).toArray] (QB · A) rfl rfl rfl own_pwhole (fun w1 h1 => pwhole_f hP w1) rfl rfl fun r4 v4 => ?_
  refine f_set g1 _ ((Us r4).toArray) rfl rfl rfl rfl rfl b1 (size_P v4.len) ((us_size hP.len).trans (us_size v4.len).symm) (Us_oneA _) fun w3 hw3 c3 => ?_
  replace b2 := (b2.later hw3).rowFar (Ne.symm n1_2) ((Us r4).toArray)
  replace b1 := c3
  replace hT := (hT.below hw3).row (g := g1) (by have := hw0; omega) ((Us r4).toArray)
  replace hU := up_row (hU.step hw3) q1 ((Us r4).toArray)
  clear hw3 c3
  generalize w3.setRow g1 ((Us r4).toArray) = W3 at *
  obtain ⟨⟨X1, Y1, Z1, T1, x1, y1, z1, t1, rfl, hX1, hY1, hZ1, hT1, hR1, ht1⟩, hon1⟩ := v4
  refine l_nil ?_
  refine hK _ _ ?_
  clear hK K
  refine c_seq fun K hK => ?_
  refine c_t 23 (by decide) (by kernel_rfl) (tail_ok (by kernel_rfl)) (fun _ _ d _ _ h => by cases d <;> exact h) ?_
  refine f_fld g1 0 5 rfl rfl rfl rfl rfl (fun w1 => cpf1 _ w1) ?_
  refine f_el g1 5 hY1.len rfl rfl rfl rfl rfl (fun _ h1 => (h1.blk b1).cy hX1.len) ?_
  refine f_fld g1 0 0 rfl rfl rfl rfl rfl (fun w1 => cpf0 _ w1) ?_
  refine f_el g1 0 hX1.len rfl rfl rfl rfl rfl (fun _ h1 => (h1.blk b1).cx) ?_
  refine f_us #[.agg (Us Y1).toArray, .agg (Us X1).toArray] (EB · (y1 + x1)) rfl rfl rfl own_eladd (fun w1 h1 => eladd_f hY1 hX1 w1) rfl rfl fun r9 v9 => ?_
  refine f_fld g1 0 5 rfl rfl rfl rfl rfl (fun w1 => cpf1 _ w1) ?_
  refine f_el g1 5 hY1.len rfl rfl rfl rfl rfl (fun _ h1 => (h1.blk b1).cy hX1.len) ?_
  refine f_fld g1 0 0 rfl rfl rfl rfl rfl (fun w1 => cpf0 _ w1) ?_
  refine f_el g1 0 hX1.len rfl rfl rfl rfl rfl (fun _ h1 => (h1.blk b1).cx) ?_
  refine f_us #[.agg (Us Y1).toArray, .agg (Us X1).toArray] (EB · (y1 - x1)) rfl rfl rfl own_elsub (fun w1 h1 => elsub_f hY1 hX1 w1 (hT.below h1)) rfl rfl fun r14 v14 => ?_
  refine f_fld g1 0 10 rfl rfl rfl rfl rfl (fun w1 => cpf2 _ w1) ?_
  refine f_el g1 10 hZ1.len rfl rfl rfl rfl rfl (fun _ h1 => (h1.blk b1).cz hX1.len hY1.len) ?_
  refine f_fld g1 0 10 rfl rfl rfl rfl rfl (fun w1 => cpf2 _ w1) ?_
  refine f_el g1 10 hZ1.len rfl rfl rfl rfl rfl (fun _ h1 => (h1.blk b1).cz hX1.len hY1.len) ?_
  refine f_us #[.agg (Us Z1).toArray, .agg (Us Z1).toArray] (EB · (z1 + z1)) rfl rfl rfl own_eladd (fun w1 h1 => eladd_f hZ1 hZ1 w1) rfl rfl fun r19 v19 => ?_
  refine f_fld g1 0 15 rfl rfl rfl rfl rfl (fun w1 => cpf3 _ w1) ?_
  refine f_el g1 15 hT1.len rfl rfl rfl rfl rfl (fun _ h1 => (h1.blk b1).ct hX1.len hY1.len hZ1.len) ?_
  refine f_fld g1 0 15 rfl rfl rfl rfl rfl (fun w1 => cpf3 _ w1) ?_
  refine f_el g1 15 hT1.len rfl rfl rfl rfl rfl (fun _ h1 => (h1.blk b1).ct hX1.len hY1.len hZ1.len) ?_
  refine f_us #[.agg (Us T1).toArray, .agg (Us T1).toArray] (EB · (t1 + t1)) rfl rfl rfl own_eladd (fun w1 h1 => eladd_f hT1 hT1 w1) rfl rfl fun r24 v24 => ?_
  refine f_us #[] (EB · dd) rfl rfl rfl own_factor (fun w1 h1 => factor_f w1) rfl rfl fun r25 v25 => ?_
  refine f_us #[.agg (Us r24).toArray, .agg (Us r25).toArray] (EB · ((t1 + t1) * dd)) rfl rfl rfl own_elmul (fun w1 h1 => elmul_f v24 v25 w1) rfl rfl fun r26 v26 => ?_
  refine f_build [(0, .agg (Us r9).toArray), (1, .agg (Us r14).toArray), (2, .agg (Us r19).toArray), (3, .agg (Us r26).toArray)] (Us (pc r9 r14 r19 r26)).toArray rfl rfl rfl rfl rfl (builtA4 v9.len v14.len v19.len v26.len) ?_
  refine f_set g2 _ ((Us (pc r9 r14 r19 r26)).toArray) rfl rfl rfl rfl rfl b2 (size_A (pc_len v9.len v14.len v19.len v26.len)) ((us_size pz_len).trans (us_size (pc_len v9.len v14.len v19.len v26.len)).symm) (Us_oneA _) fun w4 hw4 c4 => ?_
  replace b1 := (b1.later hw4).rowFar n1_2 ((Us (pc r9 r14 r19 r26)).toArray)
  replace b2 := c4
  replace hT := (hT.below hw4).row (g := g2) (by have := hw0; omega) ((Us (pc r9 r14 r19 r26)).toArray)
  replace hU := up_row (hU.step hw4) q2 ((Us (pc r9 r14 r19 r26)).toArray)
  clear hw4 c4
  generalize w4.setRow g2 ((Us (pc r9 r14 r19 r26)).toArray) = W4 at *
  refine l_nil ?_
  refine hK _ _ ?_
  clear hK K
  refine c_ret (k_ret_row g2 _ rfl rfl b2 Tryd.underlying84 rfl (size_A (pc_len v9.len v14.len v19.len v26.len)) ⟨_, ⟨⟨_, _, _, _, x1, y1, z1, t1, rfl, v9, v14, v19, v26, hR1, ht1⟩, hon1⟩, rfl, hU⟩)

set_option maxRecDepth 100000 in
set_option maxHeartbeats 1000000 in
theorem cplus_f {l m : List Nat} {A B : Ed.Pt p} (hP : PB l A) (hM : AB m B) (w : World) (hT : Tw w) :
    Calls Tryd.prog 57 #[.agg (Us l).toArray, .agg (Us m).toArray] w fun e w' => ∃ r, QB r (Ed.add dd A B) ∧ e = .returned (.agg (Us r).toArray) ∧ Below w.heap.size w w' := by
  refine calls_F (vs := [.agg (Us l).toArray, .agg (Us m).toArray]) 66 Tryd.func57 rfl (by rw [Tryd.ntmps57]; rfl) ?_
  have hw0 := hT.lt
  have hml := hM.len
  obtain ⟨⟨U, V, Z2, T2, x2, y2, z2, t2, rfl, hU2, hV2, hZ2, hT2, hR2, ht2⟩, hon2⟩ := hM
  refine c_seq fun K hK => ?_
  refine c_lit ?_
  refine l_boxA ((Us l).toArray) rfl rfl rfl rfl rfl fun W1 g1 hw1 hg1 b1 => ?_
  have q1 : w.heap.size ≤ g1 := by rw [hg1]; exact Nat.le_refl _
  clear hg1
  replace hT := hT.below hw1
  have hU : Up w _ := hw1
  refine l_boxA ((Us (pc U V Z2 T2)).toArray) rfl rfl rfl rfl rfl fun W2 g2 hw2 hg2 b2 => ?_
  have q2 : w.heap.size ≤ g2 := by rw [hg2]; exact hU.size
  have n1_2 : g1 ≠ g2 := by have := b1.lt; omega
  clear hg2
  replace b1 := b1.later hw2
  replace hT := hT.below hw2
  replace hU := hU.step hw2
  refine l_allocA ((Us pz).toArray) rfl rfl rfl rfl (by kernel_rfl) fun W3 g3 hw3 hg3 b3 => ?_
  have q3 : w.heap.size ≤ g3 := by rw [hg3]; exact hU.size
  have n1_3 : g1 ≠ g3 := by have := b1.lt; omega
  have n2_3 : g2 ≠ g3 := by have := b2.lt; omega
  clear hg3
  replace b1 := b1.later hw3
  replace b2 := b2.later hw3
  replace hT := hT.below hw3
  replace hU := hU.step hw3
  refine l_nil ?_
  refine hK _ _ ?_
  clear hK K
  refine c_seq fun K hK => ?_
  refine c_tF 2 ?_
  refine f_pt g1 0 hP.len rfl rfl rfl rfl rfl (fun _ h1 => (h1.blk b1).range) ?_
  refine f_us #[.agg (Us l).toArray] (QB · A) rfl rfl rfl own_pwhole (fun w1 h1 => pwhole_f hP w1) rfl rfl fun r14 v14 => ?_
  refine f_set g1 _ ((Us r14).toArray) rfl rfl rfl rfl rfl b1 (size_P v14.len) ((us_size hP.len).trans (us_size v14.len).symm) (Us_oneA _) fun w4 hw4 c4 => ?_
  replace b2 := (b2.later hw4).rowFar (Ne.symm n1_2) ((Us r14).toArray)
  replace b3 := (b3.later hw4).rowFar (Ne.symm n1_3) ((Us r14).toArray)
  replace b1 := c4
  replace hT := (hT.below hw4).row (g := g1) (by have := hw0; omega) ((Us r14).toArray)
  replace hU := up_row (hU.step hw4) q1 ((Us r14).toArray)
  clear hw4 c4
  generalize w4.setRow g1 ((Us r14).toArray) = W4 at *
  obtain ⟨⟨X1, Y1, Z1, T1, x1, y1, z1, t1, rfl, hX1, hY1, hZ1, hT1, hR1, ht1⟩, hon1⟩ := v14
  refine l_nil ?_
  refine hK _ _ ?_
  clear hK K
  refine c_seq fun K hK => ?_
  refine c_new 16 [nvE 5, nvE 6] (by decide) (by decide) ⟨⟨rfl, rfl, rfl, rfl, by kernel_rfl⟩, ⟨rfl, rfl, rfl, rfl, by kernel_rfl⟩, trivial⟩ (by kernel_rfl) (tail_ok (by kernel_rfl)) (by kernel_rfl) (fun _ _ d _ _ h => by cases d <;> exact h) ?_
  refine f_fld g1 0 5 rfl rfl rfl rfl rfl (fun w1 => cpf1 _ w1) ?_
  refine f_el g1 5 hY1.len rfl rfl rfl rfl rfl (fun _ h1 => (h1.blk b1).cy hX1.len) ?_
  refine f_fld g1 0 0 rfl rfl rfl rfl rfl (fun w1 => cpf0 _ w1) ?_
  refine f_el g1 0 hX1.len rfl rfl rfl rfl rfl (fun _ h1 => (h1.blk b1).cx) ?_
  refine f_us #[.agg (Us Y1).toArray, .agg (Us X1).toArray] (EB · (y1 - x1)) rfl rfl rfl own_elsub (fun w1 h1 => elsub_f hY1 hX1 w1 (hT.below h1)) rfl rfl fun r19 v19 => ?_
  refine f_fld g2 0 5 rfl rfl rfl rfl rfl (fun w1 => caf1 _ w1) ?_
  refine f_el g2 5 hV2.len rfl rfl rfl rfl rfl (fun _ h1 => (h1.blk b2).cy hU2.len) ?_
  refine f_us #[.agg (Us r19).toArray, .agg (Us V).toArray] (EB · ((y1 - x1) * (y2 - x2))) rfl rfl rfl own_elmul (fun w1 h1 => elmul_f v19 hV2 w1) rfl rfl fun r22 v22 => ?_
  refine f_fld g1 0 5 rfl rfl rfl rfl rfl (fun w1 => cpf1 _ w1) ?_
  refine f_el g1 5 hY1.len rfl rfl rfl rfl rfl (fun _ h1 => (h1.blk b1).cy hX1.len) ?_
  refine f_fld g1 0 0 rfl rfl rfl rfl rfl (fun w1 => cpf0 _ w1) ?_
  refine f_el g1 0 hX1.len rfl rfl rfl rfl rfl (fun _ h1 => (h1.blk b1).cx) ?_
  refine f_us #[.agg (Us Y1).toArray, .agg (Us X1).toArray] (EB · (y1 + x1)) rfl rfl rfl own_eladd (fun w1 h1 => eladd_f hY1 hX1 w1) rfl rfl fun r27 v27 => ?_
  refine f_fld g2 0 0 rfl rfl rfl rfl rfl (fun w1 => caf0 _ w1) ?_
  refine f_el g2 0 hU2.len rfl rfl rfl rfl rfl (fun _ h1 => (h1.blk b2).cx) ?_
  refine f_us #[.agg (Us r27).toArray, .agg (Us U).toArray] (EB · ((y1 + x1) * (y2 + x2))) rfl rfl rfl own_elmul (fun w1 h1 => elmul_f v27 hU2 w1) rfl rfl fun r30 v30 => ?_
  refine f_new [.tmp 22, .tmp 30] [(Us r22).toArray, (Us r30).toArray] ⟨rfl, rfl, trivial⟩ (by decide) ⟨⟨rfl, rfl, rfl⟩, ⟨rfl, rfl, rfl⟩, rfl⟩ ⟨⟨rfl, (us_size zl_len).trans (us_size v22.len).symm, size_E v22.len, Us_oneA _⟩, ⟨rfl, (us_size zl_len).trans (us_size v30.len).symm, size_E v30.len, Us_oneA _⟩, trivial⟩ fun f5 W5 hg5 hd5 hw5 hb5 => ?_
  have b500 : Blk W5 (f5 0) 27 ((Us r22).toArray) := hb5.1
  have b501 : Blk W5 (f5 1) 27 ((Us r30).toArray) := hb5.2.1
  clear hb5
  have q500 : w.heap.size ≤ f5 0 := Nat.le_trans hU.size (hg5 0 (by decide))
  have n1_500 : g1 ≠ f5 0 := by have := b1.lt; have := hg5 0 (by decide); omega
  have n2_500 : g2 ≠ f5 0 := by have := b2.lt; have := hg5 0 (by decide); omega
  have n3_500 : g3 ≠ f5 0 := by have := b3.lt; have := hg5 0 (by decide); omega
  have q501 : w.heap.size ≤ f5 1 := Nat.le_trans hU.size (hg5 1 (by decide))
  have n1_501 : g1 ≠ f5 1 := by have := b1.lt; have := hg5 1 (by decide); omega
  have n2_501 : g2 ≠ f5 1 := by have := b2.lt; have := hg5 1 (by decide); omega
  have n3_501 : g3 ≠ f5 1 := by have := b3.lt; have := hg5 1 (by decide); omega
  have n500_501 : f5 0 ≠ f5 1 := hd5 0 1 (by decide) (by decide) (by decide)
  replace b1 := b1.later hw5
  replace b2 := b2.later hw5
  replace b3 := b3.later hw5
  replace hT := hT.below hw5
  replace hU := hU.step hw5
  clear hg5 hd5 hw5
  generalize hf500 : f5 0 = g500 at *
  generalize hf501 : f5 1 = g501 at *
  simp only [ptrs, Nat.reduceAdd, hf500, hf501]
  clear hf500 hf501 f5
  refine l_nil ?_
  refine k_sub (E' := [(2, .pointer (some ⟨g1, 0, none⟩)), (3, .pointer (some ⟨g2, 0, none⟩)), (4, .pointer (some ⟨g3, 0, none⟩)), (5, .pointer (some ⟨g500, 0, none⟩)), (6, .pointer (some ⟨g501, 0, none⟩))]) ⟨rfl, rfl, rfl, rfl, rfl, trivial⟩ ?_
  refine hK _ _ ?_
  clear hK K
  refine c_seq fun K hK => ?_
  refine c_new 10 [nvE 7, nvE 8] (by decide) (by decide) ⟨⟨rfl, rfl, rfl, rfl, by kernel_rfl⟩, ⟨rfl, rfl, rfl, rfl, by kernel_rfl⟩, trivial⟩ (by kernel_rfl) (tail_ok (by kernel_rfl)) (by kernel_rfl) (fun _ _ d _ _ h => by cases d <;> exact h) ?_
  refine f_fld g1 0 10 rfl rfl rfl rfl rfl (fun w1 => cpf2 _ w1) ?_
  refine f_el g1 10 hZ1.len rfl rfl rfl rfl rfl (fun _ h1 => (h1.blk b1).cz hX1.len hY1.len) ?_
  refine f_fld g2 0 10 rfl rfl rfl rfl rfl (fun w1 => caf2 _ w1) ?_
  refine f_el g2 10 hZ2.len rfl rfl rfl rfl rfl (fun _ h1 => (h1.blk b2).cz hU2.len hV2.len) ?_
  refine f_us #[.agg (Us Z1).toArray, .agg (Us Z2).toArray] (EB · (z1 * (z2 + z2))) rfl rfl rfl own_elmul (fun w1 h1 => elmul_f hZ1 hZ2 w1) rfl rfl fun r35 v35 => ?_
  refine f_fld g1 0 15 rfl rfl rfl rfl rfl (fun w1 => cpf3 _ w1) ?_
  refine f_el g1 15 hT1.len rfl rfl rfl rfl rfl (fun _ h1 => (h1.blk b1).ct hX1.len hY1.len hZ1.len) ?_
  refine f_fld g2 0 15 rfl rfl rfl rfl rfl (fun w1 => caf3 _ w1) ?_
  refine f_el g2 15 hT2.len rfl rfl rfl rfl rfl (fun _ h1 => (h1.blk b2).ct hU2.len hV2.len hZ2.len) ?_
  refine f_us #[.agg (Us T1).toArray, .agg (Us T2).toArray] (EB · (t1 * ((t2 + t2) * dd))) rfl rfl rfl own_elmul (fun w1 h1 => elmul_f hT1 hT2 w1) rfl rfl fun r40 v40 => ?_
  refine f_new [.tmp 35, .tmp 40] [(Us r35).toArray, (Us r40).toArray] ⟨rfl, rfl, trivial⟩ (by decide) ⟨⟨rfl, rfl, rfl⟩, ⟨rfl, rfl, rfl⟩, rfl⟩ ⟨⟨rfl, (us_size zl_len).trans (us_size v35.len).symm, size_E v35.len, Us_oneA _⟩, ⟨rfl, (us_size zl_len).trans (us_size v40.len).symm, size_E v40.len, Us_oneA _⟩, trivial⟩ fun f6 W6 hg6 hd6 hw6 hb6 => ?_
  have b600 : Blk W6 (f6 0) 27 ((Us r35).toArray) := hb6.1
  have b601 : Blk W6 (f6 1) 27 ((Us r40).toArray) := hb6.2.1
  clear hb6
  have q600 : w.heap.size ≤ f6 0 := Nat.le_trans hU.size (hg6 0 (by decide))
  have n1_600 : g1 ≠ f6 0 := by have := b1.lt; have := hg6 0 (by decide); omega
  have n2_600 : g2 ≠ f6 0 := by have := b2.lt; have := hg6 0 (by decide); omega
  have n3_600 : g3 ≠ f6 0 := by have := b3.lt; have := hg6 0 (by decide); omega
  have n500_600 : g500 ≠ f6 0 := by have := b500.lt; have := hg6 0 (by decide); omega
  have n501_600 : g501 ≠ f6 0 := by have := b501.lt; have := hg6 0 (by decide); omega
  have q601 : w.heap.size ≤ f6 1 := Nat.le_trans hU.size (hg6 1 (by decide))
  have n1_601 : g1 ≠ f6 1 := by have := b1.lt; have := hg6 1 (by decide); omega
  have n2_601 : g2 ≠ f6 1 := by have := b2.lt; have := hg6 1 (by decide); omega
  have n3_601 : g3 ≠ f6 1 := by have := b3.lt; have := hg6 1 (by decide); omega
  have n500_601 : g500 ≠ f6 1 := by have := b500.lt; have := hg6 1 (by decide); omega
  have n501_601 : g501 ≠ f6 1 := by have := b501.lt; have := hg6 1 (by decide); omega
  have n600_601 : f6 0 ≠ f6 1 := hd6 0 1 (by decide) (by decide) (by decide)
  replace b1 := b1.later hw6
  replace b2 := b2.later hw6
  replace b3 := b3.later hw6
  replace b500 := b500.later hw6
  replace b501 := b501.later hw6
  replace hT := hT.below hw6
  replace hU := hU.step hw6
  clear hg6 hd6 hw6
  generalize hf600 : f6 0 = g600 at *
  generalize hf601 : f6 1 = g601 at *
  simp only [ptrs, Nat.reduceAdd, hf600, hf601]
  clear hf600 hf601 f6
  refine l_nil ?_
  refine k_sub (E' := [(4, .pointer (some ⟨g3, 0, none⟩)), (5, .pointer (some ⟨g500, 0, none⟩)), (6, .pointer (some ⟨g501, 0, none⟩)), (7, .pointer (some ⟨g600, 0, none⟩)), (8, .pointer (some ⟨g601, 0, none⟩))]) ⟨rfl, rfl, rfl, rfl, rfl, trivial⟩ ?_
  refine hK _ _ ?_
  clear hK K
  refine c_seq fun K hK => ?_
  refine c_new 12 [nvE 9, nvE 10, nvE 11, nvE 12] (by decide) (by decide) ⟨⟨rfl, rfl, rfl, rfl, by kernel_rfl⟩, ⟨rfl, rfl, rfl, rfl, by kernel_rfl⟩, ⟨rfl, rfl, rfl, rfl, by kernel_rfl⟩, ⟨rfl, rfl, rfl, rfl, by kernel_rfl⟩, trivial⟩ (by kernel_rfl) (tail_ok (by kernel_rfl)) (by kernel_rfl) (fun _ _ d _ _ h => by cases d <;> exact h) ?_
  refine f_el g501 0 v30.len rfl rfl rfl rfl rfl (fun _ h1 => (h1.blk b501).range) ?_
  refine f_el g500 0 v22.len rfl rfl rfl rfl rfl (fun _ h1 => (h1.blk b500).range) ?_
  refine f_us #[.agg (Us r30).toArray, .agg (Us r22).toArray] (EB · (((y1 + x1) * (y2 + x2)) - ((y1 - x1) * (y2 - x2)))) rfl rfl rfl own_elsub (fun w1 h1 => elsub_f v30 v22 w1 (hT.below h1)) rfl rfl fun r43 v43 => ?_
  refine f_el g600 0 v35.len rfl rfl rfl rfl rfl (fun _ h1 => (h1.blk b600).range) ?_
  refine f_el g601 0 v40.len rfl rfl rfl rfl rfl (fun _ h1 => (h1.blk b601).range) ?_
  refine f_us #[.agg (Us r35).toArray, .agg (Us r40).toArray] (EB · ((z1 * (z2 + z2)) - (t1 * ((t2 + t2) * dd)))) rfl rfl rfl own_elsub (fun w1 h1 => elsub_f v35 v40 w1 (hT.below h1)) rfl rfl fun r46 v46 => ?_
  refine f_el g600 0 v35.len rfl rfl rfl rfl rfl (fun _ h1 => (h1.blk b600).range) ?_
  refine f_el g601 0 v40.len rfl rfl rfl rfl rfl (fun _ h1 => (h1.blk b601).range) ?_
  refine f_us #[.agg (Us r35).toArray, .agg (Us r40).toArray] (EB · ((z1 * (z2 + z2)) + (t1 * ((t2 + t2) * dd)))) rfl rfl rfl own_eladd (fun w1 h1 => eladd_f v35 v40 w1) rfl rfl fun r49 v49 => ?_
  refine f_el g501 0 v30.len rfl rfl rfl rfl rfl (fun _ h1 => (h1.blk b501).range) ?_
  refine f_el g500 0 v22.len rfl rfl rfl rfl rfl (fun _ h1 => (h1.blk b500).range) ?_
  refine f_us #[.agg (Us r30).toArray, .agg (Us r22).toArray] (EB · (((y1 + x1) * (y2 + x2)) + ((y1 - x1) * (y2 - x2)))) rfl rfl rfl own_eladd (fun w1 h1 => eladd_f v30 v22 w1) rfl rfl fun r52 v52 => ?_
  refine f_new [.tmp 43, .tmp 46, .tmp 49, .tmp 52] [(Us r43).toArray, (Us r46).toArray, (Us r49).toArray, (Us r52).toArray] ⟨rfl, rfl, rfl, rfl, trivial⟩ (by decide) ⟨⟨rfl, rfl, rfl⟩, ⟨rfl, rfl, rfl⟩, ⟨rfl, rfl, rfl⟩, ⟨rfl, rfl, rfl⟩, rfl⟩ ⟨⟨rfl, (us_size zl_len).trans (us_size v43.len).symm, size_E v43.len, Us_oneA _⟩, ⟨rfl, (us_size zl_len).trans (us_size v46.len).symm, size_E v46.len, Us_oneA _⟩, ⟨rfl, (us_size zl_len).trans (us_size v49.len).symm, size_E v49.len, Us_oneA _⟩, ⟨rfl, (us_size zl_len).trans (us_size v52.len).symm, size_E v52.len, Us_oneA _⟩, trivial⟩ fun f7 W7 hg7 hd7 hw7 hb7 => ?_
  have b700 : Blk W7 (f7 0) 27 ((Us r43).toArray) := hb7.1
  have b701 : Blk W7 (f7 1) 27 ((Us r46).toArray) := hb7.2.1
  have b702 : Blk W7 (f7 2) 27 ((Us r49).toArray) := hb7.2.2.1
  have b703 : Blk W7 (f7 3) 27 ((Us r52).toArray) := hb7.2.2.2.1
  clear hb7
  have q700 : w.heap.size ≤ f7 0 := Nat.le_trans hU.size (hg7 0 (by decide))
  have n1_700 : g1 ≠ f7 0 := by have := b1.lt; have := hg7 0 (by decide); omega
  have n2_700 : g2 ≠ f7 0 := by have := b2.lt; have := hg7 0 (by decide); omega
  have n3_700 : g3 ≠ f7 0 := by have := b3.lt; have := hg7 0 (by decide); omega
  have n500_700 : g500 ≠ f7 0 := by have := b500.lt; have := hg7 0 (by decide); omega
  have n501_700 : g501 ≠ f7 0 := by have := b501.lt; have := hg7 0 (by decide); omega
  have n600_700 : g600 ≠ f7 0 := by have := b600.lt; have := hg7 0 (by decide); omega
  have n601_700 : g601 ≠ f7 0 := by have := b601.lt; have := hg7 0 (by decide); omega
  have q701 : w.heap.size ≤ f7 1 := Nat.le_trans hU.size (hg7 1 (by decide))
  have n1_701 : g1 ≠ f7 1 := by have := b1.lt; have := hg7 1 (by decide); omega
  have n2_701 : g2 ≠ f7 1 := by have := b2.lt; have := hg7 1 (by decide); omega
  have n3_701 : g3 ≠ f7 1 := by have := b3.lt; have := hg7 1 (by decide); omega
  have n500_701 : g500 ≠ f7 1 := by have := b500.lt; have := hg7 1 (by decide); omega
  have n501_701 : g501 ≠ f7 1 := by have := b501.lt; have := hg7 1 (by decide); omega
  have n600_701 : g600 ≠ f7 1 := by have := b600.lt; have := hg7 1 (by decide); omega
  have n601_701 : g601 ≠ f7 1 := by have := b601.lt; have := hg7 1 (by decide); omega
  have n700_701 : f7 0 ≠ f7 1 := hd7 0 1 (by decide) (by decide) (by decide)
  have q702 : w.heap.size ≤ f7 2 := Nat.le_trans hU.size (hg7 2 (by decide))
  have n1_702 : g1 ≠ f7 2 := by have := b1.lt; have := hg7 2 (by decide); omega
  have n2_702 : g2 ≠ f7 2 := by have := b2.lt; have := hg7 2 (by decide); omega
  have n3_702 : g3 ≠ f7 2 := by have := b3.lt; have := hg7 2 (by decide); omega
  have n500_702 : g500 ≠ f7 2 := by have := b500.lt; have := hg7 2 (by decide); omega
  have n501_702 : g501 ≠ f7 2 := by have := b501.lt; have := hg7 2 (by decide); omega
  have n600_702 : g600 ≠ f7 2 := by have := b600.lt; have := hg7 2 (by decide); omega
  have n601_702 : g601 ≠ f7 2 := by have := b601.lt; have := hg7 2 (by decide); omega
  have n700_702 : f7 0 ≠ f7 2 := hd7 0 2 (by decide) (by decide) (by decide)
  have n701_702 : f7 1 ≠ f7 2 := hd7 1 2 (by decide) (by decide) (by decide)
  have q703 : w.heap.size ≤ f7 3 := Nat.le_trans hU.size (hg7 3 (by decide))
  have n1_703 : g1 ≠ f7 3 := by have := b1.lt; have := hg7 3 (by decide); omega
  have n2_703 : g2 ≠ f7 3 := by have := b2.lt; have := hg7 3 (by decide); omega
  have n3_703 : g3 ≠ f7 3 := by have := b3.lt; have := hg7 3 (by decide); omega
  have n500_703 : g500 ≠ f7 3 := by have := b500.lt; have := hg7 3 (by decide); omega
  have n501_703 : g501 ≠ f7 3 := by have := b501.lt; have := hg7 3 (by decide); omega
  have n600_703 : g600 ≠ f7 3 := by have := b600.lt; have := hg7 3 (by decide); omega
  have n601_703 : g601 ≠ f7 3 := by have := b601.lt; have := hg7 3 (by decide); omega
  have n700_703 : f7 0 ≠ f7 3 := hd7 0 3 (by decide) (by decide) (by decide)
  have n701_703 : f7 1 ≠ f7 3 := hd7 1 3 (by decide) (by decide) (by decide)
  have n702_703 : f7 2 ≠ f7 3 := hd7 2 3 (by decide) (by decide) (by decide)
  replace b1 := b1.later hw7
  replace b2 := b2.later hw7
  replace b3 := b3.later hw7
  replace b500 := b500.later hw7
  replace b501 := b501.later hw7
  replace b600 := b600.later hw7
  replace b601 := b601.later hw7
  replace hT := hT.below hw7
  replace hU := hU.step hw7
  clear hg7 hd7 hw7
  generalize hf700 : f7 0 = g700 at *
  generalize hf701 : f7 1 = g701 at *
  generalize hf702 : f7 2 = g702 at *
  generalize hf703 : f7 3 = g703 at *
  simp only [ptrs, Nat.reduceAdd, hf700, hf701, hf702, hf703]
  clear hf700 hf701 hf702 hf703 f7
  refine l_nil ?_
  refine k_sub (E' := [(4, .pointer (some ⟨g3, 0, none⟩)), (9, .pointer (some ⟨g700, 0, none⟩)), (10, .pointer (some ⟨g701, 0, none⟩)), (11, .pointer (some ⟨g702, 0, none⟩)), (12, .pointer (some ⟨g703, 0, none⟩))]) ⟨rfl, rfl, rfl, rfl, rfl, trivial⟩ ?_
  refine hK _ _ ?_
  clear hK K
  refine c_seq fun K hK => ?_
  refine c_t 13 (by decide) (by kernel_rfl) (tail_ok (by kernel_rfl)) (fun _ _ d _ _ h => by cases d <;> exact h) ?_
  refine f_el g700 0 v43.len rfl rfl rfl rfl rfl (fun _ h1 => (h1.blk b700).range) ?_
  refine f_el g701 0 v46.len rfl rfl rfl rfl rfl (fun _ h1 => (h1.blk b701).range) ?_
  refine f_us #[.agg (Us r43).toArray, .agg (Us r46).toArray] (EB · ((((y1 + x1) * (y2 + x2)) - ((y1 - x1) * (y2 - x2))) * ((z1 * (z2 + z2)) - (t1 * ((t2 + t2) * dd))))) rfl rfl rfl own_elmul (fun w1 h1 => elmul_f v43 v46 w1) rfl rfl fun r55 v55 => ?_
  refine f_el g702 0 v49.len rfl rfl rfl rfl rfl (fun _ h1 => (h1.blk b702).range) ?_
  refine f_el g703 0 v52.len rfl rfl rfl rfl rfl (fun _ h1 => (h1.blk b703).range) ?_
  refine f_us #[.agg (Us r49).toArray, .agg (Us r52).toArray] (EB · (((z1 * (z2 + z2)) + (t1 * ((t2 + t2) * dd))) * (((y1 + x1) * (y2 + x2)) + ((y1 - x1) * (y2 - x2))))) rfl rfl rfl own_elmul (fun w1 h1 => elmul_f v49 v52 w1) rfl rfl fun r58 v58 => ?_
  refine f_el g701 0 v46.len rfl rfl rfl rfl rfl (fun _ h1 => (h1.blk b701).range) ?_
  refine f_el g702 0 v49.len rfl rfl rfl rfl rfl (fun _ h1 => (h1.blk b702).range) ?_
  refine f_us #[.agg (Us r46).toArray, .agg (Us r49).toArray] (EB · (((z1 * (z2 + z2)) - (t1 * ((t2 + t2) * dd))) * ((z1 * (z2 + z2)) + (t1 * ((t2 + t2) * dd))))) rfl rfl rfl own_elmul (fun w1 h1 => elmul_f v46 v49 w1) rfl rfl fun r61 v61 => ?_
  refine f_el g700 0 v43.len rfl rfl rfl rfl rfl (fun _ h1 => (h1.blk b700).range) ?_
  refine f_el g703 0 v52.len rfl rfl rfl rfl rfl (fun _ h1 => (h1.blk b703).range) ?_
  refine f_us #[.agg (Us r43).toArray, .agg (Us r52).toArray] (EB · ((((y1 + x1) * (y2 + x2)) - ((y1 - x1) * (y2 - x2))) * (((y1 + x1) * (y2 + x2)) + ((y1 - x1) * (y2 - x2))))) rfl rfl rfl own_elmul (fun w1 h1 => elmul_f v43 v52 w1) rfl rfl fun r64 v64 => ?_
  refine f_build [(0, .agg (Us r55).toArray), (1, .agg (Us r58).toArray), (2, .agg (Us r61).toArray), (3, .agg (Us r64).toArray)] (Us (pc r55 r58 r61 r64)).toArray rfl rfl rfl rfl rfl (builtP4 v55.len v58.len v61.len v64.len) ?_
  refine f_set g3 _ ((Us (pc r55 r58 r61 r64)).toArray) rfl rfl rfl rfl rfl b3 (size_P (pc_len v55.len v58.len v61.len v64.len)) ((us_size pz_len).trans (us_size (pc_len v55.len v58.len v61.len v64.len)).symm) (Us_oneA _) fun w8 hw8 c8 => ?_
  replace b1 := (b1.later hw8).rowFar n1_3 ((Us (pc r55 r58 r61 r64)).toArray)
  replace b2 := (b2.later hw8).rowFar n2_3 ((Us (pc r55 r58 r61 r64)).toArray)
  replace b500 := (b500.later hw8).rowFar (Ne.symm n3_500) ((Us (pc r55 r58 r61 r64)).toArray)
  replace b501 := (b501.later hw8).rowFar (Ne.symm n3_501) ((Us (pc r55 r58 r61 r64)).toArray)
  replace b600 := (b600.later hw8).rowFar (Ne.symm n3_600) ((Us (pc r55 r58 r61 r64)).toArray)
  replace b601 := (b601.later hw8).rowFar (Ne.symm n3_601) ((Us (pc r55 r58 r61 r64)).toArray)
  replace b700 := (b700.later hw8).rowFar (Ne.symm n3_700) ((Us (pc r55 r58 r61 r64)).toArray)
  replace b701 := (b701.later hw8).rowFar (Ne.symm n3_701) ((Us (pc r55 r58 r61 r64)).toArray)
  replace b702 := (b702.later hw8).rowFar (Ne.symm n3_702) ((Us (pc r55 r58 r61 r64)).toArray)
  replace b703 := (b703.later hw8).rowFar (Ne.symm n3_703) ((Us (pc r55 r58 r61 r64)).toArray)
  replace b3 := c8
  replace hT := (hT.below hw8).row (g := g3) (by have := hw0; omega) ((Us (pc r55 r58 r61 r64)).toArray)
  replace hU := up_row (hU.step hw8) q3 ((Us (pc r55 r58 r61 r64)).toArray)
  clear hw8 c8
  generalize w8.setRow g3 ((Us (pc r55 r58 r61 r64)).toArray) = W8 at *
  refine l_nil ?_
  refine hK _ _ ?_
  clear hK K
  have hE := Ed.Rep.plus good hon1 hon2 hR1 ht1 hR2 ht2 rfl rfl rfl rfl rfl rfl rfl rfl
  refine c_ret (k_ret_row g3 _ rfl rfl b3 Tryd.underlying29 rfl (size_P (pc_len v55.len v58.len v61.len v64.len)) ⟨_, ⟨⟨_, _, _, _, _, _, _, _, rfl, v55, v58, v61, v64, hE.1, hE.2⟩, Ed.on_add good hon1 hon2⟩, rfl, hU⟩)

set_option maxRecDepth 100000 in
set_option maxHeartbeats 1000000 in
theorem cneg_f {l : List Nat} {A : Ed.Pt p} (hP : PB l A) (w : World) (hT : Tw w) :
    Calls Tryd.prog 26 #[.agg (Us l).toArray] w fun e w' => ∃ r, QB r (Ed.neg A) ∧ e = .returned (.agg (Us r).toArray) ∧ Below w.heap.size w w' := by
  refine calls_F (vs := [.agg (Us l).toArray]) 18 Tryd.func26 rfl (by rw [Tryd.ntmps26]; rfl) ?_
  have hw0 := hT.lt
  refine c_seq fun K hK => ?_
  refine c_lit ?_
  refine l_boxA ((Us l).toArray) rfl rfl rfl rfl rfl fun W1 g1 hw1 hg1 b1 => ?_
  have q1 : w.heap.size ≤ g1 := by rw [hg1]; exact Nat.le_refl _
  clear hg1
  replace hT := hT.below hw1
  have hU : Up w _ := hw1
  refine l_allocA ((Us pz).toArray) rfl rfl rfl rfl (by kernel_rfl) fun W2 g2 hw2 hg2 b2 => ?_
  have q2 : w.heap.size ≤ g2 := by rw [hg2]; exact hU.size
  have n1_2 : g1 ≠ g2 := by have := b1.lt; omega
  clear hg2
  replace b1 := b1.later hw2
  replace hT := hT.below hw2
  replace hU := hU.step hw2
  refine l_nil ?_
  refine hK _ _ ?_
  clear hK K
  refine c_seq fun K hK => ?_
  refine c_tF 2 ?_
  refine f_pt g1 0 hP.len rfl rfl rfl rfl rfl (fun _ h1 => (h1.blk b1).range) ?_
  refine f_us #[.agg (Us l).toArray] (QB · A) rfl rfl rfl own_pwhole (fun w1 h1 => pwhole_f hP w1) rfl rfl fun r4 v4 => ?_
  refine f_set g1 _ ((Us r4).toArray) rfl rfl rfl rfl rfl b1 (size_P v4.len) ((us_size hP.len).trans (us_size v4.len).symm) (Us_oneA _) fun w3 hw3 c3 => ?_
  replace b2 := (b2.later hw3).rowFar (Ne.symm n1_2) ((Us r4).toArray)
  replace b1 := c3
  replace hT := (hT.below hw3).row (g := g1) (by have := hw0; omega) ((Us r4).toArray)
  replace hU := up_row (hU.step hw3) q1 ((Us r4).toArray)
  clear hw3 c3
  generalize w3.setRow g1 ((Us r4).toArray) = W3 at *
  obtain ⟨⟨X1, Y1, Z1, T1, x1, y1, z1, t1, rfl, hX1, hY1, hZ1, hT1, hR1, ht1⟩, hon1⟩ := v4
  refine l_nil ?_
  refine hK _ _ ?_
  clear hK K
  refine c_seq fun K hK => ?_
  refine c_t 13 (by decide) (by kernel_rfl) (tail_ok (by kernel_rfl)) (fun _ _ d _ _ h => by cases d <;> exact h) ?_
  refine f_build [] (Us zl).toArray rfl rfl rfl rfl rfl built_zero ?_
  refine f_fld g1 0 0 rfl rfl rfl rfl rfl (fun w1 => cpf0 _ w1) ?_
  refine f_el g1 0 hX1.len rfl rfl rfl rfl rfl (fun _ h1 => (h1.blk b1).cx) ?_
  refine f_us #[.agg (Us zl).toArray, .agg (Us X1).toArray] (EB · (0 - x1)) rfl rfl rfl own_elsub (fun w1 h1 => elsub_f eb_zero hX1 w1 (hT.below h1)) rfl rfl fun r8 v8 => ?_
  refine f_fld g1 0 5 rfl rfl rfl rfl rfl (fun w1 => cpf1 _ w1) ?_
  refine f_el g1 5 hY1.len rfl rfl rfl rfl rfl (fun _ h1 => (h1.blk b1).cy hX1.len) ?_
  refine f_fld g1 0 10 rfl rfl rfl rfl rfl (fun w1 => cpf2 _ w1) ?_
  refine f_el g1 10 hZ1.len rfl rfl rfl rfl rfl (fun _ h1 => (h1.blk b1).cz hX1.len hY1.len) ?_
  refine f_build [] (Us zl).toArray rfl rfl rfl rfl rfl built_zero ?_
  refine f_fld g1 0 15 rfl rfl rfl rfl rfl (fun w1 => cpf3 _ w1) ?_
  refine f_el g1 15 hT1.len rfl rfl rfl rfl rfl (fun _ h1 => (h1.blk b1).ct hX1.len hY1.len hZ1.len) ?_
  refine f_us #[.agg (Us zl).toArray, .agg (Us T1).toArray] (EB · (0 - t1)) rfl rfl rfl own_elsub (fun w1 h1 => elsub_f eb_zero hT1 w1 (hT.below h1)) rfl rfl fun r16 v16 => ?_
  refine f_build [(0, .agg (Us r8).toArray), (1, .agg (Us Y1).toArray), (2, .agg (Us Z1).toArray), (3, .agg (Us r16).toArray)] (Us (pc r8 Y1 Z1 r16)).toArray rfl rfl rfl rfl rfl (builtP4 v8.len hY1.len hZ1.len v16.len) ?_
  refine f_set g2 _ ((Us (pc r8 Y1 Z1 r16)).toArray) rfl rfl rfl rfl rfl b2 (size_P (pc_len v8.len hY1.len hZ1.len v16.len)) ((us_size pz_len).trans (us_size (pc_len v8.len hY1.len hZ1.len v16.len)).symm) (Us_oneA _) fun w4 hw4 c4 => ?_
  replace b1 := (b1.later hw4).rowFar n1_2 ((Us (pc r8 Y1 Z1 r16)).toArray)
  replace b2 := c4
  replace hT := (hT.below hw4).row (g := g2) (by have := hw0; omega) ((Us (pc r8 Y1 Z1 r16)).toArray)
  replace hU := up_row (hU.step hw4) q2 ((Us (pc r8 Y1 Z1 r16)).toArray)
  clear hw4 c4
  generalize w4.setRow g2 ((Us (pc r8 Y1 Z1 r16)).toArray) = W4 at *
  refine l_nil ?_
  refine hK _ _ ?_
  clear hK K
  refine c_ret (k_ret_row g2 _ rfl rfl b2 Tryd.underlying29 rfl (size_P (pc_len v8.len hY1.len hZ1.len v16.len)) ⟨_, ⟨⟨_, _, _, _, _, _, _, _, rfl, v8, hY1, hZ1, v16, Ed.Rep.neg0 hR1, by rw [neg_mul1, neg_mul2, ht1]⟩, Ed.on_neg hon1⟩, rfl, hU⟩)

set_option maxRecDepth 100000 in
set_option maxHeartbeats 1000000 in
theorem cadd_f {l m : List Nat} {A B : Ed.Pt p} (hP : PB l A) (hM : PB m B) (w : World) (hT : Tw w) :
    Calls Tryd.prog 23 #[.agg (Us l).toArray, .agg (Us m).toArray] w fun e w' => ∃ r, QB r (Ed.add dd A B) ∧ e = .returned (.agg (Us r).toArray) ∧ Below w.heap.size w w' := by
  refine calls_F (vs := [.agg (Us l).toArray, .agg (Us m).toArray]) 9 Tryd.func23 rfl (by rw [Tryd.ntmps23]; rfl) ?_
  have hw0 := hT.lt
  refine c_seq fun K hK => ?_
  refine c_lit ?_
  refine l_boxA ((Us l).toArray) rfl rfl rfl rfl rfl fun W1 g1 hw1 hg1 b1 => ?_
  have q1 : w.heap.size ≤ g1 := by rw [hg1]; exact Nat.le_refl _
  clear hg1
  replace hT := hT.below hw1
  have hU : Up w _ := hw1
  refine l_boxA ((Us m).toArray) rfl rfl rfl rfl rfl fun W2 g2 hw2 hg2 b2 => ?_
  have q2 : w.heap.size ≤ g2 := by rw [hg2]; exact hU.size
  have n1_2 : g1 ≠ g2 := by have := b1.lt; omega
  clear hg2
  replace b1 := b1.later hw2
  replace hT := hT.below hw2
  replace hU := hU.step hw2
  refine l_allocA ((Us pz).toArray) rfl rfl rfl rfl (by kernel_rfl) fun W3 g3 hw3 hg3 b3 => ?_
  have q3 : w.heap.size ≤ g3 := by rw [hg3]; exact hU.size
  have n1_3 : g1 ≠ g3 := by have := b1.lt; omega
  have n2_3 : g2 ≠ g3 := by have := b2.lt; omega
  clear hg3
  replace b1 := b1.later hw3
  replace b2 := b2.later hw3
  replace hT := hT.below hw3
  replace hU := hU.step hw3
  refine l_nil ?_
  refine hK _ _ ?_
  clear hK K
  refine c_seq fun K hK => ?_
  refine c_t 4 (by decide) (by kernel_rfl) (tail_ok (by kernel_rfl)) (fun _ _ d _ _ h => by cases d <;> exact h) ?_
  refine f_pt g1 0 hP.len rfl rfl rfl rfl rfl (fun _ h1 => (h1.blk b1).range) ?_
  refine f_pt g2 0 hM.len rfl rfl rfl rfl rfl (fun _ h1 => (h1.blk b2).range) ?_
  refine f_us #[.agg (Us m).toArray] (AB · B) rfl rfl rfl own_addend (fun w1 h1 => addend_f hM w1 (hT.below h1)) rfl rfl fun r7 v7 => ?_
  refine f_us #[.agg (Us l).toArray, .agg (Us r7).toArray] (QB · (Ed.add dd A B)) rfl rfl rfl own_plus (fun w1 h1 => cplus_f hP v7 w1 (hT.below h1)) rfl rfl fun r8 v8 => ?_
  refine f_set g3 _ ((Us r8).toArray) rfl rfl rfl rfl rfl b3 (size_P v8.len) ((us_size pz_len).trans (us_size v8.len).symm) (Us_oneA _) fun w4 hw4 c4 => ?_
  replace b1 := (b1.later hw4).rowFar n1_3 ((Us r8).toArray)
  replace b2 := (b2.later hw4).rowFar n2_3 ((Us r8).toArray)
  replace b3 := c4
  replace hT := (hT.below hw4).row (g := g3) (by have := hw0; omega) ((Us r8).toArray)
  replace hU := up_row (hU.step hw4) q3 ((Us r8).toArray)
  clear hw4 c4
  generalize w4.setRow g3 ((Us r8).toArray) = W4 at *
  refine l_nil ?_
  refine hK _ _ ?_
  clear hK K
  refine c_ret (k_ret_row g3 _ rfl rfl b3 Tryd.underlying29 rfl (size_P v8.len) ⟨_, v8, rfl, hU⟩)
end Go.Proofs.YtgmiaaapaiccdaaDoor
