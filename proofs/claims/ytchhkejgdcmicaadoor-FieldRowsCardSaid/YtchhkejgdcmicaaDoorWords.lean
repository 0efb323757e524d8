/-
  WORDS OF 64 BITS: the field's sums of two words: low, high, plus; the library's Mul64 and Add64.
-/
import Derived.Test.YtchhkejgdcmicaaDoorCalls
import Derived.Lib.Mul64
import Derived.Laws.Bits64b
import Derived.Laws.BitsAllLaws
import Derived.Laws.Externs
namespace Go.Proofs.YtchhkejgdcmicaaDoor
open Go.RowKit Go.IntWalk

/-- Words as the cells of a row. -/
def Us (l : List Nat) : List Value := l.map fun x : Nat => .int .u64 (x : Int)
theorem Us_len (l : List Nat) : (Us l).length = l.length := by simp [Us]
theorem Us_one (l : List Nat) : ∀ u ∈ Us l, u.oneCell' = true := by
  intro u hu
  obtain ⟨x, _, rfl⟩ := List.mem_map.1 hu
  rfl
theorem Us_at {l : List Nat} {j : Nat} (h : j < l.length) : (Us l).toArray[j]? = some (.int .u64 (l[j]! : Nat)) := by
  simp [Us, h]
theorem Us_set (l : List Nat) (k x : Nat) : (Us l).toArray.setIfInBounds k (.int .u64 (x : Int)) = (Us (l.set k x)).toArray := by
  simp [Us, List.map_set]

theorem maskW (a : Nat) (ha : a < 18446744073709551616) : bits .and .u64 (a : Int) 2251799813685247 = ((a % 2251799813685248 : Nat) : Int) := by
  have h := u64_and_nat a 2251799813685247 ha (by omega)
  have e : a &&& 2251799813685247 = a % 2251799813685248 := Nat.and_two_pow_sub_one_eq_mod a 51
  rw [e] at h
  exact h

theorem orW (i x y : Nat) (hx : x % 2 ^ i = 0) (hy : y < 2 ^ i) (h1 : x < 18446744073709551616) (h2 : y < 18446744073709551616) : bits .or .u64 (x : Int) (y : Int) = ((x + y : Nat) : Int) := by
  rw [u64_or_nat x y h1 h2, nat_join i x y hx hy]
theorem size_sum (cs : Array Value) (h : cs.size = 2) : (Tryd.prog.info? 54).map (·.size) = some cs.size := by
  rw [h]
  kernel_rfl

/-! ### The numbers of a walk, made natural -/
theorem mask32 (a : Nat) (ha : a < 18446744073709551616) : bits .and .u64 (a : Int) 4294967295 = ((a % 4294967296 : Nat) : Int) := by
  have h := u64_and_nat a 4294967295 ha (by omega)
  have e : a &&& 4294967295 = a % 4294967296 := Nat.and_two_pow_sub_one_eq_mod a 32
  rw [e] at h
  exact h
theorem div32 (a : Nat) : (a : Int) / 4294967296 = ((a / 4294967296 : Nat) : Int) := by omega
theorem div51 (a : Nat) : (a : Int) / 2251799813685248 = ((a / 2251799813685248 : Nat) : Int) := by omega
theorem mulN (a b : Nat) : (a : Int) * (b : Int) = ((a * b : Nat) : Int) := (Int.natCast_mul a b).symm
theorem addN (a b : Nat) : (a : Int) + (b : Int) = ((a + b : Nat) : Int) := (Int.natCast_add a b).symm
theorem wrapN (a : Nat) (ha : a < 18446744073709551616) : IntKind.u64.wrap (a : Int) = (a : Int) := by rw [IntKind.wrap_u64]; omega
theorem wrapM (a : Nat) : IntKind.u64.wrap (a : Int) = ((a % 18446744073709551616 : Nat) : Int) := by rw [IntKind.wrap_u64]; omega

theorem low_any (hi lo : Nat) (hl : lo < 18446744073709551616) (w : World) :
    Calls Tryd.prog 35 #[.agg (Us [hi, lo]).toArray] w fun e w' => e = .returned (.int .u64 ((lo % 2251799813685248 : Nat) : Int)) ∧ Below w.heap.size w w' := by
  have e0 : (Us [hi, lo]).toArray = #[.int .u64 (hi : Int), .int .u64 (lo : Int)] := rfl
  rw [e0]
  go_enter Tryd.func35, Tryd.ntmps35
  go_wp2
  rw [maskW lo hl]
  go_ret
  exact ⟨rfl, (Below.refl _ _).alloc (Nat.le_refl _) _⟩

theorem high_any (hi lo : Nat) (hh : hi < 2251799813685248) (hl : lo < 18446744073709551616) (w : World) :
    Calls Tryd.prog 36 #[.agg (Us [hi, lo]).toArray] w fun e w' => e = .returned (.int .u64 ((hi * 8192 + lo / 2251799813685248 : Nat) : Int)) ∧ Below w.heap.size w w' := by
  have e0 : (Us [hi, lo]).toArray = #[.int .u64 (hi : Int), .int .u64 (lo : Int)] := rfl
  rw [e0]
  go_enter Tryd.func36, Tryd.ntmps36
  go_wp2
  have e1 : (hi : Int) * 8192 = ((hi * 8192 : Nat) : Int) := by omega
  rw [e1, div51, orW 13 (hi * 8192) (lo / 2251799813685248) (by omega) (by omega) (by omega) (by omega)]
  go_ret
  exact ⟨rfl, (Below.refl _ _).alloc (Nat.le_refl _) _⟩

set_option maxHeartbeats 1000000 in
theorem mul64_any (x y : Nat) (hx : x < 18446744073709551616) (hy : y < 18446744073709551616) (w : World) :
    Calls Tryd.prog 42 #[.int .u64 x, .int .u64 y] w fun e w' => e = .returned (.tuple #[.int .u64 ((x * y / 18446744073709551616 : Nat) : Int), .int .u64 ((x * y % 18446744073709551616 : Nat) : Int)]) ∧ w' = w := by
  obtain ⟨bd, bt, bw, hhi⟩ := Lib.mul64_hi x y hx hy
  have ba := Lib.half_mul_le (a := x / 4294967296) (b := y / 4294967296) (by omega) (by omega)
  have bb := Lib.half_mul_le (a := x / 4294967296) (b := y % 4294967296) (by omega) (by omega)
  have bc := Lib.half_mul_le (a := x % 4294967296) (b := y / 4294967296) (by omega) (by omega)
  have ba' : x / 4294967296 * (y / 4294967296) < 18446744073709551616 := by omega
  have bb' : x / 4294967296 * (y % 4294967296) < 18446744073709551616 := by omega
  have bc' : x % 4294967296 * (y / 4294967296) < 18446744073709551616 := by omega
  have bh1 : x / 4294967296 * (y / 4294967296) + (x / 4294967296 * (y % 4294967296) + x % 4294967296 * (y % 4294967296) / 4294967296) / 4294967296 < 18446744073709551616 := by omega
  have bh : x / 4294967296 * (y / 4294967296) + (x / 4294967296 * (y % 4294967296) + x % 4294967296 * (y % 4294967296) / 4294967296) / 4294967296 + ((x / 4294967296 * (y % 4294967296) + x % 4294967296 * (y % 4294967296) / 4294967296) % 4294967296 + x % 4294967296 * (y / 4294967296)) / 4294967296 < 18446744073709551616 := by omega
  go_enter Tryd.func42, Tryd.ntmps42
  go_wp2
  simp only [mask32 x hx, mask32 y hy, div32, mulN, addN, wrapN _ bd, wrapN _ bb', wrapN _ bt, mask32 _ bt, wrapN _ bc', wrapN _ bw, wrapN _ ba', wrapN _ bh1, wrapN _ bh, wrapM (x * y)]
  rw [hhi]
  go_ret2
  exact ⟨rfl, rfl⟩

theorem add64_run (x y c : Nat) (hc : c ≤ 1) (w : World) : (callFunc 43 #[.int .u64 x, .int .u64 y, .int .u64 c]).run Tryd.prog w =
    .ok (.value (.tuple #[.int .u64 (((x + y + c) % 18446744073709551616 : Nat) : Int), .int .u64 (((x + y + c) / 18446744073709551616 : Nat) : Int)])) w := by
  rw [run_callFunc_extern Tryd.func43 (by kernel_rfl) (by kernel_rfl) (by kernel_rfl) (e := add64Entry) (by kernel_rfl), run_add64 x y c (by omega) (by omega) (by omega) (by omega)]
  simp only [Result.andThen]
  congr 5 <;> omega
theorem add64_int (x y c : Int) (hx : 0 ≤ x) (hy : 0 ≤ y) (hc0 : 0 ≤ c) (hc : c ≤ 1) (w : World) : (callFunc 43 #[.int .u64 x, .int .u64 y, .int .u64 c]).run Tryd.prog w =
    .ok (.value (.tuple #[.int .u64 ((x + y + c) % 18446744073709551616), .int .u64 ((x + y + c) / 18446744073709551616)])) w := by
  obtain ⟨x, rfl⟩ := Int.eq_ofNat_of_zero_le hx
  obtain ⟨y, rfl⟩ := Int.eq_ofNat_of_zero_le hy
  obtain ⟨c, rfl⟩ := Int.eq_ofNat_of_zero_le hc0
  refine (add64_run x y c (by omega) w).trans ?_
  congr 5 <;> omega
theorem add64_int0 (x y : Int) (hx : 0 ≤ x) (hy : 0 ≤ y) (w : World) : (callFunc 43 #[.int .u64 x, .int .u64 y, .int .u64 0]).run Tryd.prog w =
    .ok (.value (.tuple #[.int .u64 ((x + y) % 18446744073709551616), .int .u64 ((x + y) / 18446744073709551616)])) w := by
  simpa using add64_int x y 0 hx hy (Int.le_refl 0) (by decide) w

set_option maxHeartbeats 1000000 in
theorem plus_any (hi lo a b : Nat) (hh : hi < 18446744073709551616) (hl : lo < 18446744073709551616) (ha : a < 18446744073709551616) (hb : b < 18446744073709551616) (w : World) :
    Calls Tryd.prog 34 #[.agg (Us [hi, lo]).toArray, .int .u64 a, .int .u64 b] w fun e w' =>
      e = .returned (.agg (Us [(hi + a * b / 18446744073709551616 + (lo + a * b % 18446744073709551616) / 18446744073709551616) % 18446744073709551616, (lo + a * b % 18446744073709551616) % 18446744073709551616]).toArray) ∧ Below w.heap.size w w' := by
  have e0 : (Us [hi, lo]).toArray = #[.int .u64 (hi : Int), .int .u64 (lo : Int)] := rfl
  rw [e0]
  have HM := fun w1 => Lib.hid (mul64_any a b ha hb w1)
  generalize a * b / 18446744073709551616 = mh at *
  generalize hml : a * b % 18446744073709551616 = ml at *
  have hml : ml < 18446744073709551616 := by omega
  have hc1 : ((lo : Int) + (ml : Int)) / 18446744073709551616 ≤ 1 := by omega
  have hc0 : (0 : Int) ≤ ((lo : Int) + (ml : Int)) / 18446744073709551616 := by omega
  go_enter Tryd.func34, Tryd.ntmps34
  go_wp2_with (fail)
  refine (HM _).out.mono ?_
  rintro e w1 ⟨rfl, rfl⟩
  go_wp2_with (first | simp only [add64_int0 lo ml (by omega) (by omega)] | simp only [add64_int hi mh _ (by omega) (by omega) hc0 hc1])
  refine bodyPost_ret (results_cell_row rfl _ _ (w.heap.size + 1) 54 _ (0, 0) _ rfl (heap_alloc2_new w _ _) Tryd.underlying54 rfl (size_sum _ rfl)) rfl ⟨?_, ((Below.refl _ _).alloc (Nat.le_refl _) _).alloc (by simp) _⟩
  rfl
end Go.Proofs.YtchhkejgdcmicaaDoor
