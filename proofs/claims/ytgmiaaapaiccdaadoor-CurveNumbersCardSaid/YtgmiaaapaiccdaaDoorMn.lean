/-
  SEVERAL TEXTS IN ONE: Sub64, Ws, WSum, Red, Next, Wide, ScHash, ScOps, Copy, LawS.
-/
import Derived.Test.YtgmiaaapaiccdaaDoorMd
import Derived.Test.YtgmiaaapaiccdaaDoorMa
import Derived.StillTailTactics
import Derived.Deep.QuietTactic
import Derived.Test.YtgmiaaapaiccdaaDoorMc
import Derived.Test.YtgmiaaapaiccdaaDoorMl
/-
  WORDS OF 64 BITS: the library's Sub64; calls of the library inside regions.
-/
namespace Go.Proofs.YtgmiaaapaiccdaaDoor
open Go.RowKit Go.IntWalk

theorem sub64_run (x y b : Nat) (hb : b ≤ 1) (w : World) : (callFunc 78 #[.int .u64 x, .int .u64 y, .int .u64 b]).run Tryd.prog w =
    .ok (.value (.tuple #[.int .u64 (((x + 18446744073709551616 - y - b) % 18446744073709551616 : Nat) : Int), .int .u64 ((if x < y + b then 1 else 0 : Nat) : Int)])) w := by
  rw [run_callFunc_extern Tryd.func78 (by kernel_rfl) (by kernel_rfl) (by kernel_rfl) (e := subEntry) (by kernel_rfl), run_sub x y b hb]
  rfl

section
variable {ops : Array Oper} {C0 : World → Prop} {Q : Act → Prop} {a : Act} {o : Oper} {rest : List Oper}
/-- A call of a function that the model answers itself. -/
theorem b_ext {f : FuncId} {xs : Array Operand} {ats : Array TypeId} {args : Array Value} {v : Value} (hg : Region.wanted o (yielded ops a.tmps) = true)
    (hf : ∀ w, (callFunc f args).run Tryd.prog w = .ok (.value v) w)
    (ho : o.op = .call { callee := .value (.func f), args := xs, argTypes := ats }) (hx : xs.toList.map a.eval = args.toList) (hk : wpB Tryd.prog ops C0 Q rest (a.put o.dst v)) : wpB Tryd.prog ops C0 Q (o :: rest) a :=
  b_val hg (fun w _ => by
    have h := hf w
    have e := map_eval hx
    obtain ⟨dst, op, ty, pos, af, gd⟩ := o
    simp only at ho
    subst ho
    subst e
    go_simp) hk
end
end Go.Proofs.YtgmiaaapaiccdaaDoor
/-
  PLAIN NUMBERS: a number as four words of 64 bits; sums with carries; the number modulo L out of five words. No program is imported.
-/
namespace Nums

/-- Four words of 64 bits, the least first. -/
def ws (n : Nat) : List Nat := [n % 18446744073709551616, n / 18446744073709551616 % 18446744073709551616, n / 340282366920938463463374607431768211456 % 18446744073709551616, n / 6277101735386680763835789423207666416102355444464034512896 % 18446744073709551616]
/-- The number of four words. -/
def v4 (a b c d : Nat) : Nat := a + 18446744073709551616 * b + 340282366920938463463374607431768211456 * c + 6277101735386680763835789423207666416102355444464034512896 * d
theorem ws_len (n : Nat) : (ws n).length = 4 := rfl
theorem ws_v4 {a b c d : Nat} (h0 : a < 18446744073709551616) (h1 : b < 18446744073709551616) (h2 : c < 18446744073709551616) (h3 : d < 18446744073709551616) : ws (v4 a b c d) = [a, b, c, d] := by
  unfold ws v4
  have e0 : (a + 18446744073709551616 * b + 340282366920938463463374607431768211456 * c + 6277101735386680763835789423207666416102355444464034512896 * d) % 18446744073709551616 = a := by omega
  have e1 : (a + 18446744073709551616 * b + 340282366920938463463374607431768211456 * c + 6277101735386680763835789423207666416102355444464034512896 * d) / 18446744073709551616 % 18446744073709551616 = b := by omega
  have e2 : (a + 18446744073709551616 * b + 340282366920938463463374607431768211456 * c + 6277101735386680763835789423207666416102355444464034512896 * d) / 340282366920938463463374607431768211456 % 18446744073709551616 = c := by omega
  have e3 : (a + 18446744073709551616 * b + 340282366920938463463374607431768211456 * c + 6277101735386680763835789423207666416102355444464034512896 * d) / 6277101735386680763835789423207666416102355444464034512896 % 18446744073709551616 = d := by omega
  rw [e0, e1, e2, e3]
/-- Each number below 2^256 is its words'. -/
theorem ws_cut {n : Nat} (h : n < 115792089237316195423570985008687907853269984665640564039457584007913129639936) :
    ∃ a b c d, n = v4 a b c d ∧ ws n = [a, b, c, d] ∧ a < 18446744073709551616 ∧ b < 18446744073709551616 ∧ c < 18446744073709551616 ∧ d < 18446744073709551616 := by
  refine ⟨_, _, _, _, ?_, rfl, Nat.mod_lt _ (by decide), Nat.mod_lt _ (by decide), Nat.mod_lt _ (by decide), Nat.mod_lt _ (by decide)⟩
  unfold v4
  omega
theorem ws_lt (n : Nat) : ∀ y ∈ ws n, y < 18446744073709551616 := by
  intro y hy
  simp only [ws, List.mem_cons, List.not_mem_nil, or_false] at hy
  rcases hy with rfl | rfl | rfl | rfl <;> exact Nat.mod_lt _ (by decide)
theorem ws_get_lt (n : Nat) {k : Nat} (hk : k < 4) : (ws n)[k]! < 18446744073709551616 :=
  ws_lt n _ (by rw [getElem!_pos (ws n) k hk]; exact List.getElem_mem _)

/-! ### Rows whose first k words have turned -/
def mxl (f : Nat → Nat) (l : List Nat) (k : Nat) : List Nat := (List.range l.length).map fun j => if j < k then f j else l[j]!
theorem mxl_len (f : Nat → Nat) (l : List Nat) (k : Nat) : (mxl f l k).length = l.length := by simp [mxl]
theorem mxl_zero (f : Nat → Nat) (l : List Nat) : mxl f l 0 = l := by
  apply List.ext_getElem (by simp [mxl])
  intro i h1 h2
  simp [mxl, h2]
theorem mxl_get (f : Nat → Nat) (l : List Nat) {k : Nat} (h : k < l.length) : (mxl f l k)[k]! = l[k]! := by
  rw [getElem!_pos _ k (by rw [mxl_len]; exact h)]
  simp [mxl]
theorem mxl_set (f : Nat → Nat) (l : List Nat) {k : Nat} : (mxl f l k).set k (f k) = mxl f l (k + 1) := by
  apply List.ext_getElem (by simp [mxl])
  intro j h1 h2
  rw [List.getElem_set]
  simp only [mxl, List.getElem_map, List.getElem_range]
  by_cases hjk : k = j
  · subst hjk
    simp
  · rw [if_neg hjk]
    by_cases hlt : j < k
    · rw [if_pos hlt, if_pos (by omega)]
    · rw [if_neg hlt, if_neg (by omega)]

/-! ### Sums -/
/-- What the sum carries into word k. -/
def sup (a b : List Nat) : Nat → Nat
  | 0 => 0
  | k + 1 => (a[k]! + b[k]! + sup a b k) / 18446744073709551616
/-- The sum's word k. -/
def swd (a b : List Nat) (k : Nat) : Nat := (a[k]! + b[k]! + sup a b k) % 18446744073709551616
theorem sup_le {a b : List Nat} (ha : ∀ k, k < 4 → a[k]! < 18446744073709551616) (hb : ∀ k, k < 4 → b[k]! < 18446744073709551616) : ∀ k, k ≤ 4 → sup a b k ≤ 1
  | 0, _ => Nat.zero_le _
  | k + 1, hk => by
    have := sup_le ha hb k (by omega)
    have := ha k (by omega)
    have := hb k (by omega)
    show (a[k]! + b[k]! + sup a b k) / 18446744073709551616 ≤ 1
    omega
theorem sum_ws {A B : Nat} (hA : A < 115792089237316195423570985008687907853269984665640564039457584007913129639936) (hB : B < 115792089237316195423570985008687907853269984665640564039457584007913129639936) :
    mxl (swd (ws A) (ws B)) (ws A) 4 = ws ((A + B) % 115792089237316195423570985008687907853269984665640564039457584007913129639936) := by
  obtain ⟨a0, a1, a2, a3, eA, wA, p0, p1, p2, p3⟩ := ws_cut hA
  obtain ⟨b0, b1, b2, b3, eB, wB, q0, q1, q2, q3⟩ := ws_cut hB
  rw [wA, wB]
  have e : mxl (swd [a0, a1, a2, a3] [b0, b1, b2, b3]) [a0, a1, a2, a3] 4 = [swd [a0, a1, a2, a3] [b0, b1, b2, b3] 0, swd [a0, a1, a2, a3] [b0, b1, b2, b3] 1, swd [a0, a1, a2, a3] [b0, b1, b2, b3] 2, swd [a0, a1, a2, a3] [b0, b1, b2, b3] 3] := rfl
  have g0 : sup [a0, a1, a2, a3] [b0, b1, b2, b3] 0 = 0 := rfl
  have g1 : sup [a0, a1, a2, a3] [b0, b1, b2, b3] 1 = (a0 + b0 + sup [a0, a1, a2, a3] [b0, b1, b2, b3] 0) / 18446744073709551616 := rfl
  have g2 : sup [a0, a1, a2, a3] [b0, b1, b2, b3] 2 = (a1 + b1 + sup [a0, a1, a2, a3] [b0, b1, b2, b3] 1) / 18446744073709551616 := rfl
  have g3 : sup [a0, a1, a2, a3] [b0, b1, b2, b3] 3 = (a2 + b2 + sup [a0, a1, a2, a3] [b0, b1, b2, b3] 2) / 18446744073709551616 := rfl
  have s0 : swd [a0, a1, a2, a3] [b0, b1, b2, b3] 0 = (a0 + b0 + sup [a0, a1, a2, a3] [b0, b1, b2, b3] 0) % 18446744073709551616 := rfl
  have s1 : swd [a0, a1, a2, a3] [b0, b1, b2, b3] 1 = (a1 + b1 + sup [a0, a1, a2, a3] [b0, b1, b2, b3] 1) % 18446744073709551616 := rfl
  have s2 : swd [a0, a1, a2, a3] [b0, b1, b2, b3] 2 = (a2 + b2 + sup [a0, a1, a2, a3] [b0, b1, b2, b3] 2) % 18446744073709551616 := rfl
  have s3 : swd [a0, a1, a2, a3] [b0, b1, b2, b3] 3 = (a3 + b3 + sup [a0, a1, a2, a3] [b0, b1, b2, b3] 3) % 18446744073709551616 := rfl
  rw [e]
  generalize swd [a0, a1, a2, a3] [b0, b1, b2, b3] 0 = x0 at *
  generalize swd [a0, a1, a2, a3] [b0, b1, b2, b3] 1 = x1 at *
  generalize swd [a0, a1, a2, a3] [b0, b1, b2, b3] 2 = x2 at *
  generalize swd [a0, a1, a2, a3] [b0, b1, b2, b3] 3 = x3 at *
  generalize sup [a0, a1, a2, a3] [b0, b1, b2, b3] 0 = c0 at *
  generalize sup [a0, a1, a2, a3] [b0, b1, b2, b3] 1 = c1 at *
  generalize sup [a0, a1, a2, a3] [b0, b1, b2, b3] 2 = c2 at *
  generalize sup [a0, a1, a2, a3] [b0, b1, b2, b3] 3 = c3 at *
  have hx : (A + B) % 115792089237316195423570985008687907853269984665640564039457584007913129639936 = v4 x0 x1 x2 x3 := by
    rw [eA, eB]
    unfold v4
    clear e wA wB hA hB eA eB
    omega
  rw [hx, ws_v4 (by omega) (by omega) (by omega) (by omega)]

/-! ### Five words modulo L -/
theorem LL_eq : LL = 7237005577332262213973186563042994240857116359379907606001950938285454250989 := rfl
/-- The rest, with what was borrowed. -/
theorem rest_L {v0 v1 v2 v3 t m0 m1 p1 r0 r1 r2 r3 l0 l1 l2 l3 V : Nat} (h0 : v0 < 18446744073709551616) (h1 : v1 < 18446744073709551616) (h2 : v2 < 18446744073709551616) (h3 : v3 < 1152921504606846976) (ht : t < 34359738368)
    (hm0 : m0 = t * 6346243789798364141) (hm1 : m1 = t * 1503914060200516822) (hp1 : p1 = m1 % 18446744073709551616 + m0 / 18446744073709551616)
    (hl0 : l0 = if v0 < m0 % 18446744073709551616 + 0 then 1 else 0) (hr0 : r0 = (v0 + 18446744073709551616 - m0 % 18446744073709551616 - 0) % 18446744073709551616)
    (hl1 : l1 = if v1 < p1 % 18446744073709551616 + l0 then 1 else 0) (hr1 : r1 = (v1 + 18446744073709551616 - p1 % 18446744073709551616 - l0) % 18446744073709551616)
    (hl2 : l2 = if v2 < m1 / 18446744073709551616 + p1 / 18446744073709551616 + l1 then 1 else 0) (hr2 : r2 = (v2 + 18446744073709551616 - (m1 / 18446744073709551616 + p1 / 18446744073709551616) - l1) % 18446744073709551616)
    (hl3 : l3 = if v3 < 0 + l2 then 1 else 0) (hr3 : r3 = (v3 + 18446744073709551616 - 0 - l2) % 18446744073709551616)
    (hV : V = v4 v0 v1 v2 v3 + 7237005577332262213973186563042994240829374041602535252466099000494570602496 * t) :
    (l3 = 0 → v4 r0 r1 r2 r3 = V % LL) ∧ (l3 = 1 → (v4 r0 r1 r2 r3 + LL) % 115792089237316195423570985008687907853269984665640564039457584007913129639936 = V % LL) ∧ l3 ≤ 1 ∧ l0 ≤ 1 ∧ l1 ≤ 1 ∧ l2 ≤ 1 ∧
      r0 < 18446744073709551616 ∧ r1 < 18446744073709551616 ∧ r2 < 18446744073709551616 ∧ r3 < 18446744073709551616 := by
  have b0 : l0 ≤ 1 := by rw [hl0]; split <;> omega
  have b1 : l1 ≤ 1 := by rw [hl1]; split <;> omega
  have b2 : l2 ≤ 1 := by rw [hl2]; split <;> omega
  have b3 : l3 ≤ 1 := by rw [hl3]; split <;> omega
  have d0 : r0 + m0 % 18446744073709551616 = v0 + 18446744073709551616 * l0 := by rw [hr0, hl0]; split <;> omega
  have d1 : r1 + p1 % 18446744073709551616 + l0 = v1 + 18446744073709551616 * l1 := by rw [hr1, hl1]; split <;> omega
  have hm : m1 / 18446744073709551616 < 17179869184 := by omega
  have hp : p1 / 18446744073709551616 < 2 := by omega
  have d2 : r2 + (m1 / 18446744073709551616 + p1 / 18446744073709551616) + l1 = v2 + 18446744073709551616 * l2 := by rw [hr2, hl2]; split <;> omega
  have d3 : r3 + l2 = v3 + 18446744073709551616 * l3 := by rw [hr3, hl3]; split <;> omega
  have c0 : r0 < 18446744073709551616 := by omega
  have c1 : r1 < 18446744073709551616 := by omega
  have c2 : r2 < 18446744073709551616 := by omega
  have c3 : r3 < 18446744073709551616 := by omega
  clear hr0 hr1 hr2 hr3 hl0 hl1 hl2 hl3
  have key : v4 r0 r1 r2 r3 + m0 + 18446744073709551616 * m1 = v4 v0 v1 v2 v3 + 115792089237316195423570985008687907853269984665640564039457584007913129639936 * l3 := by
    unfold v4
    omega
  have hlow : v4 v0 v1 v2 v3 < 7237005577332262213973186563042994240829374041602535252466099000494570602496 := by
    unfold v4
    omega
  have hR : v4 r0 r1 r2 r3 < 115792089237316195423570985008687907853269984665640564039457584007913129639936 := by
    unfold v4
    omega
  clear d0 d1 d2 d3 hp1 hm hp
  refine ⟨fun h => ?_, fun h => ?_, b3, b0, b1, b2, c0, c1, c2, c3⟩
  · have e : V = v4 r0 r1 r2 r3 + LL * t := by
      rw [hV, LL_eq]
      omega
    rw [e, Nat.add_mul_mod_self_left, Nat.mod_eq_of_lt]
    rw [LL_eq]
    omega
  · have hg : 115792089237316195423570985008687907853269984665640564039457584007913129639936 ≤ v4 r0 r1 r2 r3 + LL := by
      rw [LL_eq]
      omega
    have e : V + LL = (v4 r0 r1 r2 r3 + LL - 115792089237316195423570985008687907853269984665640564039457584007913129639936) + LL * t := by
      rw [hV, LL_eq] at *
      omega
    have e2 : V % LL = (V + LL) % LL := by rw [Nat.add_mod_right]
    rw [e2, e, Nat.add_mul_mod_self_left, Nat.mod_eq_sub_mod hg, Nat.mod_eq_of_lt, Nat.mod_eq_of_lt]
    · rw [LL_eq] at *
      omega
    · rw [LL_eq] at *
      omega
end Nums
/-
  THE PROGRAM'S SCALARS: sum: four words and four words, modulo 2^256.
-/
namespace Go.Proofs.YtgmiaaapaiccdaaDoor
open Go.RowKit Go.IntWalk Nums

theorem size_w4 (cs : Array Value) (h : cs.size = 4) : (Tryd.prog.info? 57).map (·.size) = some cs.size := by
  rw [h]
  kernel_rfl
theorem size_sc (cs : Array Value) (h : cs.size = 4) : (Tryd.prog.info? 59).map (·.size) = some cs.size := by
  rw [h]
  kernel_rfl
def z4 : Array Value := (Us [0, 0, 0, 0]).toArray
theorem len_u4 {l : List Nat} (h : l.length = 4) : (Us l).toArray.size = 4 := by rw [List.size_toArray, Us_len, h]

set_option maxRecDepth 100000 in
set_option maxHeartbeats 1000000 in
theorem wsum_f {A B : Nat} (hA : A < 115792089237316195423570985008687907853269984665640564039457584007913129639936) (hB : B < 115792089237316195423570985008687907853269984665640564039457584007913129639936) (w : World) :
    Calls Tryd.prog 61 #[.agg (Us (ws A)).toArray, .agg (Us (ws B)).toArray] w fun e w' => e = .returned (.agg (Us (ws ((A + B) % 115792089237316195423570985008687907853269984665640564039457584007913129639936))).toArray) ∧ Below w.heap.size w w' := by
  rw [← sum_ws hA hB]
  have ha := fun k => ws_get_lt A (k := k)
  have hb := fun k => ws_get_lt B (k := k)
  have la := ws_len A
  have lb := ws_len B
  have hc := sup_le ha hb
  clear hA hB
  generalize ws A = a at *
  generalize ws B = b at *
  go_enter Tryd.func61, Tryd.ntmps61
  go_wp2
  go_loopw [7, 5] (fun i u wr => ∃ k : Nat, k ≤ 4 ∧ i = .int .i64 k ∧ u = .int .u64 (sup a b k : Nat) ∧ Blk wr w.heap.size 57 (Us (mxl (swd a b) a k)).toArray ∧ Blk wr (w.heap.size + 1) 57 (Us b).toArray ∧ Blk wr (w.heap.size + 1 + 1) 57 z4 ∧ Below w.heap.size w wr) (fun i _ _ => 4 - (intOf i).toNat)
  case atStart =>
    refine ⟨0, by omega, rfl, rfl, ?_, blk3_1 w _ _ _ _, blk3_2 w _ _ _ _, (((Below.refl _ _).alloc (Nat.le_refl _) _).alloc (by simp) _).alloc (by simp; omega) _⟩
    rw [mxl_zero]
    exact blk3_0 w _ _ _ _
  case round =>
    obtain ⟨k, hk, rfl, rfl, h0, h1, h2, hbel⟩ := hrel
    by_cases hlt : k < 4
    · have hN := mxl_set (swd a b) a (k := k)
      have hU : sup a b (k + 1) = (a[k]! + b[k]! + sup a b k) / 18446744073709551616 := rfl
      have hS : swd a b k = (a[k]! + b[k]! + sup a b k) % 18446744073709551616 := rfl
      have hg := mxl_get (swd a b) a (k := k) (by omega)
      have c0 := (h0.drew.cell k).trans (Us_at (by rw [mxl_len]; omega))
      rw [hg] at c0
      have c1 := (h1.drew.cell k).trans (Us_at (by omega))
      have b0 := ha k hlt
      have b1 := hb k hlt
      have b2 := hc k (by omega)
      have hf := h0.drew.free k
      rw [hS] at hN
      generalize a[k]! = u at *
      generalize b[k]! = v at *
      generalize sup a b k = c at *
      have hA := add64_run u v c b2
      have q2 : (0 : Int) ≤ (k : Int) := by omega
      have HK := Lib.hid (And.intro h0 (And.intro h1 (And.intro h2 (And.intro hbel (And.intro hN hU)))))
      clear h0 h1 h2 hbel hN hg hU hS ha hb hc
      generalize (u + v + c) % 18446744073709551616 = s at *
      generalize (u + v + c) / 18446744073709551616 = t at *
      go_wp2
      go_region_with (simp only [hA])
      all_goals (
        go_wp2
        go_roundw
        case rel =>
          obtain ⟨h0, h1, h2, hbel, hN, hU⟩ := HK.out
          have h4 := h0.set k (.int .u64 ((s : Nat) : Int))
          rw [Us_set, hN] at h4
          exact ⟨k + 1, by omega, by go_num, by rw [hU], h4, h1.far (by simp) _, h2.far (by simp; omega) _, (hbel.setCell (by simp) _).drew⟩
        case measure => simp [intOf]; omega)
    · obtain rfl : k = 4 := by omega
      have hz : (Us (mxl (swd a b) a 4)).toArray.size = 4 := len_u4 (by rw [mxl_len, la])
      go_wp2_with (first
        | (refine wpList_load_row rfl 57 _ rfl w.heap.size rfl 57 (Us (mxl (swd a b) a 4)).toArray (0, 0) _ h0 Tryd.underlying57 rfl (size_w4 _ hz) ?_)
        | (refine wpList_store_row rfl 57 _ _ rfl (w.heap.size + 1 + 1) rfl (Us (mxl (swd a b) a 4)).toArray rfl 57 _ h2 (size_w4 _ hz) (by rw [hz]; rfl) (Us_one _) ?_))
      refine bodyPost_ret (results_cell_row rfl _ _ (w.heap.size + 1 + 1) 57 (Us (mxl (swd a b) a 4)).toArray (0, 0) _ rfl (h2.row _) Tryd.underlying57 rfl (size_w4 _ hz)) rfl ⟨rfl, ?_⟩
      exact below_setRow hbel (by omega) _
end Go.Proofs.YtgmiaaapaiccdaaDoor
/-
  THE PROGRAM'S SCALARS: reduced: five words modulo L.
-/
namespace Go.Proofs.YtgmiaaapaiccdaaDoor
open Go.RowKit Go.IntWalk Nums

theorem own_wsum : Own 61 := fun _ _ => by go_simp
theorem ws_LL : ws LL = [6346243789798364141, 1503914060200516822, 0, 1152921504606846976] := by decide
theorem cell4 (a b c d : Nat) : (Us [a, b, c, d]).toArray = #[.int .u64 (a : Int), .int .u64 (b : Int), .int .u64 (c : Int), .int .u64 (d : Int)] := rfl

theorem mask60 (a : Nat) (ha : a < 18446744073709551616) : bits .and .u64 (a : Int) 1152921504606846975 = ((a % 1152921504606846976 : Nat) : Int) := by
  have h := u64_and_nat a 1152921504606846975 ha (by omega)
  have e : a &&& 1152921504606846975 = a % 1152921504606846976 := Nat.and_two_pow_sub_one_eq_mod a 60
  rw [e] at h
  exact h

set_option maxRecDepth 100000 in
set_option maxHeartbeats 2000000 in
theorem red_f {v0 v1 v2 v3 u : Nat} (h0 : v0 < 18446744073709551616) (h1 : v1 < 18446744073709551616) (h2 : v2 < 18446744073709551616) (h3 : v3 < 18446744073709551616) (hu : u < 1073741824) (w : World) :
    Calls Tryd.prog 62 #[.agg (Us [v0, v1, v2, v3, u]).toArray] w fun e w' => e = .returned (.agg (Us (ws ((v4 v0 v1 v2 v3 + 115792089237316195423570985008687907853269984665640564039457584007913129639936 * u) % LL))).toArray) ∧ Below w.heap.size w w' := by
  obtain ⟨t, ht⟩ : ∃ t, t = u * 16 + v3 / 1152921504606846976 := ⟨_, rfl⟩
  have htb : t < 34359738368 := by omega
  have qt : bits .or .u64 ((u : Int) * 16) ((v3 : Int) / 1152921504606846976) = (t : Int) := by
    have e := orW 4 (u * 16) (v3 / 1152921504606846976) (by omega) (by omega) (by omega) (by omega)
    rw [ht, ← e]
    rfl
  have HM0 := fun w1 => Lib.hid (mul64_any t 6346243789798364141 (by omega) (by omega) w1)
  have HM1 := fun w1 => Lib.hid (mul64_any t 1503914060200516822 (by omega) (by omega) w1)
  obtain ⟨V, hV⟩ : ∃ V, V = v4 v0 v1 v2 v3 + 115792089237316195423570985008687907853269984665640564039457584007913129639936 * u := ⟨_, rfl⟩
  rw [← hV]
  have hV2 : V = v4 v0 v1 v2 (v3 % 1152921504606846976) + 7237005577332262213973186563042994240829374041602535252466099000494570602496 * t := by
    rw [hV, ht]
    unfold v4
    omega
  have q3 := mask60 v3 h3
  have hv3 : v3 % 1152921504606846976 < 1152921504606846976 := by omega
  obtain ⟨m0, hm0⟩ : ∃ m, m = t * 6346243789798364141 := ⟨_, rfl⟩
  obtain ⟨m1, hm1⟩ : ∃ m, m = t * 1503914060200516822 := ⟨_, rfl⟩
  rw [← hm0] at HM0
  rw [← hm1] at HM1
  obtain ⟨p1, hp1⟩ : ∃ p, p = m1 % 18446744073709551616 + m0 / 18446744073709551616 := ⟨_, rfl⟩
  have hA : ∀ w1, (callFunc 77 #[.int .u64 ((m1 % 18446744073709551616 : Nat) : Int), .int .u64 ((m0 / 18446744073709551616 : Nat) : Int), .int .u64 0]).run Tryd.prog w1 = .ok (.value (.tuple #[.int .u64 ((p1 % 18446744073709551616 : Nat) : Int), .int .u64 ((p1 / 18446744073709551616 : Nat) : Int)])) w1 := by
    rw [hp1]
    exact fun w1 => add64_run (m1 % 18446744073709551616) (m0 / 18446744073709551616) 0 (by omega) w1
  have qd : IntKind.u64.wrap (((m1 / 18446744073709551616 : Nat) : Int) + ((p1 / 18446744073709551616 : Nat) : Int)) = ((m1 / 18446744073709551616 + p1 / 18446744073709551616 : Nat) : Int) := by
    rw [IntKind.wrap_u64]
    omega
  obtain ⟨r0, l0, hr0, hl0, H0⟩ : ∃ r0 l0 : Nat, r0 = (v0 + 18446744073709551616 - m0 % 18446744073709551616 - 0) % 18446744073709551616 ∧ l0 = (if v0 < m0 % 18446744073709551616 + 0 then 1 else 0) ∧
      ∀ w1, (callFunc 78 #[.int .u64 (v0 : Int), .int .u64 ((m0 % 18446744073709551616 : Nat) : Int), .int .u64 0]).run Tryd.prog w1 = .ok (.value (.tuple #[.int .u64 (r0 : Int), .int .u64 (l0 : Int)])) w1 :=
    ⟨_, _, rfl, rfl, fun w1 => sub64_run v0 (m0 % 18446744073709551616) 0 (by omega) w1⟩
  have b0 : l0 ≤ 1 := by rw [hl0]; split <;> omega
  obtain ⟨r1, l1, hr1, hl1, H1⟩ : ∃ r1 l1 : Nat, r1 = (v1 + 18446744073709551616 - p1 % 18446744073709551616 - l0) % 18446744073709551616 ∧ l1 = (if v1 < p1 % 18446744073709551616 + l0 then 1 else 0) ∧
      ∀ w1, (callFunc 78 #[.int .u64 (v1 : Int), .int .u64 ((p1 % 18446744073709551616 : Nat) : Int), .int .u64 (l0 : Int)]).run Tryd.prog w1 = .ok (.value (.tuple #[.int .u64 (r1 : Int), .int .u64 (l1 : Int)])) w1 :=
    ⟨_, _, rfl, rfl, fun w1 => sub64_run v1 (p1 % 18446744073709551616) l0 b0 w1⟩
  have b1 : l1 ≤ 1 := by rw [hl1]; split <;> omega
  obtain ⟨r2, l2, hr2, hl2, H2⟩ : ∃ r2 l2 : Nat, r2 = (v2 + 18446744073709551616 - (m1 / 18446744073709551616 + p1 / 18446744073709551616) - l1) % 18446744073709551616 ∧ l2 = (if v2 < m1 / 18446744073709551616 + p1 / 18446744073709551616 + l1 then 1 else 0) ∧
      ∀ w1, (callFunc 78 #[.int .u64 (v2 : Int), .int .u64 ((m1 / 18446744073709551616 + p1 / 18446744073709551616 : Nat) : Int), .int .u64 (l1 : Int)]).run Tryd.prog w1 = .ok (.value (.tuple #[.int .u64 (r2 : Int), .int .u64 (l2 : Int)])) w1 :=
    ⟨_, _, rfl, rfl, fun w1 => sub64_run v2 (m1 / 18446744073709551616 + p1 / 18446744073709551616) l1 b1 w1⟩
  have b2 : l2 ≤ 1 := by rw [hl2]; split <;> omega
  obtain ⟨r3, l3, hr3, hl3, H3⟩ : ∃ r3 l3 : Nat, r3 = (v3 % 1152921504606846976 + 18446744073709551616 - 0 - l2) % 18446744073709551616 ∧ l3 = (if v3 % 1152921504606846976 < 0 + l2 then 1 else 0) ∧
      ∀ w1, (callFunc 78 #[.int .u64 ((v3 % 1152921504606846976 : Nat) : Int), .int .u64 0, .int .u64 (l2 : Int)]).run Tryd.prog w1 = .ok (.value (.tuple #[.int .u64 (r3 : Int), .int .u64 (l3 : Int)])) w1 :=
    ⟨_, _, rfl, rfl, fun w1 => sub64_run (v3 % 1152921504606846976) 0 l2 b2 w1⟩
  obtain ⟨e0, e1, b3, _, _, _, c0, c1, c2, c3⟩ := rest_L (V := V) h0 h1 h2 hv3 htb hm0 hm1 hp1 hl0 hr0 hl1 hr1 hl2 hr2 hl3 hr3 hV2
  have hR : v4 r0 r1 r2 r3 < 115792089237316195423570985008687907853269984665640564039457584007913129639936 := by unfold v4; omega
  have HW := fun w1 => wsum_f hR (B := LL) (by rw [LL_eq]; omega) w1
  rw [ws_v4 c0 c1 c2 c3, ws_LL, cell4, cell4] at HW
  have hwR := ws_v4 c0 c1 c2 c3
  clear hm0 hm1 hp1 hl0 hr0 hl1 hr1 hl2 hr2 hl3 hr3 hV2 hV ht htb
  generalize hmh0 : m0 / 18446744073709551616 = mh0 at *
  generalize hml0 : m0 % 18446744073709551616 = ml0 at *
  generalize hmh1 : m1 / 18446744073709551616 = mh1 at *
  generalize hml1 : m1 % 18446744073709551616 = ml1 at *
  generalize hph1 : p1 / 18446744073709551616 = ph1 at *
  generalize hpl1 : p1 % 18446744073709551616 = pl1 at *
  generalize mh1 + ph1 = d at *
  generalize v3 % 1152921504606846976 = v3' at *
  clear hmh0 hml0 hmh1 hml1 hph1 hpl1
  have e0' : (Us [v0, v1, v2, v3, u]).toArray = #[.int .u64 (v0 : Int), .int .u64 (v1 : Int), .int .u64 (v2 : Int), .int .u64 (v3 : Int), .int .u64 (u : Int)] := rfl
  rw [e0']
  clear e0'
  rcases (show l3 = 0 ∨ l3 = 1 by omega) with rfl | rfl
  · have hF := e0 rfl
    rw [← hF, hwR, cell4]
    have HK := Lib.hid (And.intro hF hR)
    clear e0 e1 HW hF hR hwR
    go_enter Tryd.func62, Tryd.ntmps62
    go_wp2_with (fail)
    refine (HM0 _).out.mono ?_
    rintro e w1 ⟨rfl, rfl⟩
    go_wp2_with (fail)
    refine (HM1 _).out.mono ?_
    rintro e w1 ⟨rfl, rfl⟩
    go_wp2_with (fail)
    refine bodyPost_ret (results_cell_row rfl _ _ (w.heap.size + 1) 59 _ (0, 0) _ rfl (blk3_1 w _ _ _ _) Tryd.underlying59 rfl (size_sc _ rfl)) rfl ⟨rfl, ?_⟩
    exact (((Below.refl _ _).alloc (Nat.le_refl _) _).alloc (by simp) _).alloc (by simp; omega) _
  · have hF := e1 rfl
    rw [hF] at HW
    rw [← hF]
    have hn : V % LL < 115792089237316195423570985008687907853269984665640564039457584007913129639936 := Nat.lt_trans (Nat.mod_lt _ (by decide)) (by decide)
    rw [hF]
    obtain ⟨x0, x1, x2, x3, _, hx, _⟩ := ws_cut hn
    rw [hx, cell4] at HW ⊢
    have HW := fun w1 => Lib.hid (HW w1)
    clear e0 e1 hF hR hwR hx hn
    go_enter Tryd.func62, Tryd.ntmps62
    go_wp2_with (fail)
    refine (HM0 _).out.mono ?_
    rintro e w1 ⟨rfl, rfl⟩
    go_wp2_with (fail)
    refine (HM1 _).out.mono ?_
    rintro e w1 ⟨rfl, rfl⟩
    go_wp2_with (fail)
    refine (HW _).out.mono ?_
    rintro e w1 ⟨rfl, hw1⟩
    have k1 := (blk3_1 w 59 (Us [0, 0, 0, 0]).toArray (.cells (Us [v0, v1, v2, v3, u]).toArray 25) (.cells (Us [r0, r1, r2, r3]).toArray 57)).later hw1
    have k2 := (blk3_2 w 57 (Us [r0, r1, r2, r3]).toArray (.cells (Us [v0, v1, v2, v3, u]).toArray 25) (.cells (Us [0, 0, 0, 0]).toArray 59)).later hw1
    have hbe := below_up ((((Below.refl w.heap.size w).alloc (Nat.le_refl _) _).alloc (by simp) _).alloc (by simp; omega) _) hw1
    have k1' := k1.rowFar (g' := w.heap.size + 1 + 1) (by omega) (Us [x0, x1, x2, x3]).toArray
    have k2' := k2.row (Us [x0, x1, x2, x3]).toArray
    have hbe' := below_setRow hbe (g := w.heap.size + 1 + 1) (cs := (Us [x0, x1, x2, x3]).toArray) (by omega)
    clear hw1
    go_wp2_with (first
      | (refine wpList_store_row rfl 57 _ _ rfl (w.heap.size + 1 + 1) rfl (Us [x0, x1, x2, x3]).toArray rfl 57 _ k2 (size_w4 _ rfl) rfl (Us_one _) ?_)
      | (refine wpList_load_row rfl 57 _ rfl (w.heap.size + 1 + 1) rfl 57 #[.int .u64 (x0 : Int), .int .u64 (x1 : Int), .int .u64 (x2 : Int), .int .u64 (x3 : Int)] (0, 0) _ k2' Tryd.underlying57 rfl (size_w4 _ rfl) ?_)
      | (refine wpList_store_row rfl 59 _ _ rfl (w.heap.size + 1) rfl (Us [x0, x1, x2, x3]).toArray rfl 59 _ k1' (size_sc _ rfl) rfl (Us_one _) ?_))
    refine bodyPost_ret (results_cell_row rfl _ _ (w.heap.size + 1) 59 (Us [x0, x1, x2, x3]).toArray (0, 0) _ rfl (k1'.row _) Tryd.underlying59 rfl (size_sc _ rfl)) rfl ⟨rfl, ?_⟩
    exact below_setRow hbe' (by omega) _
end Go.Proofs.YtgmiaaapaiccdaaDoor
/-
  THE PROGRAM'S SCALARS: next: 2^32 times a number, and half times another.
-/
namespace Nums
/-- What a's word k hands on above. -/
def upw (a : List Nat) : Nat → Nat
  | 0 => 0
  | k + 1 => a[k]! / 4294967296
/-- What is carried into word k. -/
def ful (a b : List Nat) (h : Nat) : Nat → Nat
  | 0 => 0
  | k + 1 => (b[k]! * h + ful a b h k + (a[k]! % 4294967296 * 4294967296 + upw a k)) / 18446744073709551616
def nxw (a b : List Nat) (h k : Nat) : Nat := (b[k]! * h + ful a b h k + (a[k]! % 4294967296 * 4294967296 + upw a k)) % 18446744073709551616
theorem upw_lt {a : List Nat} (ha : ∀ k, k < 4 → a[k]! < 18446744073709551616) : ∀ k, k ≤ 4 → upw a k < 4294967296
  | 0, _ => by
    show 0 < 4294967296
    decide
  | k + 1, hk => by
    have := ha k (by omega)
    show a[k]! / 4294967296 < 4294967296
    omega
theorem prodh {b h : Nat} (hb : b < 18446744073709551616) (hh : h < 4294967296) : b * h ≤ 18446744073709551615 * 4294967295 := Nat.mul_le_mul (by omega) (by omega)
theorem ful_lt {a b : List Nat} {h : Nat} (ha : ∀ k, k < 4 → a[k]! < 18446744073709551616) (hb : ∀ k, k < 4 → b[k]! < 18446744073709551616) (hh : h < 4294967296) : ∀ k, k ≤ 4 → ful a b h k < 8589934592
  | 0, _ => by
    show 0 < 8589934592
    decide
  | k + 1, hk => by
    have h0 := ful_lt ha hb hh k (by omega)
    have h1 := upw_lt ha k (by omega)
    have h2 := ha k (by omega)
    have h3 := prodh (hb k (by omega)) hh
    show (b[k]! * h + ful a b h k + (a[k]! % 4294967296 * 4294967296 + upw a k)) / 18446744073709551616 < 8589934592
    omega
theorem mxl5 (f : Nat → Nat) (a0 a1 a2 a3 a4 : Nat) : mxl f [a0, a1, a2, a3, a4] 4 = [f 0, f 1, f 2, f 3, a4] := rfl
/-- The words, and what stands above them. -/
theorem next_v4 {A B h : Nat} (hA : A < 115792089237316195423570985008687907853269984665640564039457584007913129639936) (hB : B < 115792089237316195423570985008687907853269984665640564039457584007913129639936) :
    v4 (nxw (ws A) (ws B) h 0) (nxw (ws A) (ws B) h 1) (nxw (ws A) (ws B) h 2) (nxw (ws A) (ws B) h 3) + 115792089237316195423570985008687907853269984665640564039457584007913129639936 * (ful (ws A) (ws B) h 4 + upw (ws A) 4) = 4294967296 * A + B * h := by
  obtain ⟨a0, a1, a2, a3, eA, wA, p0, p1, p2, p3⟩ := ws_cut hA
  obtain ⟨b0, b1, b2, b3, eB, wB, q0, q1, q2, q3⟩ := ws_cut hB
  rw [wA, wB]
  have u0 : upw [a0, a1, a2, a3] 0 = 0 := rfl
  have u1 : upw [a0, a1, a2, a3] 1 = a0 / 4294967296 := rfl
  have u2 : upw [a0, a1, a2, a3] 2 = a1 / 4294967296 := rfl
  have u3 : upw [a0, a1, a2, a3] 3 = a2 / 4294967296 := rfl
  have u4 : upw [a0, a1, a2, a3] 4 = a3 / 4294967296 := rfl
  have f0 : ful [a0, a1, a2, a3] [b0, b1, b2, b3] h 0 = 0 := rfl
  have f1 : ful [a0, a1, a2, a3] [b0, b1, b2, b3] h 1 = (b0 * h + ful [a0, a1, a2, a3] [b0, b1, b2, b3] h 0 + (a0 % 4294967296 * 4294967296 + upw [a0, a1, a2, a3] 0)) / 18446744073709551616 := rfl
  have f2 : ful [a0, a1, a2, a3] [b0, b1, b2, b3] h 2 = (b1 * h + ful [a0, a1, a2, a3] [b0, b1, b2, b3] h 1 + (a1 % 4294967296 * 4294967296 + upw [a0, a1, a2, a3] 1)) / 18446744073709551616 := rfl
  have f3 : ful [a0, a1, a2, a3] [b0, b1, b2, b3] h 3 = (b2 * h + ful [a0, a1, a2, a3] [b0, b1, b2, b3] h 2 + (a2 % 4294967296 * 4294967296 + upw [a0, a1, a2, a3] 2)) / 18446744073709551616 := rfl
  have f4 : ful [a0, a1, a2, a3] [b0, b1, b2, b3] h 4 = (b3 * h + ful [a0, a1, a2, a3] [b0, b1, b2, b3] h 3 + (a3 % 4294967296 * 4294967296 + upw [a0, a1, a2, a3] 3)) / 18446744073709551616 := rfl
  have n0 : nxw [a0, a1, a2, a3] [b0, b1, b2, b3] h 0 = (b0 * h + ful [a0, a1, a2, a3] [b0, b1, b2, b3] h 0 + (a0 % 4294967296 * 4294967296 + upw [a0, a1, a2, a3] 0)) % 18446744073709551616 := rfl
  have n1 : nxw [a0, a1, a2, a3] [b0, b1, b2, b3] h 1 = (b1 * h + ful [a0, a1, a2, a3] [b0, b1, b2, b3] h 1 + (a1 % 4294967296 * 4294967296 + upw [a0, a1, a2, a3] 1)) % 18446744073709551616 := rfl
  have n2 : nxw [a0, a1, a2, a3] [b0, b1, b2, b3] h 2 = (b2 * h + ful [a0, a1, a2, a3] [b0, b1, b2, b3] h 2 + (a2 % 4294967296 * 4294967296 + upw [a0, a1, a2, a3] 2)) % 18446744073709551616 := rfl
  have n3 : nxw [a0, a1, a2, a3] [b0, b1, b2, b3] h 3 = (b3 * h + ful [a0, a1, a2, a3] [b0, b1, b2, b3] h 3 + (a3 % 4294967296 * 4294967296 + upw [a0, a1, a2, a3] 3)) % 18446744073709551616 := rfl
  have eBh : B * h = b0 * h + 18446744073709551616 * (b1 * h) + 340282366920938463463374607431768211456 * (b2 * h) + 6277101735386680763835789423207666416102355444464034512896 * (b3 * h) := by
    rw [eB]
    unfold v4
    grind only
  rw [eBh, eA]
  generalize nxw [a0, a1, a2, a3] [b0, b1, b2, b3] h 0 = x0 at *
  generalize nxw [a0, a1, a2, a3] [b0, b1, b2, b3] h 1 = x1 at *
  generalize nxw [a0, a1, a2, a3] [b0, b1, b2, b3] h 2 = x2 at *
  generalize nxw [a0, a1, a2, a3] [b0, b1, b2, b3] h 3 = x3 at *
  generalize ful [a0, a1, a2, a3] [b0, b1, b2, b3] h 0 = c0 at *
  generalize ful [a0, a1, a2, a3] [b0, b1, b2, b3] h 1 = c1 at *
  generalize ful [a0, a1, a2, a3] [b0, b1, b2, b3] h 2 = c2 at *
  generalize ful [a0, a1, a2, a3] [b0, b1, b2, b3] h 3 = c3 at *
  generalize ful [a0, a1, a2, a3] [b0, b1, b2, b3] h 4 = c4 at *
  generalize upw [a0, a1, a2, a3] 0 = y0 at *
  generalize upw [a0, a1, a2, a3] 1 = y1 at *
  generalize upw [a0, a1, a2, a3] 2 = y2 at *
  generalize upw [a0, a1, a2, a3] 3 = y3 at *
  generalize upw [a0, a1, a2, a3] 4 = y4 at *
  generalize b0 * h = z0 at *
  generalize b1 * h = z1 at *
  generalize b2 * h = z2 at *
  generalize b3 * h = z3 at *
  clear eBh eA eB wA wB hA hB q0 q1 q2 q3
  unfold v4
  omega
end Nums
namespace Go.Proofs.YtgmiaaapaiccdaaDoor
open Go.RowKit Go.IntWalk Nums

theorem size_w5 (cs : Array Value) (h : cs.size = 5) : (Tryd.prog.info? 25).map (·.size) = some cs.size := by
  rw [h]
  kernel_rfl
def zw5 : Array Value := (Us [0, 0, 0, 0, 0]).toArray

/-- What next's rows lie in. -/
structure NS (w wr : World) (a b l : List Nat) : Prop where
  ba : Blk wr w.heap.size 59 (Us a).toArray
  bb : Blk wr (w.heap.size + 1) 59 (Us b).toArray
  bo : Blk wr (w.heap.size + 1 + 1) 59 z4
  bv : Blk wr (w.heap.size + 1 + 1 + 1) 25 (Us l).toArray
  be : Below w.heap.size w wr
theorem NS.set {w wr : World} {a b l : List Nat} (h : NS w wr a b l) (k x : Nat) : NS w (wr.setCell ⟨w.heap.size + 1 + 1 + 1, k, none⟩ (.int .u64 (x : Int))) a b (l.set k x) where
  ba := h.ba.far (by show w.heap.size ≠ w.heap.size + 1 + 1 + 1; omega) _
  bb := h.bb.far (by show w.heap.size + 1 ≠ w.heap.size + 1 + 1 + 1; omega) _
  bo := h.bo.far (by show w.heap.size + 1 + 1 ≠ w.heap.size + 1 + 1 + 1; omega) _
  bv := by
    have h4 := h.bv.set k (.int .u64 (x : Int))
    rwa [Us_set] at h4
  be := h.be.setCell (by show w.heap.size ≤ w.heap.size + 1 + 1 + 1; omega) _

set_option maxRecDepth 100000 in
set_option maxHeartbeats 2000000 in
theorem next_f {A B h : Nat} (hA : A < LL) (hB : B < LL) (hh : h < 4294967296) (w : World) :
    Calls Tryd.prog 60 #[.agg (Us (ws A)).toArray, .agg (Us (ws B)).toArray, .int .u64 (h : Int)] w fun e w' => e = .returned (.agg (Us (ws ((4294967296 * A + B * h) % LL))).toArray) ∧ Below w.heap.size w w' := by
  have hA2 : A < 115792089237316195423570985008687907853269984665640564039457584007913129639936 := Nat.lt_trans hA (by decide)
  have hB2 : B < 115792089237316195423570985008687907853269984665640564039457584007913129639936 := Nat.lt_trans hB (by decide)
  have hE := next_v4 (h := h) hA2 hB2
  have ha := fun k => ws_get_lt A (k := k)
  have hb := fun k => ws_get_lt B (k := k)
  have la := ws_len A
  have lb := ws_len B
  have hf := ful_lt ha hb hh
  have hu := upw_lt ha
  have hn : ∀ k, nxw (ws A) (ws B) h k < 18446744073709551616 := fun k => Nat.mod_lt _ (by decide)
  have hBh : B * h ≤ LL * 4294967296 := Nat.mul_le_mul (Nat.le_of_lt hB) (Nat.le_of_lt hh)
  have hR := fun w1 => red_f (hn 0) (hn 1) (hn 2) (hn 3) (u := ful (ws A) (ws B) h 4 + upw (ws A) 4) (by
    unfold v4 at hE
    rw [LL_eq] at hA hB hBh
    generalize B * h = z at *
    omega) w1
  rw [hE] at hR
  generalize (4294967296 * A + B * h) % LL = res at *
  clear hE hBh hA2 hB2 hn hA hB
  generalize ws A = a at *
  generalize ws B = b at *
  have hR := Lib.hid hR
  go_enter Tryd.func60, Tryd.ntmps60
  go_wp2
  go_loopw [14, 8, 9] (fun i u8 u9 wr => ∃ k : Nat, k ≤ 4 ∧ i = .int .i64 k ∧ u8 = .int .u64 (upw a k : Nat) ∧ u9 = .int .u64 (ful a b h k : Nat) ∧ NS w wr a b (mxl (nxw a b h) [0, 0, 0, 0, 0] k)) (fun i _ _ _ => 4 - (intOf i).toNat)
  case atStart =>
    refine ⟨0, by omega, rfl, rfl, rfl, ?_, ?_, ?_, ?_, ?_⟩
    · exact blk4_0 w _ _ _ _ _
    · exact blk4_1 w _ _ _ _ _
    · exact blk4_2 w _ _ _ _ _
    · exact blk4_3 w _ _ _ _ _
    · exact below4 w _ _ _ _
  case round =>
    obtain ⟨k, hk, rfl, rfl, rfl, hS⟩ := hrel
    by_cases hlt : k < 4
    · have hN := hS.set k (nxw a b h k)
      rw [mxl_set] at hN
      have hU : upw a (k + 1) = a[k]! / 4294967296 := rfl
      have hF : ful a b h (k + 1) = (b[k]! * h + ful a b h k + (a[k]! % 4294967296 * 4294967296 + upw a k)) / 18446744073709551616 := rfl
      have hX : nxw a b h k = (b[k]! * h + ful a b h k + (a[k]! % 4294967296 * 4294967296 + upw a k)) % 18446744073709551616 := rfl
      have c0 := (hS.ba.cell k).trans (Us_at (by omega))
      have c1 := (hS.bb.cell k).trans (Us_at (by omega))
      have c2 := (hS.bv.cell k).trans (Us_at (by rw [mxl_len]; simp; omega))
      have c3 := hS.bv.free k
      have b0 := ha k hlt
      have b1 := hb k hlt
      have b2 := hf k (by omega)
      have b3 := hu k (by omega)
      have b4 := prodh b1 hh
      have b5 := hf (k + 1) (by omega)
      rw [hF] at b5
      generalize (mxl (nxw a b h) [0, 0, 0, 0, 0] k)[k]! = old at *
      generalize a[k]! = u at *
      generalize b[k]! = v at *
      generalize upw a k = y at *
      generalize ful a b h k = c at *
      generalize nxw a b h k = x at *
      have HM := fun w1 => Lib.hid (mul64_any v h b1 (by omega) w1)
      generalize v * h = z at *
      have hA1 := fun w1 => add64_run (z % 18446744073709551616) c 0 (by omega) w1
      have q1 : IntKind.u64.wrap (((z / 18446744073709551616 : Nat) : Int) + (((z % 18446744073709551616 + c + 0) / 18446744073709551616 : Nat) : Int)) = ((z / 18446744073709551616 + (z % 18446744073709551616 + c + 0) / 18446744073709551616 : Nat) : Int) := by
        rw [IntKind.wrap_u64]
        omega
      have q2 : bits .or .u64 (IntKind.u64.wrap ((u : Int) * 4294967296)) (y : Int) = ((u % 4294967296 * 4294967296 + y : Nat) : Int) := by
        have e1 : IntKind.u64.wrap ((u : Int) * 4294967296) = ((u % 4294967296 * 4294967296 : Nat) : Int) := by
          rw [IntKind.wrap_u64]
          omega
        rw [e1]
        exact orW 32 _ _ (by omega) (by omega) (by omega) (by omega)
      have hA2 := fun w1 => add64_run ((z % 18446744073709551616 + c + 0) % 18446744073709551616) (u % 4294967296 * 4294967296 + y) 0 (by omega) w1
      have q3 : IntKind.u64.wrap (((z / 18446744073709551616 + (z % 18446744073709551616 + c + 0) / 18446744073709551616 : Nat) : Int) + ((((z % 18446744073709551616 + c + 0) % 18446744073709551616 + (u % 4294967296 * 4294967296 + y) + 0) / 18446744073709551616 : Nat) : Int)) = (((z + c + (u % 4294967296 * 4294967296 + y)) / 18446744073709551616 : Nat) : Int) := by
        rw [IntKind.wrap_u64]
        omega
      have e4 : ((z % 18446744073709551616 + c + 0) % 18446744073709551616 + (u % 4294967296 * 4294967296 + y) + 0) % 18446744073709551616 = x := by omega
      have q5 : (0 : Int) ≤ (k : Int) := by omega
      have q6 : (u : Int) / 4294967296 = ((u / 4294967296 : Nat) : Int) := div32 u
      rw [e4] at hA2
      have HK := Lib.hid (And.intro hN (And.intro hU hF))
      clear hN hU hF hX hS b4 b5 b2 b3 e4 b0 b1 hf hu ha hb
      generalize (z + c + (u % 4294967296 * 4294967296 + y)) / 18446744073709551616 = n9 at *
      generalize ((z % 18446744073709551616 + c + 0) % 18446744073709551616 + (u % 4294967296 * 4294967296 + y) + 0) / 18446744073709551616 = m1 at *
      generalize u % 4294967296 * 4294967296 + y = m2 at *
      generalize z / 18446744073709551616 + (z % 18446744073709551616 + c + 0) / 18446744073709551616 = m3 at *
      generalize (z % 18446744073709551616 + c + 0) % 18446744073709551616 = m4 at *
      generalize (z % 18446744073709551616 + c + 0) / 18446744073709551616 = m5 at *
      generalize z % 18446744073709551616 = m6 at *
      generalize z / 18446744073709551616 = m7 at *
      generalize u / 4294967296 = m8 at *
      replace hA1 : ∀ w1, (callFunc 77 #[.int .u64 (m6 : Int), .int .u64 (c : Int), .int .u64 0]).run Tryd.prog w1 = .ok (.value (.tuple #[.int .u64 (m4 : Int), .int .u64 (m5 : Int)])) w1 := hA1
      replace hA2 : ∀ w1, (callFunc 77 #[.int .u64 (m4 : Int), .int .u64 (m2 : Int), .int .u64 0]).run Tryd.prog w1 = .ok (.value (.tuple #[.int .u64 (x : Int), .int .u64 (m1 : Int)])) w1 := hA2
      go_wp2_with (fail)
      refine (HM _).out.mono ?_
      rintro e w1 ⟨rfl, rfl⟩
      go_wp2
      go_roundw
      case rel =>
        obtain ⟨hN, hU, hF⟩ := HK.out
        exact ⟨k + 1, by omega, by go_num, by rw [hU], by rw [hF], hN⟩
      case measure => simp [intOf]; omega
    · obtain rfl : k = 4 := by omega
      have b2 := hf 4 (by omega)
      have b3 := hu 4 (by omega)
      have e5 : mxl (nxw a b h) [0, 0, 0, 0, 0] 4 = [nxw a b h 0, nxw a b h 1, nxw a b h 2, nxw a b h 3, 0] := mxl5 _ _ _ _ _ _
      rw [e5] at hS
      have hN := hS.set 4 (ful a b h 4 + upw a 4)
      have c2 := (hS.bv.cell 4).trans (Us_at (by simp))
      have c3 := hS.bv.free 4
      have q1 : IntKind.u64.wrap (((ful a b h 4 : Nat) : Int) + ((upw a 4 : Nat) : Int)) = ((ful a b h 4 + upw a 4 : Nat) : Int) := by
        rw [IntKind.wrap_u64]
        omega
      have e6 : [nxw a b h 0, nxw a b h 1, nxw a b h 2, nxw a b h 3, 0].set 4 (ful a b h 4 + upw a 4) = [nxw a b h 0, nxw a b h 1, nxw a b h 2, nxw a b h 3, ful a b h 4 + upw a 4] := rfl
      rw [e6] at hN
      clear e5 e6 hf hu ha hb b2 b3 hS
      generalize ful a b h 4 + upw a 4 = s at *
      generalize ful a b h 4 = f4 at *
      generalize upw a 4 = u4 at *
      have hbv := hN.bv
      generalize hl : (Us [nxw a b h 0, nxw a b h 1, nxw a b h 2, nxw a b h 3, s]).toArray = cs at *
      have hcs : cs.size = 5 := by rw [← hl]; rfl
      have HN := Lib.hid hN
      clear hN hl
      go_wp2_with (refine wpList_load_row rfl 25 _ rfl (w.heap.size + 1 + 1 + 1) rfl 25 cs (0, 0) _ hbv Tryd.underlying25 rfl (size_w5 _ hcs) ?_)
      refine (hR.out _).mono ?_
      rintro e w1 ⟨rfl, hw1⟩
      have hN := HN.out
      have ho := hN.bo.later hw1
      have hbe := below_up hN.be hw1
      have hz := len_u4 (ws_len res)
      clear hN HN hw1 hR
      go_wp2_with (refine wpList_store_row rfl 59 _ _ rfl (w.heap.size + 1 + 1) rfl (Us (ws res)).toArray rfl 59 _ ho (size_sc _ hz) (by rw [hz]; rfl) (Us_one _) ?_)
      refine bodyPost_ret (results_cell_row rfl _ _ (w.heap.size + 1 + 1) 59 (Us (ws res)).toArray (0, 0) _ rfl (ho.row _) Tryd.underlying59 rfl (size_sc _ hz)) rfl ⟨rfl, ?_⟩
      exact below_setRow hbe (by omega) _
end Go.Proofs.YtgmiaaapaiccdaaDoor
/-
  THE PROGRAM'S SCALARS: Wide: 64 bytes modulo L.
-/
namespace Go.Proofs.YtgmiaaapaiccdaaDoor
open Go.RowKit Go.IntWalk Nums

theorem own_next : Own 60 := fun _ _ => by go_simp

theorem size_w64 (cs : Array Value) (h : cs.size = 64) : (Tryd.prog.info? 55).map (·.size) = some cs.size := by
  rw [h]
  kernel_rfl
theorem len_b64 {l : List UInt8} (h : l.length = 64) : (By l).toArray.size = 64 := by rw [List.size_toArray, By_len, h]

theorem le_cons4 {l : List UInt8} {i : Nat} (h : i + 4 ≤ l.length) : le (l.drop i) = (l[i]!).toNat + 256 * (l[i + 1]!).toNat + 65536 * (l[i + 2]!).toNat + 16777216 * (l[i + 3]!).toNat + 4294967296 * le (l.drop (i + 4)) := by
  have e : ∀ k k', k < l.length → k' = k + 1 → le (l.drop k) = (l[k]!).toNat + 256 * le (l.drop k') := fun k k' hk h => by
    rw [h, List.drop_eq_getElem_cons hk, getElem!_pos l k hk]
    rfl
  have e0 := e i (i + 1) (by omega) rfl
  have e1 := e (i + 1) (i + 2) (by omega) rfl
  have e2 := e (i + 2) (i + 3) (by omega) rfl
  have e3 := e (i + 3) (i + 4) (by omega) rfl
  rw [e0, e1, e2, e3]
  omega
theorem orL (i x y : Nat) (hx : x < 2 ^ i) (hy : y % 2 ^ i = 0) (h1 : x < 18446744073709551616) (h2 : y < 18446744073709551616) : bits .or .u64 (x : Int) (y : Int) = ((x + y : Nat) : Int) := by
  rw [u64_or_nat x y h1 h2, Nat.or_comm, nat_join i y x hy hx, Nat.add_comm]
theorem wide_step (X h L : Nat) : (4294967296 * (X % L) + 1 * h) % L = (h + 4294967296 * X) % L := by
  rw [Nat.one_mul, Nat.add_comm h, Nat.add_mod, Nat.mul_mod_mod, ← Nat.add_mod]

/-- What Wide's rows lie in. -/
structure WS (w wr : World) (l : List UInt8) (n : Nat) : Prop where
  b0 : Blk wr w.heap.size 55 (By l).toArray
  b1 : Blk wr (w.heap.size + 1) 59 z4
  b2 : Blk wr (w.heap.size + 1 + 1) 59 (Us (ws n)).toArray
  be : Below w.heap.size w wr
theorem WS.drew {w wr : World} {l : List UInt8} {n : Nat} (h : WS w wr l n) : WS w wr.drew l n := ⟨h.b0, h.b1, h.b2, h.be.drew⟩
theorem WS.up {w wr w1 : World} {l : List UInt8} {n : Nat} (h : WS w wr l n) (k : Up wr w1) : WS w w1 l n := ⟨k.blk h.b0, k.blk h.b1, k.blk h.b2, below_up h.be k⟩
theorem WS.set {w wr : World} {l : List UInt8} {n : Nat} (h : WS w wr l n) (m : Nat) : WS w (wr.setRow (w.heap.size + 1 + 1) (Us (ws m)).toArray) l m :=
  ⟨h.b0.rowFar (by omega) _, h.b1.rowFar (by omega) _, h.b2.row _, below_setRow h.be (by omega) _⟩

theorem built_one : Tryd.prog.built 57 [(0, .int .u64 1)] = some #[.int .u64 1, .int .u64 0, .int .u64 0, .int .u64 0] := by kernel_rfl
theorem built_sc1 : Tryd.prog.built 59 [(0, .agg #[.int .u64 1, .int .u64 0, .int .u64 0, .int .u64 0])] = some #[.int .u64 1, .int .u64 0, .int .u64 0, .int .u64 0] := by kernel_rfl
theorem ws_1 : ws 1 = [1, 0, 0, 0] := by decide

set_option maxRecDepth 100000 in
set_option maxHeartbeats 2000000 in
theorem wide_f {l : List UInt8} (hl : l.length = 64) (w : World) :
    Calls Tryd.prog 28 #[.agg (By l).toArray] w fun e w' => e = .returned (.agg (Us (ws (le l % LL))).toArray) ∧ Below w.heap.size w w' := by
  have hz := len_b64 hl
  go_enter Tryd.func28, Tryd.ntmps28
  refine wp_seq_k fun K hK => ?_
  refine wp_region_lit ?_
  refine wpl_box (By l).toArray rfl rfl rfl ?_
  refine wpl_alloc (zs := z4) rfl rfl (by kernel_rfl) ?_
  refine wpl_nil ?_
  go_simp
  refine hK _ _ ?_
  clear hK K
  refine wp_seq_k fun K hK => ?_
  refine wp_region_lit ?_
  refine wpl_alloc (zs := z4) rfl rfl (by kernel_rfl) ?_
  refine wpl_nil ?_
  go_simp
  refine hK _ _ ?_
  clear hK K
  refine wp_at (fun W => WS w W l 0) ⟨blk3_0 w _ _ _ _, blk3_1 w _ _ _ _, blk3_2 w _ _ _ _, (((Below.refl _ _).alloc (Nat.le_refl _) _).alloc (by simp) _).alloc (by simp; omega) _⟩ ?_
  intro W hW
  have HW := Lib.hid hW
  clear hW
  go_wp2
  go_loopw [4] (fun i wr => ∃ k : Nat, k ≤ 16 ∧ i = .int .i64 (4 * (k : Int) - 4) ∧ WS w wr l (le (l.drop (4 * k)) % LL)) (fun i _ => (intOf i + 4).toNat)
  case atStart =>
    refine ⟨16, by omega, rfl, ?_⟩
    rw [List.drop_of_length_le (by omega)]
    exact HW.out
  case round =>
    clear HW
    obtain ⟨k, hk, rfl, hS⟩ := hrel
    by_cases hlt : 0 < k
    · obtain ⟨i, rfl⟩ : ∃ i, k = i + 1 := ⟨k - 1, by omega⟩
      have e0 : 4 * ((i + 1 : Nat) : Int) - 4 = ((4 * i : Nat) : Int) := by omega
      rw [e0]
      have hle := le_cons4 (l := l) (i := 4 * i) (by omega)
      have e4 : 4 * (i + 1) = 4 * i + 4 := by omega
      rw [e4] at hS
      have hn := fun w1 h hh => next_f (A := le (l.drop (4 * i + 4)) % LL) (B := 1) (h := h) (Nat.mod_lt _ (by decide)) (by decide) hh w1
      rw [ws_1, cell4] at hn
      have c0 := (hS.b0.cell (4 * i)).trans (By_get (by omega))
      have c1 := (hS.b0.cell (4 * i + 1)).trans (By_get (by omega))
      have c2 := (hS.b0.cell (4 * i + 2)).trans (By_get (by omega))
      have c3 := (hS.b0.cell (4 * i + 3)).trans (By_get (by omega))
      have x0 := (l[4 * i]!).toNat_lt
      have x1 := (l[4 * i + 1]!).toNat_lt
      have x2 := (l[4 * i + 2]!).toNat_lt
      have x3 := (l[4 * i + 3]!).toNat_lt
      generalize (l[4 * i]!).toNat = y0 at *
      generalize (l[4 * i + 1]!).toNat = y1 at *
      generalize (l[4 * i + 2]!).toNat = y2 at *
      generalize (l[4 * i + 3]!).toNat = y3 at *
      obtain ⟨s1, hs1⟩ : ∃ s, s = y0 + y1 * 256 := ⟨_, rfl⟩
      obtain ⟨s2, hs2⟩ : ∃ s, s = s1 + y2 * 65536 := ⟨_, rfl⟩
      obtain ⟨s3, hs3⟩ : ∃ s, s = s2 + y3 * 16777216 := ⟨_, rfl⟩
      have q1 : bits .or .u64 (y0 : Int) ((y1 : Int) * 256) = (s1 : Int) := by
        rw [hs1, ← orL 8 y0 (y1 * 256) (by omega) (by omega) (by omega) (by omega)]
        rfl
      have q2 : bits .or .u64 (s1 : Int) ((y2 : Int) * 65536) = (s2 : Int) := by
        rw [hs2, ← orL 16 s1 (y2 * 65536) (by omega) (by omega) (by omega) (by omega)]
        rfl
      have q3 : bits .or .u64 (s2 : Int) ((y3 : Int) * 16777216) = (s3 : Int) := by
        rw [hs3, ← orL 24 s2 (y3 * 16777216) (by omega) (by omega) (by omega) (by omega)]
        rfl
      have hn3 := fun w1 => Lib.hid (hn w1 s3 (by omega))
      have hres : (4294967296 * (le (l.drop (4 * i + 4)) % LL) + 1 * s3) % LL = le (l.drop (4 * i)) % LL := by
        rw [wide_step, hle]
        congr 1
        omega
      rw [hres] at hn3
      have k1 : IntKind.i64.wrap (((4 * i : Nat) : Int) + 1) = ((4 * i + 1 : Nat) : Int) := by rw [i64_left, wrap64_in _ (by omega)]; omega
      have k2 : IntKind.i64.wrap (((4 * i : Nat) : Int) + 2) = ((4 * i + 2 : Nat) : Int) := by rw [i64_left, wrap64_in _ (by omega)]; omega
      have k3 : IntKind.i64.wrap (((4 * i : Nat) : Int) + 3) = ((4 * i + 3 : Nat) : Int) := by rw [i64_left, wrap64_in _ (by omega)]; omega
      have g0 : ((4 * i : Nat) : Int) < 64 := by omega
      have g1 : ((4 * i + 1 : Nat) : Int) < 64 := by omega
      have g2 : ((4 * i + 2 : Nat) : Int) < 64 := by omega
      have g3 : ((4 * i + 3 : Nat) : Int) < 64 := by omega
      have HS := Lib.hid hS
      have hA : 4 * i ≤ 60 := by omega
      have HE := Lib.hid (show ((4 * i : Nat) : Int) = 4 * (i : Int) ∧ i ≤ 15 from ⟨by omega, by omega⟩)
      clear hS hle hn hs1 hs2 hs3 hres e0 e4 hk hlt
      generalize le (l.drop (4 * i + 4)) % LL = X at *
      generalize hY : le (l.drop (4 * i)) % LL = Y at *
      generalize 4 * i + 1 = A1 at *
      generalize 4 * i + 2 = A2 at *
      generalize 4 * i + 3 = A3 at *
      generalize hA0 : 4 * i = A at *
      go_wp2
      go_region
      have h2 := HS.out.drew.b2
      go_wp2_with (refine wpList_load_row rfl 59 _ rfl (w.heap.size + 1 + 1) rfl 59 (Us (ws X)).toArray (0, 0) _ h2 Tryd.underlying59 rfl (size_sc _ (len_u4 (ws_len X))) ?_)
      clear h2
      refine (hn3 _).out.mono ?_
      rintro e w1 ⟨rfl, hw1⟩
      have h3 := HS.out.drew.up hw1
      have h2 := h3.b2
      have H3 := Lib.hid (h3.set Y)
      clear h3 hw1 HS hn3
      go_wp2_with (refine wpList_store_row rfl 59 _ _ rfl (w.heap.size + 1 + 1) rfl (Us (ws Y)).toArray rfl 59 _ h2 (size_sc _ (len_u4 (ws_len Y))) (by rw [len_u4 (ws_len X), len_u4 (ws_len Y)]) (Us_one _) ?_)
      go_roundw
      case rel =>
        refine ⟨i, by have := HE.out; omega, by have := HE.out; go_num, ?_⟩
        rw [hA0, hY]
        exact H3.out
      case measure => have := HE.out; simp [intOf]; omega
    · obtain rfl : k = 0 := by omega
      have e0 : l.drop (4 * 0) = l := rfl
      rw [e0] at hS
      obtain ⟨b0, b1, b2, be⟩ := hS
      have hzs := len_u4 (ws_len (le l % LL))
      clear b0
      go_wp2_with (first
        | (refine wpList_load_row rfl 59 _ rfl (w.heap.size + 1 + 1) rfl 59 (Us (ws (le l % LL))).toArray (0, 0) _ b2 Tryd.underlying59 rfl (size_sc _ hzs) ?_)
        | (refine wpList_store_row rfl 59 _ _ rfl (w.heap.size + 1) rfl (Us (ws (le l % LL))).toArray rfl 59 _ b1 (size_sc _ hzs) (by rw [hzs]; rfl) (Us_one _) ?_))
      refine bodyPost_ret (results_cell_row rfl _ _ (w.heap.size + 1) 59 (Us (ws (le l % LL))).toArray (0, 0) _ rfl (b1.row _) Tryd.underlying59 rfl (size_sc _ hzs)) rfl ⟨rfl, ?_⟩
      exact below_setRow be (by omega) _
end Go.Proofs.YtgmiaaapaiccdaaDoor
/-
  THE PROGRAM'S SCALARS: Hash: the bytes of four words.
-/
namespace Go.Proofs.YtgmiaaapaiccdaaDoor
open Go.RowKit Go.IntWalk Nums

theorem ws_wd (n : Nat) {k : Nat} (hk : k < 4) : (ws n)[k]! = wd n k := by
  have h4 : k = 0 ∨ k = 1 ∨ k = 2 ∨ k = 3 := by omega
  rcases h4 with rfl | rfl | rfl | rfl
  · show n % 18446744073709551616 = n / 1 % 18446744073709551616
    rw [Nat.div_one]
  · rfl
  · rfl
  · rfl

/-- What Hash's rows lie in. -/
structure HS4 (w wr : World) (a : List Nat) (b : List UInt8) (n : Nat) : Prop where
  b0 : Blk wr w.heap.size 59 (Us a).toArray
  b1 : Blk wr (w.heap.size + 1) 22 z32
  b2 : Blk wr (w.heap.size + 1 + 1) 22 (By (fb b n)).toArray
  be : Below w.heap.size w wr
theorem HS4.set {w wr : World} {a : List Nat} {b : List UInt8} {n : Nat} (h : HS4 w wr a b n) : HS4 w (wr.setCell ⟨w.heap.size + 1 + 1, n, none⟩ (.int .u8 ((b[n]!).toNat : Int))) a b (n + 1) where
  b0 := h.b0.far (by show w.heap.size ≠ w.heap.size + 1 + 1; omega) _
  b1 := h.b1.far (by show w.heap.size + 1 ≠ w.heap.size + 1 + 1; omega) _
  b2 := by
    have h4 := h.b2.set n (.int .u8 ((b[n]!).toNat : Int))
    rw [By_set, fb_set] at h4
    exact h4
  be := h.be.setCell (by show w.heap.size ≤ w.heap.size + 1 + 1; omega) _

set_option maxRecDepth 100000 in
set_option maxHeartbeats 1000000 in
theorem schash_f (n : Nat) (w : World) :
    Calls Tryd.prog 29 #[.agg (Us (ws n)).toArray] w fun e w' => e = .returned (.agg (By (Nums.bytes 32 n)).toArray) ∧ Below w.heap.size w w' := by
  have hbyte : ∀ m, m < 32 → ((Nums.bytes 32 n)[m]!).toNat = (ws n)[m / 8]! / 2 ^ (m % 8 * 8) % 256 := fun m hm => by
    rw [bytes_get 32 n hm, ws_wd n (by omega), Nat.mul_comm (m % 8), wd_byte _ _ _ (by omega)]
    congr 3
    omega
  have hbl : (Nums.bytes 32 n).length = 32 := bytes_len _ _
  have ha := fun k => ws_get_lt n (k := k)
  have la := ws_len n
  generalize Nums.bytes 32 n = b at *
  generalize ws n = a at *
  go_enter Tryd.func29, Tryd.ntmps29
  go_wp2
  go_loopw [5] (fun i wr => ∃ k : Nat, k ≤ 32 ∧ i = .int .i64 k ∧ HS4 w wr a b k) (fun i _ => 32 - (intOf i).toNat)
  case atStart =>
    refine ⟨0, by omega, rfl, blk3_0 w _ _ _ _, blk3_1 w _ _ _ _, ?_, (((Below.refl _ _).alloc (Nat.le_refl _) _).alloc (by simp) _).alloc (by simp; omega) _⟩
    rw [fb_zero]
    exact blk3_2 w _ _ _ _
  case round =>
    obtain ⟨m, hm, rfl, hS⟩ := hrel
    by_cases hlt : m < 32
    · have hN := hS.set
      have c0 := (hS.b0.cell (m / 8)).trans (Us_at (by omega))
      have hc := (hS.b2.cell m).trans (By_get (by rw [fb_len]; omega))
      have hf := hS.b2.free m
      have hb := hbyte m hlt
      have qd : (m : Int).tdiv 8 = ((m / 8 : Nat) : Int) := rfl
      have qm : (m : Int).tmod 8 = ((m % 8 : Nat) : Int) := rfl
      have qt : IntKind.i64.wrap (((m % 8 : Nat) : Int) * 8) = ((m % 8 * 8 : Nat) : Int) := by rw [i64_left, wrap64_in _ (by omega)]; omega
      have g1 : ((m / 8 : Nat) : Int) < 4 := by omega
      have g2 : ((m % 8 * 8 : Nat) : Int) ≤ 64 := by omega
      have g5 : (0 : Int) ≤ (m : Int) := by omega
      generalize a[m / 8]! = W at *
      generalize m / 8 = q at *
      generalize hs : m % 8 * 8 = s at *
      have q4 : IntKind.u8.wrap ((W : Int) / 2 ^ s) = ((b[m]!).toNat : Int) := by
        have f1 : ((W : Int) / 2 ^ s) = ((W / 2 ^ s : Nat) : Int) := by simp
        rw [f1, IntKind.wrap_u8', hb]
        omega
      have HN := Lib.hid hN
      clear hS hbyte hb hN hs ha
      generalize (fb b m)[m]! = old at *
      generalize (b[m]!).toNat = y at *
      generalize m % 8 = r at *
      go_wp2
      go_roundw
      case rel => exact ⟨m + 1, by omega, by go_num, HN.out⟩
      case measure => simp [intOf]; omega
    · obtain rfl : m = 32 := by omega
      obtain ⟨_, b1, b2, be⟩ := hS
      rw [fb_all hbl] at b2
      have hz := len_by hbl
      go_wp2_with (first
        | (refine wpList_load_row rfl 22 _ rfl (w.heap.size + 1 + 1) rfl 22 (By b).toArray (0, 0) _ b2 Tryd.underlying22 rfl (size_hash _ hz) ?_)
        | (refine wpList_store_row rfl 22 _ _ rfl (w.heap.size + 1) rfl (By b).toArray rfl 22 _ b1 (size_hash _ hz) (by rw [hz]; rfl) (By_one _) ?_))
      refine bodyPost_ret (results_cell_row rfl _ _ (w.heap.size + 1) 22 (By b).toArray (0, 0) _ rfl (b1.row _) Tryd.underlying22 rfl (size_hash _ hz)) rfl ⟨rfl, ?_⟩
      exact below_setRow be (by omega) _
end Go.Proofs.YtgmiaaapaiccdaaDoor
/-
  THE PROGRAM'S SCALARS: Add and Mul.
-/
namespace Go.Proofs.YtgmiaaapaiccdaaDoor
open Go.RowKit Go.IntWalk Nums

theorem own_wred : Own 62 := fun _ _ => by go_simp

set_option maxRecDepth 100000 in
set_option maxHeartbeats 1000000 in
theorem scadd_f {x y : Nat} (hx : x < LL) (hy : y < LL) (w : World) :
    Calls Tryd.prog 30 #[.agg (Us (ws x)).toArray, .agg (Us (ws y)).toArray] w fun e w' => e = .returned (.agg (Us (ws ((x + y) % LL))).toArray) ∧ Below w.heap.size w w' := by
  rw [LL_eq] at hx hy
  have hx2 : x < 115792089237316195423570985008687907853269984665640564039457584007913129639936 := by omega
  have hy2 : y < 115792089237316195423570985008687907853269984665640564039457584007913129639936 := by omega
  have hs2 : x + y < 115792089237316195423570985008687907853269984665640564039457584007913129639936 := by omega
  have HS := fun w1 => wsum_f hx2 hy2 w1
  rw [Nat.mod_eq_of_lt hs2] at HS
  obtain ⟨a0, a1, a2, a3, _, wA, _⟩ := ws_cut hx2
  obtain ⟨b0, b1, b2, b3, _, wB, _⟩ := ws_cut hy2
  obtain ⟨s0, s1, s2, s3, eS, wS, q0, q1, q2, q3⟩ := ws_cut hs2
  have HR := fun w1 => red_f q0 q1 q2 q3 (u := 0) (by omega) w1
  rw [← eS, Nat.mul_zero, Nat.add_zero] at HR
  rw [wA, wB, wS, cell4, cell4, cell4] at HS
  rw [wA, wB, cell4, cell4]
  have HS := fun w1 => Lib.hid (HS w1)
  have HR := fun w1 => Lib.hid (HR w1)
  have hz := len_u4 (ws_len ((x + y) % LL))
  clear hx hy hx2 hy2 hs2 wA wB wS eS q0 q1 q2 q3
  generalize ws ((x + y) % LL) = r at *
  have k2 := blk3_2 w 59 z4 (.cells #[.int .u64 (a0 : Int), .int .u64 (a1 : Int), .int .u64 (a2 : Int), .int .u64 (a3 : Int)] 59) (.cells #[.int .u64 (b0 : Int), .int .u64 (b1 : Int), .int .u64 (b2 : Int), .int .u64 (b3 : Int)] 59)
  have hbe : Below w.heap.size w (((w.alloc (.cells #[.int .u64 (a0 : Int), .int .u64 (a1 : Int), .int .u64 (a2 : Int), .int .u64 (a3 : Int)] 59)).alloc (.cells #[.int .u64 (b0 : Int), .int .u64 (b1 : Int), .int .u64 (b2 : Int), .int .u64 (b3 : Int)] 59)).alloc (.cells z4 59)) :=
    (((Below.refl _ _).alloc (Nat.le_refl _) _).alloc (by simp) _).alloc (by simp; omega) _
  have HK := Lib.hid (And.intro k2 hbe)
  clear k2 hbe
  go_enter Tryd.func30, Tryd.ntmps30
  go_wp2_with (fail)
  refine (HS _).out.mono ?_
  rintro e w1 ⟨rfl, hw1⟩
  go_wp2_with (fail)
  refine (HR _).out.mono ?_
  rintro e w2 ⟨rfl, hw2⟩
  obtain ⟨k2, hbe⟩ := HK.out
  have k3 := ((k2.later hw1).alloc _).later hw2
  have hbe3 := below_up (((below_up hbe hw1)).alloc (below_up hbe hw1).size _) hw2
  clear HK HS HR k2 hbe hw1 hw2
  go_wp2_with (refine wpList_store_row rfl 59 _ _ rfl (w.heap.size + 1 + 1) rfl (Us r).toArray rfl 59 _ k3 (size_sc _ hz) (by rw [hz]; rfl) (Us_one _) ?_)
  refine bodyPost_ret (results_cell_row rfl _ _ (w.heap.size + 1 + 1) 59 (Us r).toArray (0, 0) _ rfl (k3.row _) Tryd.underlying59 rfl (size_sc _ hz)) rfl ⟨rfl, ?_⟩
  exact below_setRow hbe3 (by omega) _

/-! ### Mul -/
/-- What Mul's rows lie in. -/
structure MS4 (w wr : World) (a b : List Nat) (n : Nat) : Prop where
  b0 : Blk wr w.heap.size 59 (Us a).toArray
  b1 : Blk wr (w.heap.size + 1) 59 (Us b).toArray
  b2 : Blk wr (w.heap.size + 1 + 1) 59 z4
  b3 : Blk wr (w.heap.size + 1 + 1 + 1) 59 (Us (ws n)).toArray
  be : Below w.heap.size w wr
theorem MS4.up {w wr w1 : World} {a b : List Nat} {n : Nat} (h : MS4 w wr a b n) (k : Up wr w1) : MS4 w w1 a b n := ⟨k.blk h.b0, k.blk h.b1, k.blk h.b2, k.blk h.b3, below_up h.be k⟩
theorem MS4.set {w wr : World} {a b : List Nat} {n : Nat} (h : MS4 w wr a b n) (m : Nat) : MS4 w (wr.setRow (w.heap.size + 1 + 1 + 1) (Us (ws m)).toArray) a b m :=
  ⟨h.b0.rowFar (by omega) _, h.b1.rowFar (by omega) _, h.b2.rowFar (by omega) _, h.b3.row _, below_setRow h.be (by omega) _⟩

theorem mul_split (x Y u v L : Nat) : (4294967296 * ((4294967296 * (x * Y % L) + x * u) % L) + x * v) % L = x * (18446744073709551616 * Y + (4294967296 * u + v)) % L := by
  have e : x * (18446744073709551616 * Y + (4294967296 * u + v)) = 4294967296 * (4294967296 * (x * Y) + x * u) + x * v := by grind only
  rw [e, Nat.add_mod, Nat.mul_mod_mod, ← Nat.add_mod]
  have e2 : (4294967296 * (x * Y % L) + x * u) % L = (4294967296 * (x * Y) + x * u) % L := by
    rw [Nat.add_mod, Nat.mul_mod_mod, ← Nat.add_mod]
  rw [Nat.add_mod (4294967296 * (4294967296 * (x * Y % L) + x * u)), Nat.mul_mod, e2, ← Nat.mul_mod, ← Nat.add_mod]

section
variable {ops : Array Oper} {C0 : World → Prop} {Q : Act → Prop} {a : Act} {o : Oper} {rest : List Oper}
/-- A number is read. -/
theorem b_sc {l : List Nat} (g : Nat) (hl : l.length = 4) (x : Operand) (hg : Region.wanted o (yielded ops a.tmps) = true) (ho : o.op = .load 59 x) (hx : a.eval x = .pointer (some ⟨g, 0, none⟩))
    (hc : ∀ w, C0 w → Blk w g 59 (Us l).toArray) (hk : wpB Tryd.prog ops C0 Q rest (a.put o.dst (.agg (Us l).toArray))) : wpB Tryd.prog ops C0 Q (o :: rest) a :=
  b_mid hg 59 x ho g 0 hx (Us l) _ (fun w h => (hc w h).range) Tryd.underlying59 rfl (size_sc (Us l).toArray (len_u4 hl)) hk
/-- A word of it. -/
theorem b_word {x i : Operand} (g k : Nat) (hk4 : k < 4) (hg : Region.wanted o (yielded ops a.tmps) = true) (ho : o.op = .indexAddr 57 x i) (hx : a.eval x = .pointer (some ⟨g, 0, none⟩)) (hi : a.eval i = .int .i64 (k : Int))
    (hk : wpB Tryd.prog ops C0 Q rest (a.put o.dst (.pointer (some ⟨g, k, none⟩)))) : wpB Tryd.prog ops C0 Q (o :: rest) a :=
  b_val hg (fun w _ => by
    have h1 : (k : Int) < 4 := by omega
    have h2 : (0 : Int) ≤ (k : Int) := by omega
    unfold execOp
    simp only [ho, hx, hi]
    go_simp) hk
theorem b_cell {x : Operand} (g k v : Nat) (hg : Region.wanted o (yielded ops a.tmps) = true) (ho : o.op = .load 24 x) (hx : a.eval x = .pointer (some ⟨g, k, none⟩)) (hc : ∀ w, C0 w → w.cell? ⟨g, k, none⟩ = some (.int .u64 (v : Int)))
    (hk : wpB Tryd.prog ops C0 Q rest (a.put o.dst (.int .u64 (v : Int)))) : wpB Tryd.prog ops C0 Q (o :: rest) a :=
  b_val hg (fun w hw => by
    have h1 := hc w hw
    unfold execOp
    simp only [ho, hx]
    go_simp) hk
theorem b_shr32 {x : Operand} {t : TypeId} (v : Nat) (hg : Region.wanted o (yielded ops a.tmps) = true) (ho : o.op = .binOp .shr 24 x (.const (.int .u64 32)) t) (hx : a.eval x = .int .u64 (v : Int))
    (hk : wpB Tryd.prog ops C0 Q rest (a.put o.dst (.int .u64 ((v / 4294967296 : Nat) : Int)))) : wpB Tryd.prog ops C0 Q (o :: rest) a :=
  b_val hg (fun w _ => by
    have e := div32 v
    generalize v / 4294967296 = z at *
    unfold execOp
    simp only [ho, hx]
    go_simp) hk
theorem b_and32 {x : Operand} {t : TypeId} (v : Nat) (hv : v < 18446744073709551616) (hg : Region.wanted o (yielded ops a.tmps) = true) (ho : o.op = .binOp .and 24 x (.const (.int .u64 4294967295)) t) (hx : a.eval x = .int .u64 (v : Int))
    (hk : wpB Tryd.prog ops C0 Q rest (a.put o.dst (.int .u64 ((v % 4294967296 : Nat) : Int)))) : wpB Tryd.prog ops C0 Q (o :: rest) a :=
  b_val hg (fun w _ => by
    have e := mask32 v hv
    generalize v % 4294967296 = z at *
    unfold execOp
    simp only [ho, hx]
    go_simp) hk
end
theorem fld_sc (g : Nat) (w : World) : (Instr.fieldAt 59 (.pointer (some ⟨g, 0, none⟩)) 0).run Tryd.prog w = .ok (.pointer (some ⟨g, 0, none⟩)) w := by go_simp

set_option maxRecDepth 100000 in
set_option maxHeartbeats 2000000 in
theorem scmul_f {x y : Nat} (hx : x < LL) (hy : y < LL) (w : World) :
    Calls Tryd.prog 31 #[.agg (Us (ws x)).toArray, .agg (Us (ws y)).toArray] w fun e w' => e = .returned (.agg (Us (ws (x * y % LL))).toArray) ∧ Below w.heap.size w w' := by
  have hN := fun A h w1 (hA : A < LL) (hh : h < 4294967296) => next_f hA hx hh w1
  have hwy : ∀ k, k < 4 → y / 18446744073709551616 ^ k = 18446744073709551616 * (y / 18446744073709551616 ^ (k + 1)) + (4294967296 * ((ws y)[k]! / 4294967296) + (ws y)[k]! % 4294967296) := by
    intro k hk
    rw [ws_wd y hk, Nat.pow_succ, ← Nat.div_div_eq_div_mul]
    unfold wd
    omega
  have hy0 : y / 18446744073709551616 ^ 4 = 0 := Nat.div_eq_of_lt (Nat.lt_trans hy (by decide))
  have ha := ws_len x
  have hb := ws_len y
  have hbl := fun k => ws_get_lt y (k := k)
  clear hy
  generalize ws y = b at *
  generalize hwx : ws x = a at *
  go_enter Tryd.func31, Tryd.ntmps31
  go_wp2
  go_loopw [6] (fun i wr => ∃ k : Nat, k ≤ 4 ∧ i = .int .i64 ((k : Int) - 1) ∧ MS4 w wr a b (x * (y / 18446744073709551616 ^ k) % LL)) (fun i _ => (intOf i + 1).toNat)
  case atStart =>
    refine ⟨4, by omega, rfl, ?_⟩
    rw [hy0, Nat.mul_zero, Nat.zero_mod]
    exact ⟨blk4_0 w _ _ _ _ _, blk4_1 w _ _ _ _ _, blk4_2 w _ _ _ _ _, blk4_3 w _ _ _ _ _, below4 w _ _ _ _⟩
  case round =>
    obtain ⟨k, hk, rfl, hS⟩ := hrel
    by_cases hlt : 0 < k
    · obtain ⟨i, rfl⟩ : ∃ i, k = i + 1 := ⟨k - 1, by omega⟩
      have e0 : ((i + 1 : Nat) : Int) - 1 = (i : Int) := by omega
      rw [e0]
      have hW := hwy i (by omega)
      have hv := hbl i (by omega)
      have hcell : ∀ w1, MS4 w w1 a b (x * (y / 18446744073709551616 ^ (i + 1)) % LL) → w1.cell? ⟨w.heap.size + 1, i, none⟩ = some (.int .u64 (b[i]! : Nat)) := fun w1 h => (h.b1.cell i).trans (Us_at (by omega))
      have hcell2 : ∀ w1 n, MS4 w w1 a b n → w1.cell? ⟨w.heap.size + 1, i, none⟩ = some (.int .u64 (b[i]! : Nat)) := fun w1 n h => (h.b1.cell i).trans (Us_at (by omega))
      generalize b[i]! = v at *
      have hD := Lib.hid (show x * (y / 18446744073709551616 ^ i) % LL = (4294967296 * ((4294967296 * (x * (y / 18446744073709551616 ^ (i + 1)) % LL) + x * (v / 4294967296)) % LL) + x * (v % 4294967296)) % LL by rw [mul_split, ← hW])
      have hX : x * (y / 18446744073709551616 ^ (i + 1)) % LL < LL := Nat.mod_lt _ (by decide)
      generalize x * (y / 18446744073709551616 ^ (i + 1)) % LL = X at *
      have hY : (4294967296 * X + x * (v / 4294967296)) % LL < LL := Nat.mod_lt _ (by decide)
      have hN1 := fun w1 => hN X (v / 4294967296) w1 hX (by omega)
      have hN2 := fun w1 => hN ((4294967296 * X + x * (v / 4294967296)) % LL) (v % 4294967296) w1 hY (by omega)
      generalize (4294967296 * X + x * (v / 4294967296)) % LL = Y at *
      generalize (4294967296 * Y + x * (v % 4294967296)) % LL = Z at *
      clear hN hW hcell hX hY e0 hy0 hwy hbl hwx hx
      have hi3 : i < 4 := by omega
      go_wp2
      refine reg_set 8 (.tmp 5) 59 (.tmp 18) rfl rfl rfl rfl (by kernel_rfl) (tail_ok (by kernel_rfl)) (fun _ _ d _ _ h => by cases d <;> exact h) ?_
      simp only [List.take_succ_cons, List.take_zero]
      refine b_sc (w.heap.size + 1 + 1 + 1) (ws_len X) _ rfl rfl rfl (fun _ h => h.blk hS.b3) ?_; simp only [Act.put, List.setIfInBounds_toArray, List.set_cons_zero, List.set_cons_succ]
      refine b_sc w.heap.size ha _ rfl rfl rfl (fun _ h => h.blk hS.b0) ?_; simp only [Act.put, List.setIfInBounds_toArray, List.set_cons_zero, List.set_cons_succ]
      refine b_move rfl rfl ?_; simp only [Act.put, List.setIfInBounds_toArray, List.set_cons_zero, List.set_cons_succ]
      refine b_field (w.heap.size + 1) 0 0 rfl rfl rfl (fld_sc _) ?_; simp only [Act.put, List.setIfInBounds_toArray, List.set_cons_zero, List.set_cons_succ]
      refine b_word (w.heap.size + 1) i hi3 rfl rfl rfl rfl ?_; simp only [Act.put, List.setIfInBounds_toArray, List.set_cons_zero, List.set_cons_succ]
      refine b_cell (w.heap.size + 1) i v rfl rfl rfl (fun w1 h => hcell2 w1 _ (hS.up h)) ?_; simp only [Act.put, List.setIfInBounds_toArray, List.set_cons_zero, List.set_cons_succ]
      refine b_shr32 v rfl rfl rfl ?_; simp only [Act.put, List.setIfInBounds_toArray, List.set_cons_zero, List.set_cons_succ]
      refine b_one rfl own_next (fun w1 => hN1 w1) rfl rfl ?_; simp only [Act.put, List.setIfInBounds_toArray, List.set_cons_zero, List.set_cons_succ]
      refine wpB_nil ⟨_, _, (Us (ws Y)).toArray, rfl, rfl, hS.b3, by rw [len_u4 (ws_len X), len_u4 (ws_len Y)], size_sc _ (len_u4 (ws_len Y)), Us_one _, fun w1 hw1 => ?_⟩
      have hS2 := (hS.up hw1).set Y
      clear hS hw1 hN1
      generalize w1.setRow (w.heap.size + 1 + 1 + 1) (Us (ws Y)).toArray = w2 at *
      have HS := Lib.hid hS2
      clear hS2
      go_wp2
      have hS := HS.out
      clear HS
      refine reg_set 8 (.tmp 5) 59 (.tmp 26) rfl rfl rfl rfl (by kernel_rfl) (tail_ok (by kernel_rfl)) (fun _ _ d _ _ h => by cases d <;> exact h) ?_
      simp only [List.take_succ_cons, List.take_zero]
      refine b_sc (w.heap.size + 1 + 1 + 1) (ws_len Y) _ rfl rfl rfl (fun _ h => h.blk hS.b3) ?_; simp only [Act.put, List.setIfInBounds_toArray, List.set_cons_zero, List.set_cons_succ]
      refine b_sc w.heap.size ha _ rfl rfl rfl (fun _ h => h.blk hS.b0) ?_; simp only [Act.put, List.setIfInBounds_toArray, List.set_cons_zero, List.set_cons_succ]
      refine b_move rfl rfl ?_; simp only [Act.put, List.setIfInBounds_toArray, List.set_cons_zero, List.set_cons_succ]
      refine b_field (w.heap.size + 1) 0 0 rfl rfl rfl (fld_sc _) ?_; simp only [Act.put, List.setIfInBounds_toArray, List.set_cons_zero, List.set_cons_succ]
      refine b_word (w.heap.size + 1) i hi3 rfl rfl rfl rfl ?_; simp only [Act.put, List.setIfInBounds_toArray, List.set_cons_zero, List.set_cons_succ]
      refine b_cell (w.heap.size + 1) i v rfl rfl rfl (fun w1 h => hcell2 w1 _ (hS.up h)) ?_; simp only [Act.put, List.setIfInBounds_toArray, List.set_cons_zero, List.set_cons_succ]
      refine b_and32 v hv rfl rfl rfl ?_; simp only [Act.put, List.setIfInBounds_toArray, List.set_cons_zero, List.set_cons_succ]
      refine b_one rfl own_next (fun w1 => hN2 w1) rfl rfl ?_; simp only [Act.put, List.setIfInBounds_toArray, List.set_cons_zero, List.set_cons_succ]
      refine wpB_nil ⟨_, _, (Us (ws Z)).toArray, rfl, rfl, hS.b3, by rw [len_u4 (ws_len Y), len_u4 (ws_len Z)], size_sc _ (len_u4 (ws_len Z)), Us_one _, fun w1 hw1 => ?_⟩
      have hS2 := (hS.up hw1).set Z
      clear hS hw1 hN2
      generalize w1.setRow (w.heap.size + 1 + 1 + 1) (Us (ws Z)).toArray = w3 at *
      have HS := Lib.hid hS2
      clear hS2 hcell2 hv
      go_wp2
      go_roundw
      case rel =>
        refine ⟨i, by omega, by go_num, ?_⟩
        rw [hD.out]
        exact HS.out
      case measure => simp [intOf]
    · obtain rfl : k = 0 := by omega
      rw [Nat.pow_zero, Nat.div_one] at hS
      obtain ⟨b0, b1, b2, b3, be⟩ := hS
      have hzs := len_u4 (ws_len (x * y % LL))
      clear b0 b1
      go_wp2_with (first
        | (refine wpList_load_row rfl 59 _ rfl (w.heap.size + 1 + 1 + 1) rfl 59 (Us (ws (x * y % LL))).toArray (0, 0) _ b3 Tryd.underlying59 rfl (size_sc _ hzs) ?_)
        | (refine wpList_store_row rfl 59 _ _ rfl (w.heap.size + 1 + 1) rfl (Us (ws (x * y % LL))).toArray rfl 59 _ b2 (size_sc _ hzs) (by rw [hzs]; rfl) (Us_one _) ?_))
      refine bodyPost_ret (results_cell_row rfl _ _ (w.heap.size + 1 + 1) 59 (Us (ws (x * y % LL))).toArray (0, 0) _ rfl (b2.row _) Tryd.underlying59 rfl (size_sc _ hzs)) rfl ⟨rfl, ?_⟩
      exact below_setRow be (by omega) _
end Go.Proofs.YtgmiaaapaiccdaaDoor
/-
  REGIONS: 'copy(a[..], b[..])', where the order of the two slices is drawn.
-/
namespace Go.Proofs.YtgmiaaapaiccdaaDoor
open Go.RowKit Go.IntWalk

/-- l laid over z from place off on. -/
def cop (z : List UInt8) (off : Nat) (l : List UInt8) : List UInt8 := z.take off ++ (l ++ z.drop (off + l.length))
theorem cop_len {z l : List UInt8} {off : Nat} (h : off + l.length ≤ z.length) : (cop z off l).length = z.length := by
  simp [cop]
  omega

/-- What is asked behind the two slices. -/
def copyEnd (Q : Exit → Act → World → Prop) (w : World) (d s : Operand) (dst : Option Tmp) (a' : Act) : Prop :=
  ∃ (g off n c g2 c2 : Nat) (t t2 : TypeId) (z l : List UInt8), a'.eval d = .slice (some ⟨g, off, none⟩) n c ∧ a'.eval s = .slice (some ⟨g2, 0, none⟩) l.length c2 ∧ Blk w g t (By z).toArray ∧ Blk w g2 t2 (By l).toArray ∧ l.length ≤ n ∧ off + l.length ≤ z.length ∧
    ∀ w', Up w w' → Q .normal (a'.put dst (goInt l.length)) (w'.setRow g (By (cop z off l)).toArray)
theorem size_u8 : (Tryd.prog.info? 5).map (·.size) = some 1 := by kernel_rfl
theorem reg_copy {Q : Exit → Act → World → Prop} {id : Nat} {a : Act} {w : World} {l : List Oper} {o : Oper} (n : Nat) (d s : Operand) (hos : l.drop n = [o]) (ho : o.op = .call { callee := .builtin .copy, args := #[d, s], argTypes := #[56, 56] }) (hg : o.guard = none)
    (hB : tailB l.toArray n 0 1 = true) (hQ : ∀ c a d v w, Q (.panic c) (a.put d v) w → Q (.panic c) a w) (hm : Tryd.prog.follows .mixedOrders = true)
    (h : wpB Tryd.prog l.toArray (Up w) (copyEnd Q w d s o.dst) (l.take n) a) : (Code.region id l.toArray true).wp Tryd.prog Q a w := by
  have hn : n ≤ l.length := by
    have h1 := congrArg List.length hos
    simp only [List.length_drop, List.length_cons, List.length_nil] at h1
    omega
  refine region_B n (Up w) hn hm (by rw [hos]; exact hB) (fun _ _ h k => h.step k) (Up.drew w) hQ ?_
  rw [hos]
  refine wpB_mono (fun a' h' w' hw' => ?_) _ _ h
  obtain ⟨g, off, n, c, g2, c2, t, t2, z, l, hd, hs, hz, hl, h1, h2, hk⟩ := h'
  have hb := hw'.blk hz
  have hb2 := hw'.blk hl
  refine wpList_copy_own hg d s 56 56 ho 5 Tryd.underlying56 size_u8 g off n c ⟨g2, 0, none⟩ l.length c2 hd hs (By z).toArray t hb (By l) (by rw [By_len]; exact (Nat.min_eq_left h1).symm) ?_ (by rw [By_len, List.size_toArray, By_len]; exact h2) (By_one l) ?_
  · intro j v hv
    have hj : (Addr.mk g2 0 none).add j = ⟨g2, j, none⟩ := by
      unfold Addr.add
      by_cases h0 : j = 0
      · subst h0; rfl
      · simp [h0]
    rw [hj, hb2.cell j]
    simpa using hv
  · have e : (By z).toArray.toList.take off ++ (By l ++ (By z).toArray.toList.drop (off + (By l).length)) = By (cop z off l) := by
      simp [cop, By]
    rw [e, By_len]
    exact hk w' hw'

/-- 'copy(a[..], b)', in the text's order. -/
theorem wpl_copy {ops : Array Oper} {rest : List Oper} {o : Oper} {a : Act} {w : World} {Q : Exit → Act → World → Prop} (d s : Operand) (hgd : o.guard = none) (ho : o.op = .call { callee := .builtin .copy, args := #[d, s], argTypes := #[56, 56] })
    (g off n c : Nat) (hd : a.eval d = .slice (some ⟨g, off, none⟩) n c) (P : Option Addr) (l : List UInt8) (c2 : Nat) (hs : a.eval s = .slice P l.length c2) (z : List UInt8) (t : Nat) (hz : Blk w g t (By z).toArray) (lo hi : Nat) (hl : BV w lo hi P l) (hn : off + n = z.length)
    (z' : List UInt8) (hz' : Go.RowKit.Hid (cop z off (l.take n) = z')) (m : Nat) (hm : Go.RowKit.Hid (min l.length n = m)) (h : wpList Tryd.prog ops Q rest (a.put o.dst (.int .i64 (m : Int))) (w.setRow g (By z').toArray)) : wpList Tryd.prog ops Q (o :: rest) a w := by
  have e0 := hz'.out
  have e1 := hm.out
  subst e0
  subst e1
  by_cases h0 : min l.length n = 0
  · have ht : l.take n = [] := by
      rw [List.take_eq_nil_iff]
      rcases Nat.min_eq_zero_iff.1 h0 with h1 | h1
      · exact .inr (List.eq_nil_of_length_eq_zero h1)
      · exact .inl h1
    have e : cop z off (l.take n) = z := by
      rw [ht]
      simp [cop]
    have e2 : w.setRow g (By z).toArray = w := setRow_self w g _ t (0, 0) hz
    rw [e, e2, h0] at h
    exact wpList_copy_nothing hgd d s 56 56 ho 5 Tryd.underlying56 size_u8 _ _ n c l.length c2 hd hs h0 h
  · have hlp : 0 < l.length := by omega
    obtain ⟨ad, rfl, _, _, hc⟩ := hl hlp
    have hlt : (By (l.take n)).length = Nat.min l.length n := by
      rw [By_len, List.length_take]
      exact Nat.min_comm _ _
    refine wpList_copy_own hgd d s 56 56 ho 5 Tryd.underlying56 size_u8 g off n c ad l.length c2 hd hs (By z).toArray t hz (By (l.take n)) hlt ?_ (by rw [hlt, List.size_toArray, By_len, ← hn]; exact Nat.add_le_add_left (Nat.min_le_right _ _) _) (By_one _) ?_
    · intro j v hv
      obtain ⟨x, hx, rfl⟩ := By_at hv
      refine hc j x ?_
      rw [List.getElem?_take] at hx
      split at hx
      · exact hx
      · cases hx
    · have e : (By z).toArray.toList.take off ++ (By (l.take n) ++ (By z).toArray.toList.drop (off + (By (l.take n)).length)) = By (cop z off (l.take n)) := by
        simp [cop, By]
      rw [e, hlt]
      exact h
end Go.Proofs.YtgmiaaapaiccdaaDoor
/-
  STEPS AT SCALARS AND COPIES, over frames by what is known of them.
-/
namespace Go.Proofs.YtgmiaaapaiccdaaDoor
open Go.RowKit Go.IntWalk Nums

theorem own_wide : Own 28 := fun _ _ => by go_simp
theorem own_schash : Own 29 := fun _ _ => by go_simp
theorem own_scadd : Own 30 := fun _ _ => by go_simp
theorem own_scmul : Own 31 := fun _ _ => by go_simp
def z64 : List UInt8 := List.replicate 64 0
theorem z64_len : z64.length = 64 := List.length_replicate
def nvS (t : Nat) : NV := ⟨t, 59, z4⟩
theorem size_S (n : Nat) : (Tryd.prog.info? 59).map (·.size) = some (Us (ws n)).toArray.size := size_sc _ (len_u4 (ws_len n))
section
variable {ops : Array Oper} {C0 : World → Prop} {Q : Act → Prop} {N : Nat} {E : List (Nat × Value)} {o : Oper} {rest : List Oper} {k : Nat}
theorem f_sc {x : Operand} (b n : Nat) (hg : o.guard = none) (hd : o.dst = some k) (hk : Nat.blt k N = true) (ho : o.op = .load 59 x) (hx : ev E x = some (.pointer (some ⟨b, 0, none⟩)))
    (hc : ∀ w, C0 w → w.rangeAt b 0 (Us (ws n))) (hn : bF Tryd.prog ops C0 Q rest N ((k, .agg (Us (ws n)).toArray) :: E)) : bF Tryd.prog ops C0 Q (o :: rest) N E :=
  f_row b 0 (Us (ws n)) _ hg hd hk ho hx hc Tryd.underlying59 rfl (by have := size_S n; simpa using this) hn
theorem f_b64 {x : Operand} {l : List UInt8} (b : Nat) (hl : l.length = 64) (hg : o.guard = none) (hd : o.dst = some k) (hk : Nat.blt k N = true) (ho : o.op = .load 55 x) (hx : ev E x = some (.pointer (some ⟨b, 0, none⟩)))
    (hc : ∀ w, C0 w → w.rangeAt b 0 (By l)) (hn : bF Tryd.prog ops C0 Q rest N ((k, .agg (By l).toArray) :: E)) : bF Tryd.prog ops C0 Q (o :: rest) N E :=
  f_row b 0 (By l) _ hg hd hk ho hx hc Tryd.underlying55 rfl (by rw [By_len, hl]; kernel_rfl) hn
theorem f_slice64 {x : Operand} (g : Nat) (hg : o.guard = none) (hd : o.dst = some k) (hk : Nat.blt k N = true) (ho : o.op = .slice 55 x none none none) (hx : ev E x = some (.pointer (some ⟨g, 0, none⟩)))
    (hn : bF Tryd.prog ops C0 Q rest N ((k, .slice (some ⟨g, 0, none⟩) 64 64) :: E)) : bF Tryd.prog ops C0 Q (o :: rest) N E :=
  f_val _ hg hd hk (fun a ha w _ => by
    have h1 := ha.eval hx
    unfold execOp
    simp only [ho, h1]
    go_simp) hn
theorem f_slice32 {x : Operand} (g : Nat) (hg : o.guard = none) (hd : o.dst = some k) (hk : Nat.blt k N = true) (ho : o.op = .slice 22 x none none none) (hx : ev E x = some (.pointer (some ⟨g, 0, none⟩)))
    (hn : bF Tryd.prog ops C0 Q rest N ((k, .slice (some ⟨g, 0, none⟩) 32 32) :: E)) : bF Tryd.prog ops C0 Q (o :: rest) N E :=
  f_val _ hg hd hk (fun a ha w _ => by
    have h1 := ha.eval hx
    unfold execOp
    simp only [ho, h1]
    go_simp) hn
end
section
variable {Q : Exit → Act → World → Prop} {N : Nat} {E : List (Nat × Value)} {w : World}
theorem c_copy {id : Nat} {l : List Oper} {o : Oper} (n : Nat) (d s : Operand) (hos : l.drop n = [o]) (ho : o.op = .call { callee := .builtin .copy, args := #[d, s], argTypes := #[56, 56] }) (hg : o.guard = none)
    (hB : tailB l.toArray n 0 1 = true) (hQ : ∀ c a d v w, Q (.panic c) (a.put d v) w → Q (.panic c) a w) (hm : Tryd.prog.follows .mixedOrders = true)
    (h : bF Tryd.prog l.toArray (Up w) (copyEnd Q w d s o.dst) (l.take n) N E) : cF Tryd.prog (.region id l.toArray true) Q N E w := fun a ha => reg_copy n d s hos ho hg hB hQ hm (h a ha)
theorem f_copyEnd {ops : Array Oper} {d s : Operand} {k : Nat} {dst : Option Tmp} (g n g2 c c2 : Nat) (t t2 : TypeId) (z l : List UInt8) (hdst : dst = some k) (hk : Nat.blt k N = true) (hd : ev E d = some (.slice (some ⟨g, 0, none⟩) n c)) (hs : ev E s = some (.slice (some ⟨g2, 0, none⟩) l.length c2))
    (hz : Blk w g t (By z).toArray) (hl : Blk w g2 t2 (By l).toArray) (h1 : l.length ≤ n) (h2 : l.length ≤ z.length) (h : ∀ w', Up w w' → kF (Q .normal) N E (w'.setRow g (By (cop z 0 l)).toArray)) (hE : look E k = none) :
    bF Tryd.prog ops (Up w) (copyEnd Q w d s dst) [] N E := fun a ha => wpB_nil ⟨g, 0, n, c, g2, c2, t, t2, z, l, ha.eval hd, ha.eval hs, hz, hl, h1, by omega, fun w' hw' => by
  subst hdst
  have _ := hk
  exact h w' hw' _ (ha.putFar hE _)⟩
end
theorem cop_len64 {a : List UInt8} (ha : a.length = 32) : (cop z64 0 a).length = 64 := by rw [cop_len (by rw [z64_len, ha]; decide), z64_len]
theorem le_cop {a : List UInt8} (ha : a.length = 32) : le (cop z64 0 a) = le a := by
  have e : cop z64 0 a = a ++ List.replicate 32 0 := by
    rw [cop, ha]
    simp [z64]
  have e2 : le (List.replicate 32 0) = 0 := by decide
  rw [e, le_append, e2, Nat.mul_zero, Nat.add_zero]
theorem mul_b32 (n : Nat) : Ed.mul dd (le (Nums.bytes 32 (n % LL))) base = Ed.mul dd n base := by rw [le_b32, mul_ll]
theorem num_add (x y : Nat) : Ed.mul dd (le (Nums.bytes 32 ((x % LL + y % LL) % LL))) base = Ed.add dd (Ed.mul dd (le (Nums.bytes 32 (x % LL))) base) (Ed.mul dd (le (Nums.bytes 32 (y % LL))) base) := by
  rw [mul_b32 (x % LL + y % LL), le_b32, le_b32, Ed.mul_add good on_base]
theorem num_mul (x y : Nat) : Ed.mul dd (le (Nums.bytes 32 (x % LL * (y % LL) % LL))) base = Ed.mul dd (le (Nums.bytes 32 (y % LL))) (Ed.mul dd (le (Nums.bytes 32 (x % LL))) base) := by
  rw [mul_b32 (x % LL * (y % LL)), le_b32, le_b32, Ed.mul_mul good on_base]
theorem num_eq {a : List UInt8} (ha : a.length = 32) : Ed.mul dd (le a) base = Ed.mul dd (le (Nums.bytes 32 (le (cop z64 0 a) % LL))) base := by rw [mul_b32, le_cop ha]
end Go.Proofs.YtgmiaaapaiccdaaDoor
