/-
  THE PROGRAM'S SCALARS: next: 2^32 times a number, and half times another.
-/
import Derived.Test.YthejahhhmkkhoaaRed
namespace Nums
/-- What a's word k hands on above. -/
def upw (a : List Nat) : Nat → Nat
  | 0 => 0
  | k + 1 => a[k]! / 4294967296
/-- What is carried into word k. -/
def ful (a b : List Nat) (h : Nat) : Nat → Nat
  | 0 => 0
  | k + 1 => (b[k]! * h + ful a b h k + (a[k]! % 4294967296 * 4294967296 + upw a k)) / 18446744073709551616
def nxw (a b : List Nat) (h k : Nat) : Nat := (b[k]! * h + ful a b h k + (a[k]! % 4294967296 * 4294967296 + upw a k)) % 18446744073709551616
theorem upw_lt {a : List Nat} (ha : ∀ k, k < 4 → a[k]! < 18446744073709551616) : ∀ k, k ≤ 4 → upw a k < 4294967296
  | 0, _ => by
    show 0 < 4294967296
    decide
  | k + 1, hk => by
    have := ha k (by omega)
    show a[k]! / 4294967296 < 4294967296
    omega
theorem prodh {b h : Nat} (hb : b < 18446744073709551616) (hh : h < 4294967296) : b * h ≤ 18446744073709551615 * 4294967295 := Nat.mul_le_mul (by omega) (by omega)
theorem ful_lt {a b : List Nat} {h : Nat} (ha : ∀ k, k < 4 → a[k]! < 18446744073709551616) (hb : ∀ k, k < 4 → b[k]! < 18446744073709551616) (hh : h < 4294967296) : ∀ k, k ≤ 4 → ful a b h k < 8589934592
  | 0, _ => by
    show 0 < 8589934592
    decide
  | k + 1, hk => by
    have h0 := ful_lt ha hb hh k (by omega)
    have h1 := upw_lt ha k (by omega)
    have h2 := ha k (by omega)
    have h3 := prodh (hb k (by omega)) hh
    show (b[k]! * h + ful a b h k + (a[k]! % 4294967296 * 4294967296 + upw a k)) / 18446744073709551616 < 8589934592
    omega
theorem mxl5 (f : Nat → Nat) (a0 a1 a2 a3 a4 : Nat) : mxl f [a0, a1, a2, a3, a4] 4 = [f 0, f 1, f 2, f 3, a4] := rfl
/-- The words, and what stands above them. -/
theorem next_v4 {A B h : Nat} (hA : A < 115792089237316195423570985008687907853269984665640564039457584007913129639936) (hB : B < 115792089237316195423570985008687907853269984665640564039457584007913129639936) :
    v4 (nxw (ws A) (ws B) h 0) (nxw (ws A) (ws B) h 1) (nxw (ws A) (ws B) h 2) (nxw (ws A) (ws B) h 3) + 115792089237316195423570985008687907853269984665640564039457584007913129639936 * (ful (ws A) (ws B) h 4 + upw (ws A) 4) = 4294967296 * A + B * h := by
  obtain ⟨a0, a1, a2, a3, eA, wA, p0, p1, p2, p3⟩ := ws_cut hA
  obtain ⟨b0, b1, b2, b3, eB, wB, q0, q1, q2, q3⟩ := ws_cut hB
  rw [wA, wB]
  have u0 : upw [a0, a1, a2, a3] 0 = 0 := rfl
  have u1 : upw [a0, a1, a2, a3] 1 = a0 / 4294967296 := rfl
  have u2 : upw [a0, a1, a2, a3] 2 = a1 / 4294967296 := rfl
  have u3 : upw [a0, a1, a2, a3] 3 = a2 / 4294967296 := rfl
  have u4 : upw [a0, a1, a2, a3] 4 = a3 / 4294967296 := rfl
  have f0 : ful [a0, a1, a2, a3] [b0, b1, b2, b3] h 0 = 0 := rfl
  have f1 : ful [a0, a1, a2, a3] [b0, b1, b2, b3] h 1 = (b0 * h + ful [a0, a1, a2, a3] [b0, b1, b2, b3] h 0 + (a0 % 4294967296 * 4294967296 + upw [a0, a1, a2, a3] 0)) / 18446744073709551616 := rfl
  have f2 : ful [a0, a1, a2, a3] [b0, b1, b2, b3] h 2 = (b1 * h + ful [a0, a1, a2, a3] [b0, b1, b2, b3] h 1 + (a1 % 4294967296 * 4294967296 + upw [a0, a1, a2, a3] 1)) / 18446744073709551616 := rfl
  have f3 : ful [a0, a1, a2, a3] [b0, b1, b2, b3] h 3 = (b2 * h + ful [a0, a1, a2, a3] [b0, b1, b2, b3] h 2 + (a2 % 4294967296 * 4294967296 + upw [a0, a1, a2, a3] 2)) / 18446744073709551616 := rfl
  have f4 : ful [a0, a1, a2, a3] [b0, b1, b2, b3] h 4 = (b3 * h + ful [a0, a1, a2, a3] [b0, b1, b2, b3] h 3 + (a3 % 4294967296 * 4294967296 + upw [a0, a1, a2, a3] 3)) / 18446744073709551616 := rfl
  have n0 : nxw [a0, a1, a2, a3] [b0, b1, b2, b3] h 0 = (b0 * h + ful [a0, a1, a2, a3] [b0, b1, b2, b3] h 0 + (a0 % 4294967296 * 4294967296 + upw [a0, a1, a2, a3] 0)) % 18446744073709551616 := rfl
  have n1 : nxw [a0, a1, a2, a3] [b0, b1, b2, b3] h 1 = (b1 * h + ful [a0, a1, a2, a3] [b0, b1, b2, b3] h 1 + (a1 % 4294967296 * 4294967296 + upw [a0, a1, a2, a3] 1)) % 18446744073709551616 := rfl
  have n2 : nxw [a0, a1, a2, a3] [b0, b1, b2, b3] h 2 = (b2 * h + ful [a0, a1, a2, a3] [b0, b1, b2, b3] h 2 + (a2 % 4294967296 * 4294967296 + upw [a0, a1, a2, a3] 2)) % 18446744073709551616 := rfl
  have n3 : nxw [a0, a1, a2, a3] [b0, b1, b2, b3] h 3 = (b3 * h + ful [a0, a1, a2, a3] [b0, b1, b2, b3] h 3 + (a3 % 4294967296 * 4294967296 + upw [a0, a1, a2, a3] 3)) % 18446744073709551616 := rfl
  have eBh : B * h = b0 * h + 18446744073709551616 * (b1 * h) + 340282366920938463463374607431768211456 * (b2 * h) + 6277101735386680763835789423207666416102355444464034512896 * (b3 * h) := by
    rw [eB]
    unfold v4
    grind only
  rw [eBh, eA]
  generalize nxw [a0, a1, a2, a3] [b0, b1, b2, b3] h 0 = x0 at *
  generalize nxw [a0, a1, a2, a3] [b0, b1, b2, b3] h 1 = x1 at *
  generalize nxw [a0, a1, a2, a3] [b0, b1, b2, b3] h 2 = x2 at *
  generalize nxw [a0, a1, a2, a3] [b0, b1, b2, b3] h 3 = x3 at *
  generalize ful [a0, a1, a2, a3] [b0, b1, b2, b3] h 0 = c0 at *
  generalize ful [a0, a1, a2, a3] [b0, b1, b2, b3] h 1 = c1 at *
  generalize ful [a0, a1, a2, a3] [b0, b1, b2, b3] h 2 = c2 at *
  generalize ful [a0, a1, a2, a3] [b0, b1, b2, b3] h 3 = c3 at *
  generalize ful [a0, a1, a2, a3] [b0, b1, b2, b3] h 4 = c4 at *
  generalize upw [a0, a1, a2, a3] 0 = y0 at *
  generalize upw [a0, a1, a2, a3] 1 = y1 at *
  generalize upw [a0, a1, a2, a3] 2 = y2 at *
  generalize upw [a0, a1, a2, a3] 3 = y3 at *
  generalize upw [a0, a1, a2, a3] 4 = y4 at *
  generalize b0 * h = z0 at *
  generalize b1 * h = z1 at *
  generalize b2 * h = z2 at *
  generalize b3 * h = z3 at *
  clear eBh eA eB wA wB hA hB q0 q1 q2 q3
  unfold v4
  omega
end Nums
namespace Go.Proofs.Ythejahhhmkkhoaa
open Go.RowKit Go.IntWalk Nums

theorem size_w5 (cs : Array Value) (h : cs.size = 5) : (Try.prog.info? 49).map (·.size) = some cs.size := by
  rw [h]
  kernel_rfl
def zw5 : Array Value := (Us [0, 0, 0, 0, 0]).toArray

/-- What next's rows lie in. -/
structure NS (w wr : World) (a b l : List Nat) : Prop where
  ba : Blk wr w.heap.size 27 (Us a).toArray
  bb : Blk wr (w.heap.size + 1) 27 (Us b).toArray
  bo : Blk wr (w.heap.size + 1 + 1) 27 z4
  bv : Blk wr (w.heap.size + 1 + 1 + 1) 49 (Us l).toArray
  be : Below w.heap.size w wr
theorem NS.set {w wr : World} {a b l : List Nat} (h : NS w wr a b l) (k x : Nat) : NS w (wr.setCell ⟨w.heap.size + 1 + 1 + 1, k, none⟩ (.int .u64 (x : Int))) a b (l.set k x) where
  ba := h.ba.far (by show w.heap.size ≠ w.heap.size + 1 + 1 + 1; omega) _
  bb := h.bb.far (by show w.heap.size + 1 ≠ w.heap.size + 1 + 1 + 1; omega) _
  bo := h.bo.far (by show w.heap.size + 1 + 1 ≠ w.heap.size + 1 + 1 + 1; omega) _
  bv := by
    have h4 := h.bv.set k (.int .u64 (x : Int))
    rwa [Us_set] at h4
  be := h.be.setCell (by show w.heap.size ≤ w.heap.size + 1 + 1 + 1; omega) _

set_option maxRecDepth 100000 in
set_option maxHeartbeats 2000000 in
theorem next_f {A B h : Nat} (hA : A < LL) (hB : B < LL) (hh : h < 4294967296) (w : World) :
    Calls Try.prog 24 #[.agg (Us (ws A)).toArray, .agg (Us (ws B)).toArray, .int .u64 (h : Int)] w fun e w' => e = .returned (.agg (Us (ws ((4294967296 * A + B * h) % LL))).toArray) ∧ Below w.heap.size w w' := by
  have hA2 : A < 115792089237316195423570985008687907853269984665640564039457584007913129639936 := Nat.lt_trans hA (by decide)
  have hB2 : B < 115792089237316195423570985008687907853269984665640564039457584007913129639936 := Nat.lt_trans hB (by decide)
  have hE := next_v4 (h := h) hA2 hB2
  have ha := fun k => ws_get_lt A (k := k)
  have hb := fun k => ws_get_lt B (k := k)
  have la := ws_len A
  have lb := ws_len B
  have hf := ful_lt ha hb hh
  have hu := upw_lt ha
  have hn : ∀ k, nxw (ws A) (ws B) h k < 18446744073709551616 := fun k => Nat.mod_lt _ (by decide)
  have hBh : B * h ≤ LL * 4294967296 := Nat.mul_le_mul (Nat.le_of_lt hB) (Nat.le_of_lt hh)
  have hR := fun w1 => red_f (hn 0) (hn 1) (hn 2) (hn 3) (u := ful (ws A) (ws B) h 4 + upw (ws A) 4) (by
    unfold v4 at hE
    rw [LL_eq] at hA hB hBh
    generalize B * h = z at *
    omega) w1
  rw [hE] at hR
  generalize (4294967296 * A + B * h) % LL = res at *
  clear hE hBh hA2 hB2 hn hA hB
  generalize ws A = a at *
  generalize ws B = b at *
  have hR := Lib.hid hR
  go_enter Try.func24, Try.ntmps24
  go_wp2
  go_loopw [14, 8, 9] (fun i u8 u9 wr => ∃ k : Nat, k ≤ 4 ∧ i = .int .i64 k ∧ u8 = .int .u64 (upw a k : Nat) ∧ u9 = .int .u64 (ful a b h k : Nat) ∧ NS w wr a b (mxl (nxw a b h) [0, 0, 0, 0, 0] k)) (fun i _ _ _ => 4 - (intOf i).toNat)
  case atStart =>
    refine ⟨0, by omega, rfl, rfl, rfl, ?_, ?_, ?_, ?_, ?_⟩
    · exact blk4_0 w _ _ _ _ _
    · exact blk4_1 w _ _ _ _ _
    · exact blk4_2 w _ _ _ _ _
    · exact blk4_3 w _ _ _ _ _
    · exact below4 w _ _ _ _
  case round =>
    obtain ⟨k, hk, rfl, rfl, rfl, hS⟩ := hrel
    by_cases hlt : k < 4
    · have hN := hS.set k (nxw a b h k)
      rw [mxl_set] at hN
      have hU : upw a (k + 1) = a[k]! / 4294967296 := rfl
      have hF : ful a b h (k + 1) = (b[k]! * h + ful a b h k + (a[k]! % 4294967296 * 4294967296 + upw a k)) / 18446744073709551616 := rfl
      have hX : nxw a b h k = (b[k]! * h + ful a b h k + (a[k]! % 4294967296 * 4294967296 + upw a k)) % 18446744073709551616 := rfl
      have c0 := (hS.ba.cell k).trans (Us_at (by omega))
      have c1 := (hS.bb.cell k).trans (Us_at (by omega))
      have c2 := (hS.bv.cell k).trans (Us_at (by rw [mxl_len]; simp; omega))
      have c3 := hS.bv.free k
      have b0 := ha k hlt
      have b1 := hb k hlt
      have b2 := hf k (by omega)
      have b3 := hu k (by omega)
      have b4 := prodh b1 hh
      have b5 := hf (k + 1) (by omega)
      rw [hF] at b5
      generalize (mxl (nxw a b h) [0, 0, 0, 0, 0] k)[k]! = old at *
      generalize a[k]! = u at *
      generalize b[k]! = v at *
      generalize upw a k = y at *
      generalize ful a b h k = c at *
      generalize nxw a b h k = x at *
      have HM := fun w1 => Lib.hid (mul64_any v h b1 (by omega) w1)
      generalize v * h = z at *
      have hA1 := fun w1 => add64_run (z % 18446744073709551616) c 0 (by omega) w1
      have q1 : IntKind.u64.wrap (((z / 18446744073709551616 : Nat) : Int) + (((z % 18446744073709551616 + c + 0) / 18446744073709551616 : Nat) : Int)) = ((z / 18446744073709551616 + (z % 18446744073709551616 + c + 0) / 18446744073709551616 : Nat) : Int) := by
        rw [IntKind.wrap_u64]
        omega
      have q2 : bits .or .u64 (IntKind.u64.wrap ((u : Int) * 4294967296)) (y : Int) = ((u % 4294967296 * 4294967296 + y : Nat) : Int) := by
        have e1 : IntKind.u64.wrap ((u : Int) * 4294967296) = ((u % 4294967296 * 4294967296 : Nat) : Int) := by
          rw [IntKind.wrap_u64]
          omega
        rw [e1]
        exact orW 32 _ _ (by omega) (by omega) (by omega) (by omega)
      have hA2 := fun w1 => add64_run ((z % 18446744073709551616 + c + 0) % 18446744073709551616) (u % 4294967296 * 4294967296 + y) 0 (by omega) w1
      have q3 : IntKind.u64.wrap (((z / 18446744073709551616 + (z % 18446744073709551616 + c + 0) / 18446744073709551616 : Nat) : Int) + ((((z % 18446744073709551616 + c + 0) % 18446744073709551616 + (u % 4294967296 * 4294967296 + y) + 0) / 18446744073709551616 : Nat) : Int)) = (((z + c + (u % 4294967296 * 4294967296 + y)) / 18446744073709551616 : Nat) : Int) := by
        rw [IntKind.wrap_u64]
        omega
      have e4 : ((z % 18446744073709551616 + c + 0) % 18446744073709551616 + (u % 4294967296 * 4294967296 + y) + 0) % 18446744073709551616 = x := by omega
      have q5 : (0 : Int) ≤ (k : Int) := by omega
      have q6 : (u : Int) / 4294967296 = ((u / 4294967296 : Nat) : Int) := div32 u
      rw [e4] at hA2
      have HK := Lib.hid (And.intro hN (And.intro hU hF))
      clear hN hU hF hX hS b4 b5 b2 b3 e4 b0 b1 hf hu ha hb
      generalize (z + c + (u % 4294967296 * 4294967296 + y)) / 18446744073709551616 = n9 at *
      generalize ((z % 18446744073709551616 + c + 0) % 18446744073709551616 + (u % 4294967296 * 4294967296 + y) + 0) / 18446744073709551616 = m1 at *
      generalize u % 4294967296 * 4294967296 + y = m2 at *
      generalize z / 18446744073709551616 + (z % 18446744073709551616 + c + 0) / 18446744073709551616 = m3 at *
      generalize (z % 18446744073709551616 + c + 0) % 18446744073709551616 = m4 at *
      generalize (z % 18446744073709551616 + c + 0) / 18446744073709551616 = m5 at *
      generalize z % 18446744073709551616 = m6 at *
      generalize z / 18446744073709551616 = m7 at *
      generalize u / 4294967296 = m8 at *
      replace hA1 : ∀ w1, (callFunc 26 #[.int .u64 (m6 : Int), .int .u64 (c : Int), .int .u64 0]).run Try.prog w1 = .ok (.value (.tuple #[.int .u64 (m4 : Int), .int .u64 (m5 : Int)])) w1 := hA1
      replace hA2 : ∀ w1, (callFunc 26 #[.int .u64 (m4 : Int), .int .u64 (m2 : Int), .int .u64 0]).run Try.prog w1 = .ok (.value (.tuple #[.int .u64 (x : Int), .int .u64 (m1 : Int)])) w1 := hA2
      go_wp2_with (fail)
      refine (HM _).out.mono ?_
      rintro e w1 ⟨rfl, rfl⟩
      go_wp2
      go_roundw
      case rel =>
        obtain ⟨hN, hU, hF⟩ := HK.out
        exact ⟨k + 1, by omega, by go_num, by rw [hU], by rw [hF], hN⟩
      case measure => simp [intOf]; omega
    · obtain rfl : k = 4 := by omega
      have b2 := hf 4 (by omega)
      have b3 := hu 4 (by omega)
      have e5 : mxl (nxw a b h) [0, 0, 0, 0, 0] 4 = [nxw a b h 0, nxw a b h 1, nxw a b h 2, nxw a b h 3, 0] := mxl5 _ _ _ _ _ _
      rw [e5] at hS
      have hN := hS.set 4 (ful a b h 4 + upw a 4)
      have c2 := (hS.bv.cell 4).trans (Us_at (by simp))
      have c3 := hS.bv.free 4
      have q1 : IntKind.u64.wrap (((ful a b h 4 : Nat) : Int) + ((upw a 4 : Nat) : Int)) = ((ful a b h 4 + upw a 4 : Nat) : Int) := by
        rw [IntKind.wrap_u64]
        omega
      have e6 : [nxw a b h 0, nxw a b h 1, nxw a b h 2, nxw a b h 3, 0].set 4 (ful a b h 4 + upw a 4) = [nxw a b h 0, nxw a b h 1, nxw a b h 2, nxw a b h 3, ful a b h 4 + upw a 4] := rfl
      rw [e6] at hN
      clear e5 e6 hf hu ha hb b2 b3 hS
      generalize ful a b h 4 + upw a 4 = s at *
      generalize ful a b h 4 = f4 at *
      generalize upw a 4 = u4 at *
      have hbv := hN.bv
      generalize hl : (Us [nxw a b h 0, nxw a b h 1, nxw a b h 2, nxw a b h 3, s]).toArray = cs at *
      have hcs : cs.size = 5 := by rw [← hl]; rfl
      have HN := Lib.hid hN
      clear hN hl
      go_wp2_with (refine wpList_load_row rfl 49 _ rfl (w.heap.size + 1 + 1 + 1) rfl 49 cs (0, 0) _ hbv Try.underlying49 rfl (size_w5 _ hcs) ?_)
      refine (hR.out _).mono ?_
      rintro e w1 ⟨rfl, hw1⟩
      have hN := HN.out
      have ho := hN.bo.later hw1
      have hbe := below_up hN.be hw1
      have hz := len_u4 (ws_len res)
      clear hN HN hw1 hR
      go_wp2_with (refine wpList_store_row rfl 27 _ _ rfl (w.heap.size + 1 + 1) rfl (Us (ws res)).toArray rfl 27 _ ho (size_sc _ hz) (by rw [hz]; rfl) (Us_one _) ?_)
      refine bodyPost_ret (results_cell_row rfl _ _ (w.heap.size + 1 + 1) 27 (Us (ws res)).toArray (0, 0) _ rfl (ho.row _) Try.underlying27 rfl (size_sc _ hz)) rfl ⟨rfl, ?_⟩
      exact below_setRow hbe (by omega) _
end Go.Proofs.Ythejahhhmkkhoaa
