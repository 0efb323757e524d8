/-
  THE PROGRAM'S SCALARS: Wide: 64 bytes modulo L.
-/
import Derived.Test.YthejahhhmkkhoaaNext
import Derived.Test.YthejahhhmkkhoaaHigh
import Derived.Deep.QuietTactic
namespace Go.Proofs.Ythejahhhmkkhoaa
open Go.RowKit Go.IntWalk Nums

theorem own_next : Own 24 := fun _ _ => by go_simp

theorem size_w64 (cs : Array Value) (h : cs.size = 64) : (Try.prog.info? 35).map (·.size) = some cs.size := by
  rw [h]
  kernel_rfl
theorem len_b64 {l : List UInt8} (h : l.length = 64) : (By l).toArray.size = 64 := by rw [List.size_toArray, By_len, h]

theorem le_cons4 {l : List UInt8} {i : Nat} (h : i + 4 ≤ l.length) : le (l.drop i) = (l[i]!).toNat + 256 * (l[i + 1]!).toNat + 65536 * (l[i + 2]!).toNat + 16777216 * (l[i + 3]!).toNat + 4294967296 * le (l.drop (i + 4)) := by
  have e : ∀ k k', k < l.length → k' = k + 1 → le (l.drop k) = (l[k]!).toNat + 256 * le (l.drop k') := fun k k' hk h => by
    rw [h, List.drop_eq_getElem_cons hk, getElem!_pos l k hk]
    rfl
  have e0 := e i (i + 1) (by omega) rfl
  have e1 := e (i + 1) (i + 2) (by omega) rfl
  have e2 := e (i + 2) (i + 3) (by omega) rfl
  have e3 := e (i + 3) (i + 4) (by omega) rfl
  rw [e0, e1, e2, e3]
  omega
theorem orL (i x y : Nat) (hx : x < 2 ^ i) (hy : y % 2 ^ i = 0) (h1 : x < 18446744073709551616) (h2 : y < 18446744073709551616) : bits .or .u64 (x : Int) (y : Int) = ((x + y : Nat) : Int) := by
  rw [u64_or_nat x y h1 h2, Nat.or_comm, nat_join i y x hy hx, Nat.add_comm]
theorem wide_step (X h L : Nat) : (4294967296 * (X % L) + 1 * h) % L = (h + 4294967296 * X) % L := by
  rw [Nat.one_mul, Nat.add_comm h, Nat.add_mod, Nat.mul_mod_mod, ← Nat.add_mod]

/-- What Wide's rows lie in. -/
structure WS (w wr : World) (l : List UInt8) (n : Nat) : Prop where
  b0 : Blk wr w.heap.size 35 (By l).toArray
  b1 : Blk wr (w.heap.size + 1) 27 z4
  b2 : Blk wr (w.heap.size + 1 + 1) 27 (Us (ws n)).toArray
  be : Below w.heap.size w wr
theorem WS.drew {w wr : World} {l : List UInt8} {n : Nat} (h : WS w wr l n) : WS w wr.drew l n := ⟨h.b0, h.b1, h.b2, h.be.drew⟩
theorem WS.up {w wr w1 : World} {l : List UInt8} {n : Nat} (h : WS w wr l n) (k : Up wr w1) : WS w w1 l n := ⟨k.blk h.b0, k.blk h.b1, k.blk h.b2, below_up h.be k⟩
theorem WS.set {w wr : World} {l : List UInt8} {n : Nat} (h : WS w wr l n) (m : Nat) : WS w (wr.setRow (w.heap.size + 1 + 1) (Us (ws m)).toArray) l m :=
  ⟨h.b0.rowFar (by omega) _, h.b1.rowFar (by omega) _, h.b2.row _, below_setRow h.be (by omega) _⟩

theorem built_one : Try.prog.built 25 [(0, .int .u64 1)] = some #[.int .u64 1, .int .u64 0, .int .u64 0, .int .u64 0] := by kernel_rfl
theorem built_sc1 : Try.prog.built 27 [(0, .agg #[.int .u64 1, .int .u64 0, .int .u64 0, .int .u64 0])] = some #[.int .u64 1, .int .u64 0, .int .u64 0, .int .u64 0] := by kernel_rfl
theorem ws_1 : ws 1 = [1, 0, 0, 0] := by decide

set_option maxRecDepth 100000 in
set_option maxHeartbeats 2000000 in
theorem wide_f {l : List UInt8} (hl : l.length = 64) (w : World) :
    Calls Try.prog 19 #[.agg (By l).toArray] w fun e w' => e = .returned (.agg (Us (ws (le l % LL))).toArray) ∧ Below w.heap.size w w' := by
  have hz := len_b64 hl
  go_enter Try.func19, Try.ntmps19
  refine wp_seq_k fun K hK => ?_
  refine wp_region_lit ?_
  refine wpl_box (By l).toArray rfl rfl rfl ?_
  refine wpl_alloc (zs := z4) rfl rfl (by kernel_rfl) ?_
  refine wpl_nil ?_
  go_simp
  refine hK _ _ ?_
  clear hK K
  refine wp_seq_k fun K hK => ?_
  refine wp_region_lit ?_
  refine wpl_alloc (zs := z4) rfl rfl (by kernel_rfl) ?_
  refine wpl_nil ?_
  go_simp
  refine hK _ _ ?_
  clear hK K
  refine wp_at (fun W => WS w W l 0) ⟨blk3_0 w _ _ _ _, blk3_1 w _ _ _ _, blk3_2 w _ _ _ _, (((Below.refl _ _).alloc (Nat.le_refl _) _).alloc (by simp) _).alloc (by simp; omega) _⟩ ?_
  intro W hW
  have HW := Lib.hid hW
  clear hW
  go_wp2
  go_loopw [4] (fun i wr => ∃ k : Nat, k ≤ 16 ∧ i = .int .i64 (4 * (k : Int) - 4) ∧ WS w wr l (le (l.drop (4 * k)) % LL)) (fun i _ => (intOf i + 4).toNat)
  case atStart =>
    refine ⟨16, by omega, rfl, ?_⟩
    rw [List.drop_of_length_le (by omega)]
    exact HW.out
  case round =>
    clear HW
    obtain ⟨k, hk, rfl, hS⟩ := hrel
    by_cases hlt : 0 < k
    · obtain ⟨i, rfl⟩ : ∃ i, k = i + 1 := ⟨k - 1, by omega⟩
      have e0 : 4 * ((i + 1 : Nat) : Int) - 4 = ((4 * i : Nat) : Int) := by omega
      rw [e0]
      have hle := le_cons4 (l := l) (i := 4 * i) (by omega)
      have e4 : 4 * (i + 1) = 4 * i + 4 := by omega
      rw [e4] at hS
      have hn := fun w1 h hh => next_f (A := le (l.drop (4 * i + 4)) % LL) (B := 1) (h := h) (Nat.mod_lt _ (by decide)) (by decide) hh w1
      rw [ws_1, cell4] at hn
      have c0 := (hS.b0.cell (4 * i)).trans (By_get (by omega))
      have c1 := (hS.b0.cell (4 * i + 1)).trans (By_get (by omega))
      have c2 := (hS.b0.cell (4 * i + 2)).trans (By_get (by omega))
      have c3 := (hS.b0.cell (4 * i + 3)).trans (By_get (by omega))
      have x0 := (l[4 * i]!).toNat_lt
      have x1 := (l[4 * i + 1]!).toNat_lt
      have x2 := (l[4 * i + 2]!).toNat_lt
      have x3 := (l[4 * i + 3]!).toNat_lt
      generalize (l[4 * i]!).toNat = y0 at *
      generalize (l[4 * i + 1]!).toNat = y1 at *
      generalize (l[4 * i + 2]!).toNat = y2 at *
      generalize (l[4 * i + 3]!).toNat = y3 at *
      obtain ⟨s1, hs1⟩ : ∃ s, s = y0 + y1 * 256 := ⟨_, rfl⟩
      obtain ⟨s2, hs2⟩ : ∃ s, s = s1 + y2 * 65536 := ⟨_, rfl⟩
      obtain ⟨s3, hs3⟩ : ∃ s, s = s2 + y3 * 16777216 := ⟨_, rfl⟩
      have q1 : bits .or .u64 (y0 : Int) ((y1 : Int) * 256) = (s1 : Int) := by
        rw [hs1, ← orL 8 y0 (y1 * 256) (by omega) (by omega) (by omega) (by omega)]
        rfl
      have q2 : bits .or .u64 (s1 : Int) ((y2 : Int) * 65536) = (s2 : Int) := by
        rw [hs2, ← orL 16 s1 (y2 * 65536) (by omega) (by omega) (by omega) (by omega)]
        rfl
      have q3 : bits .or .u64 (s2 : Int) ((y3 : Int) * 16777216) = (s3 : Int) := by
        rw [hs3, ← orL 24 s2 (y3 * 16777216) (by omega) (by omega) (by omega) (by omega)]
        rfl
      have hn3 := fun w1 => Lib.hid (hn w1 s3 (by omega))
      have hres : (4294967296 * (le (l.drop (4 * i + 4)) % LL) + 1 * s3) % LL = le (l.drop (4 * i)) % LL := by
        rw [wide_step, hle]
        congr 1
        omega
      rw [hres] at hn3
      have k1 : IntKind.i64.wrap (((4 * i : Nat) : Int) + 1) = ((4 * i + 1 : Nat) : Int) := by rw [i64_left, wrap64_in _ (by omega)]; omega
      have k2 : IntKind.i64.wrap (((4 * i : Nat) : Int) + 2) = ((4 * i + 2 : Nat) : Int) := by rw [i64_left, wrap64_in _ (by omega)]; omega
      have k3 : IntKind.i64.wrap (((4 * i : Nat) : Int) + 3) = ((4 * i + 3 : Nat) : Int) := by rw [i64_left, wrap64_in _ (by omega)]; omega
      have g0 : ((4 * i : Nat) : Int) < 64 := by omega
      have g1 : ((4 * i + 1 : Nat) : Int) < 64 := by omega
      have g2 : ((4 * i + 2 : Nat) : Int) < 64 := by omega
      have g3 : ((4 * i + 3 : Nat) : Int) < 64 := by omega
      have HS := Lib.hid hS
      have hA : 4 * i ≤ 60 := by omega
      have HE := Lib.hid (show ((4 * i : Nat) : Int) = 4 * (i : Int) ∧ i ≤ 15 from ⟨by omega, by omega⟩)
      clear hS hle hn hs1 hs2 hs3 hres e0 e4 hk hlt
      generalize le (l.drop (4 * i + 4)) % LL = X at *
      generalize hY : le (l.drop (4 * i)) % LL = Y at *
      generalize 4 * i + 1 = A1 at *
      generalize 4 * i + 2 = A2 at *
      generalize 4 * i + 3 = A3 at *
      generalize hA0 : 4 * i = A at *
      go_wp2
      go_region
      have h2 := HS.out.drew.b2
      go_wp2_with (refine wpList_load_row rfl 27 _ rfl (w.heap.size + 1 + 1) rfl 27 (Us (ws X)).toArray (0, 0) _ h2 Try.underlying27 rfl (size_sc _ (len_u4 (ws_len X))) ?_)
      clear h2
      refine (hn3 _).out.mono ?_
      rintro e w1 ⟨rfl, hw1⟩
      have h3 := HS.out.drew.up hw1
      have h2 := h3.b2
      have H3 := Lib.hid (h3.set Y)
      clear h3 hw1 HS hn3
      go_wp2_with (refine wpList_store_row rfl 27 _ _ rfl (w.heap.size + 1 + 1) rfl (Us (ws Y)).toArray rfl 27 _ h2 (size_sc _ (len_u4 (ws_len Y))) (by rw [len_u4 (ws_len X), len_u4 (ws_len Y)]) (Us_one _) ?_)
      go_roundw
      case rel =>
        refine ⟨i, by have := HE.out; omega, by have := HE.out; go_num, ?_⟩
        rw [hA0, hY]
        exact H3.out
      case measure => have := HE.out; simp [intOf]; omega
    · obtain rfl : k = 0 := by omega
      have e0 : l.drop (4 * 0) = l := rfl
      rw [e0] at hS
      obtain ⟨b0, b1, b2, be⟩ := hS
      have hzs := len_u4 (ws_len (le l % LL))
      clear b0
      go_wp2_with (first
        | (refine wpList_load_row rfl 27 _ rfl (w.heap.size + 1 + 1) rfl 27 (Us (ws (le l % LL))).toArray (0, 0) _ b2 Try.underlying27 rfl (size_sc _ hzs) ?_)
        | (refine wpList_store_row rfl 27 _ _ rfl (w.heap.size + 1) rfl (Us (ws (le l % LL))).toArray rfl 27 _ b1 (size_sc _ hzs) (by rw [hzs]; rfl) (Us_one _) ?_))
      refine bodyPost_ret (results_cell_row rfl _ _ (w.heap.size + 1) 27 (Us (ws (le l % LL))).toArray (0, 0) _ rfl (b1.row _) Try.underlying27 rfl (size_sc _ hzs)) rfl ⟨rfl, ?_⟩
      exact below_setRow be (by omega) _
end Go.Proofs.Ythejahhhmkkhoaa
