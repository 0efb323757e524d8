/-
  THE FIELD'S NUMBERS: Hash: the bytes of the number below p.
-/
import Derived.Test.YtchhkejgdcmicaaDoorElSteps
namespace Go.Proofs.YtchhkejgdcmicaaDoor
open Go.RowKit Go.IntWalk Nums

/-- The bytes when n of them are there. -/
def fb (l : List UInt8) (n : Nat) : List UInt8 := (List.range 32).map fun m => if m < n then l[m]! else 0
theorem fb_len (l : List UInt8) (n : Nat) : (fb l n).length = 32 := by simp [fb]
theorem fb_zero (l : List UInt8) : fb l 0 = List.replicate 32 0 := by
  apply List.ext_getElem (by simp [fb])
  intro i h1 h2
  rw [List.getElem_replicate]
  simp [fb]
theorem fb_all {l : List UInt8} (h : l.length = 32) : fb l 32 = l := by
  apply List.ext_getElem (by simp [fb, h])
  intro i h1 h2
  have h3 : i < 32 := by simpa [fb] using h1
  simp [fb, h3, h2]
theorem fb_set (l : List UInt8) {n : Nat} : (fb l n).set n l[n]! = fb l (n + 1) := by
  apply List.ext_getElem (by simp [fb])
  intro j h1 h2
  rw [List.getElem_set]
  simp only [fb, List.getElem_map, List.getElem_range]
  by_cases hjk : n = j
  · subst hjk
    simp
  · rw [if_neg hjk]
    by_cases hlt : j < n
    · rw [if_pos hlt, if_pos (by omega)]
    · rw [if_neg hlt, if_neg (by omega)]

theorem bytes_get : ∀ (k v : Nat) {m : Nat}, m < k → ((Nums.bytes k v)[m]!).toNat = v / 256 ^ m % 256
  | k + 1, v, 0, _ => by
    show (UInt8.ofNat v).toNat = v / 1 % 256
    rw [UInt8.toNat_ofNat', Nat.div_one]
  | k + 1, v, m + 1, h => by
    have ih := bytes_get k (v / 256) (m := m) (by omega)
    show ((Nums.bytes k (v / 256))[m]!).toNat = v / 256 ^ (m + 1) % 256
    rw [ih, Nat.div_div_eq_div_mul, Nat.pow_succ, Nat.mul_comm 256]

/-- The word of 64 bits from 64 k on. -/
def wd (L k : Nat) : Nat := L / 18446744073709551616 ^ k % 18446744073709551616

theorem wd_byte (L k j : Nat) (hj : j < 8) : wd L k / 2 ^ (8 * j) % 256 = L / 256 ^ (8 * k + j) % 256 := by
  have e1 : (256 : Nat) ^ (8 * k + j) = 18446744073709551616 ^ k * 256 ^ j := by
    rw [Nat.pow_add, Nat.pow_mul]
  have e2 : (2 : Nat) ^ (8 * j) = 256 ^ j := by rw [Nat.pow_mul]
  rw [e1, e2, ← Nat.div_div_eq_div_mul]
  unfold wd
  generalize L / 18446744073709551616 ^ k = z
  have h8 : j = 0 ∨ j = 1 ∨ j = 2 ∨ j = 3 ∨ j = 4 ∨ j = 5 ∨ j = 6 ∨ j = 7 := by omega
  rcases h8 with rfl | rfl | rfl | rfl | rfl | rfl | rfl | rfl <;> simp only [Nat.reducePow] <;> omega

/-- A word out of two limbs. -/
theorem wd_limbs {l : List Nat} (hl : l.length = 5) (hb : ∀ y ∈ l, y < 2251799813685248) {k : Nat} (hk : k < 4) :
    bits .or .u64 ((l[64 * k / 51]! : Nat) / 2 ^ (64 * k % 51) : Int) (IntKind.u64.wrap ((l[64 * k / 51 + 1]! : Nat) * 2 ^ (51 - 64 * k % 51) : Int)) = ((wd (lv l) k : Nat) : Int) := by
  obtain ⟨a0, a1, a2, a3, a4, rfl⟩ := five hl
  have h0 := hb a0 (by simp)
  have h1 := hb a1 (by simp)
  have h2 := hb a2 (by simp)
  have h3 := hb a3 (by simp)
  have h4 := hb a4 (by simp)
  unfold wd
  rw [lv5]
  have h4' : k = 0 ∨ k = 1 ∨ k = 2 ∨ k = 3 := by omega
  have key : ∀ (i x y r t L : Nat), y * 2 ^ t % 18446744073709551616 % 2 ^ i = 0 → x / 2 ^ r < 2 ^ i → x / 2 ^ r < 18446744073709551616 → y * 2 ^ t % 18446744073709551616 + x / 2 ^ r = L →
      bits .or .u64 ((x : Nat) / 2 ^ r : Int) (IntKind.u64.wrap ((y : Nat) * 2 ^ t : Int)) = (L : Int) := by
    intro i x y r t L e1 e2 e3 e4
    have f1 : ((x : Int) / 2 ^ r) = ((x / 2 ^ r : Nat) : Int) := by simp
    have f2 : IntKind.u64.wrap ((y : Int) * 2 ^ t) = ((y * 2 ^ t % 18446744073709551616 : Nat) : Int) := by
      rw [IntKind.wrap_u64]
      simp
    rw [f1, f2, ← e4, u64_or_nat _ _ e3 (by omega), Nat.or_comm, nat_join i _ _ e1 e2]
  rcases h4' with rfl | rfl | rfl | rfl
  · exact key 51 a0 a1 0 51 _ (by omega) (by omega) (by omega) (by simp only [Nat.reducePow]; omega)
  · exact key 38 a1 a2 13 38 _ (by omega) (by omega) (by omega) (by simp only [Nat.reducePow]; omega)
  · exact key 25 a2 a3 26 25 _ (by omega) (by omega) (by omega) (by simp only [Nat.reducePow]; omega)
  · exact key 12 a3 a4 39 12 _ (by omega) (by omega) (by omega) (by simp only [Nat.reducePow]; omega)

/-- What Hash's rows lie in. -/
structure HSt (w wr : World) (g : Nat) (l : List Nat) (b : List UInt8) (n : Nat) : Prop where
  b1 : Blk wr (w.heap.size + 1) 22 z32
  b2 : Blk wr g 27 (Us l).toArray
  b3 : Blk wr (g + 1) 22 (By (fb b n)).toArray
  be : Below w.heap.size w wr
  hg : w.heap.size + 1 < g
theorem HSt.drew {w wr : World} {g : Nat} {l : List Nat} {b : List UInt8} {n : Nat} (h : HSt w wr g l b n) : HSt w wr.drew g l b n := ⟨h.b1, h.b2, h.b3, h.be.drew, h.hg⟩
theorem HSt.set {w wr : World} {g : Nat} {l : List Nat} {b : List UInt8} {n : Nat} (h : HSt w wr g l b n) : HSt w (wr.setCell ⟨g + 1, n, none⟩ (.int .u8 ((b[n]!).toNat : Int))) g l b (n + 1) where
  b1 := h.b1.far (by have := h.hg; simp; omega) _
  b2 := h.b2.far (by simp) _
  b3 := by
    have h4 := h.b3.set n (.int .u8 ((b[n]!).toNat : Int))
    rw [By_set, fb_set] at h4
    exact h4
  be := h.be.setCell (by have := h.hg; simp; omega) _
  hg := h.hg

set_option maxRecDepth 100000 in
set_option maxHeartbeats 2000000 in
theorem hash_f {a : List Nat} {x : F} (ha : EB a x) (w : World) :
    Calls Tryd.prog 15 #[.agg (Us a).toArray] w fun e w' => e = .returned (.agg (By (enc x)).toArray) ∧ Below w.heap.size w w' := by
  obtain ⟨hl, hb, hL⟩ := whole_all ha
  have hbyte : ∀ m, m < 32 → ((enc x)[m]!).toNat = lv (whole a) / 256 ^ m % 256 := fun m hm => by
    rw [hL]
    exact bytes_get 32 x.val hm
  have hbl : (enc x).length = 32 := enc_len x
  have h0 : ∀ u, Blk ((w.alloc (Obj.cells (Us a).toArray 27)).alloc u) w.heap.size 27 (Us a).toArray := fun u => (Blk.new w _ _).alloc u
  have h1 : Blk ((w.alloc (Obj.cells (Us a).toArray 27)).alloc (Obj.cells z32 22)) (w.heap.size + 1) 22 z32 := heap_alloc2_new w _ _
  have hbel : Below w.heap.size w ((w.alloc (Obj.cells (Us a).toArray 27)).alloc (Obj.cells z32 22)) := ((Below.refl _ _).alloc (Nat.le_refl _) _).alloc (by simp) _
  have HWH := fun w1 => Lib.hid (whole_f ha w1)
  have HK := Lib.hid (And.intro h1 hbel)
  have hza := len_us ha.len
  clear hL h1 hbel
  generalize enc x = b at *
  generalize whole a = l at *
  go_enter Tryd.func15, Tryd.ntmps15
  go_wp2_with (refine wpList_load_row rfl 27 _ rfl w.heap.size rfl 27 (Us a).toArray (0, 0) _ (h0 _) Tryd.underlying27 rfl (size_el _ hza) ?_)
  refine (HWH _).out.mono ?_
  rintro e w1 ⟨rfl, hw1⟩
  obtain ⟨h1, hbel⟩ := HK.out
  have hbe := hbel.trans (hw1.mono hbel.size)
  have h2 := h1.below hw1 h1.lt
  have h2s := h2.lt
  have hn : Blk (w1.alloc (Obj.cells z5 27)) w1.heap.size 27 z5 := Blk.new w1 _ _
  have hzl := len_us hl
  have h3 : HSt w (((w1.alloc (Obj.cells z5 27)).setRow w1.heap.size (Us l).toArray).alloc (Obj.cells z32 22)) w1.heap.size l b 0 := by
    have hb3 := Blk.new ((w1.alloc (Obj.cells z5 27)).setRow w1.heap.size (Us l).toArray) 22 z32
    rw [size_setRow, World.size_alloc] at hb3
    refine ⟨((h2.alloc _).rowFar (by omega) _).alloc _, (hn.row _).alloc _, ?_, ?_, h2s⟩
    · rw [fb_zero]
      exact hb3
    · have hq := below_setRow (cs := (Us l).toArray) (hbe.alloc (o := Obj.cells z5 27) hbe.size) (g := w1.heap.size) (by omega)
      exact hq.alloc hq.size _
  have H3 := Lib.hid h3
  clear h3 h2 h2s hbe hw1 h1 hbel HK HWH h0
  generalize hg : w1.heap.size = g at *
  go_wp2_with (refine wpList_store_row rfl 27 _ _ rfl g rfl (Us l).toArray rfl 27 _ hn (size_el _ hzl) (by rw [hzl]; rfl) (Us_one _) ?_)
  clear hg hn
  go_loopw [11] (fun i wr => ∃ k : Nat, k ≤ 4 ∧ i = .int .i64 k ∧ HSt w wr g l b (8 * k)) (fun i _ => 4 - (intOf i).toNat)
  case atStart => exact ⟨0, by omega, rfl, H3.out⟩
  case round =>
    clear H3
    obtain ⟨k, hk, rfl, hS⟩ := hrel
    by_cases hlt : k < 4
    · have hwd := wd_limbs hl hb hlt
      have hW : wd (lv l) k < 18446744073709551616 := Nat.mod_lt _ (by decide)
      have hby : ∀ j, j < 8 → (b[8 * k + j]!).toNat = wd (lv l) k / 2 ^ (8 * j) % 256 := fun j hj => by
        rw [wd_byte _ _ _ hj, hbyte _ (by omega)]
      have c0 := (hS.b2.drew.cell (64 * k / 51)).trans (Us_at (by omega))
      have c1 := (hS.b2.drew.cell (64 * k / 51 + 1)).trans (Us_at (by omega))
      have qA : IntKind.i64.wrap (64 * (k : Int)) = ((64 * k : Nat) : Int) := by rw [i64_left, wrap64_in _ (by omega)]; omega
      have qd : ((64 * k : Nat) : Int).tdiv 51 = ((64 * k / 51 : Nat) : Int) := rfl
      have qm : ((64 * k : Nat) : Int).tmod 51 = ((64 * k % 51 : Nat) : Int) := rfl
      have qs : IntKind.i64.wrap (((64 * k / 51 : Nat) : Int) + 1) = ((64 * k / 51 + 1 : Nat) : Int) := by rw [i64_left, wrap64_in _ (by omega)]; omega
      have qt : IntKind.i64.wrap (51 - ((64 * k % 51 : Nat) : Int)) = ((51 - 64 * k % 51 : Nat) : Int) := by rw [i64_left, wrap64_in _ (by omega)]; omega
      have g1 : ((64 * k / 51 + 1 : Nat) : Int) < 5 := by omega
      have g2 : ((64 * k / 51 : Nat) : Int) < 5 := by omega
      have g3 : ((64 * k % 51 : Nat) : Int) ≤ 64 := by omega
      have g4 : ((51 - 64 * k % 51 : Nat) : Int) ≤ 64 := by omega
      have g5 : (0 : Int) ≤ (k : Int) := by omega
      generalize wd (lv l) k = W at *
      generalize l[64 * k / 51]! = u at *
      generalize l[64 * k / 51 + 1]! = v at *
      generalize 51 - 64 * k % 51 = t at *
      generalize 64 * k % 51 = r at *
      generalize 64 * k / 51 + 1 = q1 at *
      generalize 64 * k / 51 = q at *
      generalize 64 * k = A at *
      have HS := Lib.hid hS
      clear hS
      go_wp2
      go_region
      clear qA qd qm qs qt g1 g2 g3 g4 c0 c1 hwd
      go_wp2
      go_loopw [35] (fun i wq => ∃ j : Nat, j ≤ 8 ∧ i = .int .i64 j ∧ HSt w wq g l b (8 * k + j)) (fun i _ => 8 - (intOf i).toNat)
      case atStart => exact ⟨0, by omega, rfl, HS.out.drew⟩
      case round =>
        clear HS
        obtain ⟨j, hj, rfl, hS⟩ := hrel
        by_cases hlj : j < 8
        · have hbj := hby j hlj
          have q4 : IntKind.u8.wrap ((W : Int) / 2 ^ (8 * j)) = ((b[8 * k + j]!).toNat : Int) := by
            have f1 : ((W : Int) / 2 ^ (8 * j)) = ((W / 2 ^ (8 * j) : Nat) : Int) := by simp
            rw [f1, IntKind.wrap_u8', hbj]
            omega
          have hN := hS.set
          have hc := (hS.b3.cell (8 * k + j)).trans (By_get (by rw [fb_len]; omega))
          have hf := hS.b3.free (8 * k + j)
          have q1 : IntKind.i64.wrap (8 * (k : Int)) = ((8 * k : Nat) : Int) := by rw [i64_left, wrap64_in _ (by omega)]; omega
          have q2 : IntKind.i64.wrap (((8 * k : Nat) : Int) + (j : Int)) = ((8 * k + j : Nat) : Int) := by rw [i64_left, wrap64_in _ (by omega)]; omega
          have q3 : IntKind.i64.wrap (8 * (j : Int)) = ((8 * j : Nat) : Int) := by rw [i64_left, wrap64_in _ (by omega)]; omega
          have g1 : ((8 * k + j : Nat) : Int) < 32 := by omega
          have g2 : ((8 * j : Nat) : Int) ≤ 64 := by omega
          have e1 : 8 * k + (j + 1) = 8 * k + j + 1 := by omega
          have HN := Lib.hid hN
          clear hS hby hbj hN
          generalize (b[8 * k + j]!).toNat = y at *
          generalize 8 * k + j = m at *
          generalize 8 * k = a8 at *
          generalize 8 * j = n at *
          go_wp2
          go_roundw
          case rel =>
            exact ⟨j + 1, by omega, by go_num, by rw [e1]; exact HN.out⟩
          case measure => simp [intOf]; omega
        · obtain rfl : j = 8 := by omega
          have HS := Lib.hid hS
          clear hS
          go_wp2
          go_roundw
          case rel => exact ⟨k + 1, by omega, by go_num, by rw [show 8 * (k + 1) = 8 * k + 8 by omega]; exact HS.out⟩
          case measure => simp [intOf]; omega
    · obtain rfl : k = 4 := by omega
      obtain ⟨b1, b2, b3, be, hg⟩ := hS
      rw [show 8 * 4 = 32 from rfl, fb_all hbl] at b3
      have hz : (By b).toArray.size = 32 := by rw [List.size_toArray, By_len, hbl]
      clear b2
      go_wp2_with (first
        | (refine wpList_load_row rfl 22 _ rfl (g + 1) rfl 22 (By b).toArray (0, 0) _ b3 Tryd.underlying22 rfl (size_hash _ hz) ?_)
        | (refine wpList_store_row rfl 22 _ _ rfl (w.heap.size + 1) rfl (By b).toArray rfl 22 _ b1 (size_hash _ hz) (by rw [hz]; rfl) (By_one _) ?_))
      refine bodyPost_ret (results_cell_row rfl _ _ (w.heap.size + 1) 22 (By b).toArray (0, 0) _ rfl (b1.row _) Tryd.underlying22 rfl (size_hash _ hz)) rfl ⟨rfl, ?_⟩
      exact below_setRow be (by omega) _
end Go.Proofs.YtchhkejgdcmicaaDoor
