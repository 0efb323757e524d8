/-
  THE PROGRAM'S SCALARS: Hash: the bytes of four words.
-/
import Derived.Test.YthejahhhmkkhoaaNext
namespace Go.Proofs.Ythejahhhmkkhoaa
open Go.RowKit Go.IntWalk Nums

theorem ws_wd (n : Nat) {k : Nat} (hk : k < 4) : (ws n)[k]! = wd n k := by
  have h4 : k = 0 ∨ k = 1 ∨ k = 2 ∨ k = 3 := by omega
  rcases h4 with rfl | rfl | rfl | rfl
  · show n % 18446744073709551616 = n / 1 % 18446744073709551616
    rw [Nat.div_one]
  · rfl
  · rfl
  · rfl

/-- What Hash's rows lie in. -/
structure HS4 (w wr : World) (a : List Nat) (b : List UInt8) (n : Nat) : Prop where
  b0 : Blk wr w.heap.size 27 (Us a).toArray
  b1 : Blk wr (w.heap.size + 1) 22 z32
  b2 : Blk wr (w.heap.size + 1 + 1) 22 (By (fb b n)).toArray
  be : Below w.heap.size w wr
theorem HS4.set {w wr : World} {a : List Nat} {b : List UInt8} {n : Nat} (h : HS4 w wr a b n) : HS4 w (wr.setCell ⟨w.heap.size + 1 + 1, n, none⟩ (.int .u8 ((b[n]!).toNat : Int))) a b (n + 1) where
  b0 := h.b0.far (by show w.heap.size ≠ w.heap.size + 1 + 1; omega) _
  b1 := h.b1.far (by show w.heap.size + 1 ≠ w.heap.size + 1 + 1; omega) _
  b2 := by
    have h4 := h.b2.set n (.int .u8 ((b[n]!).toNat : Int))
    rw [By_set, fb_set] at h4
    exact h4
  be := h.be.setCell (by show w.heap.size ≤ w.heap.size + 1 + 1; omega) _

set_option maxRecDepth 100000 in
set_option maxHeartbeats 1000000 in
theorem schash_f (n : Nat) (w : World) :
    Calls Try.prog 10 #[.agg (Us (ws n)).toArray] w fun e w' => e = .returned (.agg (By (Nums.bytes 32 n)).toArray) ∧ Below w.heap.size w w' := by
  have hbyte : ∀ m, m < 32 → ((Nums.bytes 32 n)[m]!).toNat = (ws n)[m / 8]! / 2 ^ (m % 8 * 8) % 256 := fun m hm => by
    rw [bytes_get 32 n hm, ws_wd n (by omega), Nat.mul_comm (m % 8), wd_byte _ _ _ (by omega)]
    congr 3
    omega
  have hbl : (Nums.bytes 32 n).length = 32 := bytes_len _ _
  have ha := fun k => ws_get_lt n (k := k)
  have la := ws_len n
  generalize Nums.bytes 32 n = b at *
  generalize ws n = a at *
  go_enter Try.func10, Try.ntmps10
  go_wp2
  go_loopw [5] (fun i wr => ∃ k : Nat, k ≤ 32 ∧ i = .int .i64 k ∧ HS4 w wr a b k) (fun i _ => 32 - (intOf i).toNat)
  case atStart =>
    refine ⟨0, by omega, rfl, blk3_0 w _ _ _ _, blk3_1 w _ _ _ _, ?_, (((Below.refl _ _).alloc (Nat.le_refl _) _).alloc (by simp) _).alloc (by simp; omega) _⟩
    rw [fb_zero]
    exact blk3_2 w _ _ _ _
  case round =>
    obtain ⟨m, hm, rfl, hS⟩ := hrel
    by_cases hlt : m < 32
    · have hN := hS.set
      have c0 := (hS.b0.cell (m / 8)).trans (Us_at (by omega))
      have hc := (hS.b2.cell m).trans (By_get (by rw [fb_len]; omega))
      have hf := hS.b2.free m
      have hb := hbyte m hlt
      have qd : (m : Int).tdiv 8 = ((m / 8 : Nat) : Int) := rfl
      have qm : (m : Int).tmod 8 = ((m % 8 : Nat) : Int) := rfl
      have qt : IntKind.i64.wrap (((m % 8 : Nat) : Int) * 8) = ((m % 8 * 8 : Nat) : Int) := by rw [i64_left, wrap64_in _ (by omega)]; omega
      have g1 : ((m / 8 : Nat) : Int) < 4 := by omega
      have g2 : ((m % 8 * 8 : Nat) : Int) ≤ 64 := by omega
      have g5 : (0 : Int) ≤ (m : Int) := by omega
      generalize a[m / 8]! = W at *
      generalize m / 8 = q at *
      generalize hs : m % 8 * 8 = s at *
      have q4 : IntKind.u8.wrap ((W : Int) / 2 ^ s) = ((b[m]!).toNat : Int) := by
        have f1 : ((W : Int) / 2 ^ s) = ((W / 2 ^ s : Nat) : Int) := by simp
        rw [f1, IntKind.wrap_u8', hb]
        omega
      have HN := Lib.hid hN
      clear hS hbyte hb hN hs ha
      generalize (fb b m)[m]! = old at *
      generalize (b[m]!).toNat = y at *
      generalize m % 8 = r at *
      go_wp2
      go_roundw
      case rel => exact ⟨m + 1, by omega, by go_num, HN.out⟩
      case measure => simp [intOf]; omega
    · obtain rfl : m = 32 := by omega
      obtain ⟨_, b1, b2, be⟩ := hS
      rw [fb_all hbl] at b2
      have hz := len_by hbl
      go_wp2_with (first
        | (refine wpList_load_row rfl 22 _ rfl (w.heap.size + 1 + 1) rfl 22 (By b).toArray (0, 0) _ b2 Try.underlying22 rfl (size_hash _ hz) ?_)
        | (refine wpList_store_row rfl 22 _ _ rfl (w.heap.size + 1) rfl (By b).toArray rfl 22 _ b1 (size_hash _ hz) (by rw [hz]; rfl) (By_one _) ?_))
      refine bodyPost_ret (results_cell_row rfl _ _ (w.heap.size + 1) 22 (By b).toArray (0, 0) _ rfl (b1.row _) Try.underlying22 rfl (size_hash _ hz)) rfl ⟨rfl, ?_⟩
      exact below_setRow be (by omega) _
end Go.Proofs.Ythejahhhmkkhoaa
