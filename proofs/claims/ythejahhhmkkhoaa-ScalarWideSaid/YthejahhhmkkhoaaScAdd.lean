/-
  THE DOCUMENT'S OWN SCALARS: Add.
-/
import Derived.Test.YthejahhhmkkhoaaSc
namespace Go.Proofs.Ythejahhhmkkhoaa
open Go.RowKit Go.IntWalk Nums

/-- The blocks of Add's walk. -/
structure AW (w wr : World) (a b s : List UInt8) : Prop where
  a : Blk wr w.heap.size 22 (By a).toArray
  b : Blk wr (w.heap.size + 1) 22 (By b).toArray
  o : Blk wr (w.heap.size + 1 + 1) 22 z32
  s : WL wr (w.heap.size + 1 + 1 + 1) s
  be : Below w.heap.size w wr
theorem AW.set {w wr : World} {a b s : List UInt8} (h : AW w wr a b s) (k : Nat) (x : UInt8) : AW w (wr.setCell ⟨w.heap.size + 1 + 1 + 1, k, none⟩ (.int .u8 (x.toNat : Int))) a b (s.set k x) where
  a := h.a.far (by show w.heap.size ≠ w.heap.size + 1 + 1 + 1; omega) _
  b := h.b.far (by show w.heap.size + 1 ≠ w.heap.size + 1 + 1 + 1; omega) _
  o := h.o.far (by show w.heap.size + 1 + 1 ≠ w.heap.size + 1 + 1 + 1; omega) _
  s := h.s.set k x
  be := h.be.setCell (by show w.heap.size ≤ w.heap.size + 1 + 1 + 1; omega) _
theorem AW.up {w wr w1 : World} {a b s : List UInt8} (h : AW w wr a b s) (k : Up wr w1) : AW w w1 a b s := ⟨k.blk h.a, k.blk h.b, k.blk h.o, h.s.later k, below_up h.be k⟩

set_option maxRecDepth 100000 in
set_option maxHeartbeats 4000000 in
theorem add4_f (a b : List UInt8) (ha : a.length = 32) (hb : b.length = 32) (w : World) :
    Calls Try.prog 13 #[.agg (By a).toArray, .agg (By b).toArray] w fun e w' => e = .returned (.agg (By (Nums.bytes 32 ((le a + le b) % LL))).toArray) ∧ Below w.heap.size w w' := by
  obtain ⟨i0, hi0, hz0, hz1, hz2⟩ := info_parts info_u8
  have hA0 : AW w ((((w.alloc (.cells (By a).toArray 22)).alloc (.cells (By b).toArray 22)).alloc (.cells z32 22)).alloc (.cells (madeCells #[.int .u8 0] 33) 5)) a b (List.replicate 33 0) := by
    refine ⟨blk4_0 w _ _ _ _ _, blk4_1 w _ _ _ _ _, blk4_2 w _ _ _ _ _, ?_, below4 _ _ _ _ _⟩
    rw [made_bytes]
    exact WL.row (blk4_3 w _ _ _ _ _)
  have HA := Lib.hid hA0
  clear hA0
  go_enter Try.func13, Try.ntmps13
  go_wp2_with (at_make; refine wpList_make_row _ rfl _ _ 31 rfl 5 i0 _ Try.underlying31 hi0 hz0 hz1 rfl .i64 .i64 33 rfl rfl (by rw [hz2]; omega) (by omega) ?_)
  clear hi0 hz0 hz1 hz2 i0
  go_loopw [6, 7] (fun cv kv wr => ∃ k : Nat, k ≤ 32 ∧ kv = .int .i64 k ∧ ∃ (cc : Nat) (s : List UInt8), cv = .int .i64 cc ∧ Sm a b s cc k ∧ AW w wr a b s) (fun _ kv _ => 32 - (intOf kv).toNat)
  case atStart => exact ⟨0, by omega, rfl, 0, List.replicate 33 0, rfl, Sm.start (by simp), HA.out⟩
  case round =>
    clear HA
    obtain ⟨k, hk, rfl, cc, s, rfl, hS, hW⟩ := hrel
    by_cases hlt : k < 32
    · have hSn := hS.next ha hb hlt
      have ca := (hW.a.cell k).trans (By_get (l := a) (by omega))
      have cb := (hW.b.cell k).trans (By_get (l := b) (by omega))
      have cs := hW.s.1.2 k (by rw [hS.1]; omega)
      have fs := hW.s.2 k (by rw [hS.1]; omega)
      have hx := (a[k]!).toNat_lt
      have hy := (b[k]!).toNat_lt
      have hc1 := hS.2.1
      have hup := fun w1 (h1 : Up wr w1) => (hW.up h1).set k (UInt8.ofNat ((cc + ((a[k]!).toNat + (b[k]!).toNat)) % 256))
      have hca := fun w1 (h1 : Up wr w1) => ((hW.up h1).a.cell k).trans (By_get (l := a) (by omega))
      have hcb := fun w1 (h1 : Up wr w1) => ((hW.up h1).b.cell k).trans (By_get (l := b) (by omega))
      have hcs := fun w1 (h1 : Up wr w1) => (hW.up h1).s.1.2 k (by rw [hS.1]; omega)
      have hfs := fun w1 (h1 : Up wr w1) => (hW.up h1).s.2 k (by rw [hS.1]; omega)
      rw [UInt8.toNat_ofNat_of_lt' (by show _ < 256; omega)] at hup
      clear ca cb cs fs
      generalize (a[k]!).toNat = x at *
      generalize (b[k]!).toNat = y at *
      have hm1 : ((cc : Int) + ((x : Int) + (y : Int))).tmod 256 = (((cc + (x + y)) % 256 : Nat) : Int) := by rw [Int.tmod_eq_emod_of_nonneg (by omega)]; rfl
      have hd1 : ((cc : Int) + ((x : Int) + (y : Int))).tdiv 256 = (((cc + (x + y)) / 256 : Nat) : Int) := by rw [Int.tdiv_eq_ediv_of_nonneg (by omega)]; rfl
      have hr256 : (cc + (x + y)) % 256 < 256 := Nat.mod_lt _ (by decide)
      have hq256 : (cc + (x + y)) / 256 < 256 := by omega
      have HS := Lib.hid hSn
      clear hS hW hSn
      have hk32 : (k : Int) < 32 := by omega
      generalize (cc + (x + y)) % 256 = r at *
      generalize (cc + (x + y)) / 256 = q at *
      go_wp2
      refine reg_q (by kernel_rfl) (by kernel_rfl) (fun _ _ d _ _ h => by cases d <;> exact h) ?_
      refine b_move rfl rfl ?_
      refine b_move rfl rfl ?_
      refine wpB_step (fun K hK => ?_)
      go_simp
      refine ⟨_, fun _ _ => ⟨rfl, rfl⟩, hK _ ?_⟩
      clear hK K
      refine b_val (v := .int .u8 (x : Int)) rfl (fun w5 h5 => by have hc := hca w5 h5; go_simp) ?_
      refine wpB_step (fun K hK => ?_)
      go_simp
      refine ⟨_, fun _ _ => ⟨rfl, rfl⟩, hK _ ?_⟩
      clear hK K
      refine b_move rfl rfl ?_
      refine wpB_step (fun K hK => ?_)
      go_simp
      refine ⟨_, fun _ _ => ⟨rfl, rfl⟩, hK _ ?_⟩
      clear hK K
      refine b_val (v := .int .u8 (y : Int)) rfl (fun w5 h5 => by have hc := hcb w5 h5; go_simp) ?_
      refine wpB_step (fun K hK => ?_)
      go_simp
      refine ⟨_, fun _ _ => ⟨rfl, rfl⟩, hK _ ?_⟩
      clear hK K
      refine wpB_step (fun K hK => ?_)
      go_simp
      refine ⟨_, fun _ _ => ⟨rfl, rfl⟩, hK _ ?_⟩
      clear hK K
      refine wpB_step (fun K hK => ?_)
      go_simp
      refine ⟨_, fun _ _ => ⟨rfl, rfl⟩, hK _ ?_⟩
      clear hK K
      refine b_assign rfl rfl ?_
      refine wpB_nil ?_
      intro w5 h5
      have cs := hcs w5 h5
      have fs := hfs w5 h5
      have HD := Lib.hid (And.intro HS.out (hup w5 h5))
      clear hup hca hcb hcs hfs HS h5
      go_wp2
      go_roundw
      case rel => exact ⟨k + 1, by omega, by go_num, q, _, rfl, HD.out.1, HD.out.2⟩
      case measure => simp [intOf]; omega
    · obtain rfl : k = 32 := by omega
      obtain ⟨hv, hl33⟩ := hS.last ha hb
      have cs := hW.s.1.2 32 (by rw [hS.1]; omega)
      have fs := hW.s.2 32 (by rw [hS.1]; omega)
      have hWn := hW.set 32 (UInt8.ofNat cc)
      have hc1 := hS.2.1
      rw [UInt8.toNat_ofNat_of_lt' (by show _ < 256; omega)] at hWn
      have HMd := fun (w1 : World) (h : WL w1 (w.heap.size + 1 + 1 + 1) (s.set 32 (UInt8.ofNat cc))) => Lib.hid (mod_any (s.set 32 (UInt8.ofNat cc)) (w.heap.size + 1 + 1 + 1) 33 w1 (by omega) h.1)
      rw [hv, hl33] at HMd
      have HM := HMd _ hWn.s
      have HW := Lib.hid hWn
      clear hW hS hWn HMd hv hl33
      generalize s.set 32 (UInt8.ofNat cc) = s2 at *
      go_wp2_with (fail)
      refine HM.out.mono ?_
      rintro e w2 ⟨rfl, hw2⟩
      have ho := HW.out.o.later hw2
      have HB := Lib.hid (HW.out.be.trans (hw2.mono HW.out.be.size))
      have hz := len_by (bytes_len 32 ((le a + le b) % LL))
      clear HM HW hw2
      generalize hu : Nums.bytes 32 ((le a + le b) % LL) = u at *
      have HU := Lib.hid hu
      clear hu
      go_wp2_with (refine wpList_store_row rfl 22 _ _ rfl (w.heap.size + 1 + 1) rfl (By u).toArray rfl 22 _ ho (size_hash _ hz) (by rw [hz]; rfl) (By_one _) ?_)
      refine bodyPost_ret (results_cell_row rfl _ _ (w.heap.size + 1 + 1) 22 (By u).toArray (0, 0) _ rfl (ho.row _) Try.underlying22 rfl (size_hash _ hz)) rfl ⟨by rw [HU.out], ?_⟩
      exact below_setRow HB.out (by omega) _
end Go.Proofs.Ythejahhhmkkhoaa
