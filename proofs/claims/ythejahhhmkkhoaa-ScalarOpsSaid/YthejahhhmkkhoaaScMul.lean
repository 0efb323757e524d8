/-
  THE DOCUMENT'S OWN SCALARS: Mul.
-/
import Derived.Test.YthejahhhmkkhoaaScAdd
import Derived.Test.YthejahhhmkkhoaaProdP
import Derived.StillTailTactics
namespace Go.Proofs.Ythejahhhmkkhoaa
open Go.RowKit Go.IntWalk Nums

/-- The blocks of Mul's walk. -/
structure UW (w wr : World) (a b : List UInt8) (t : List Int) : Prop where
  a : Blk wr w.heap.size 22 (By a).toArray
  b : Blk wr (w.heap.size + 1) 22 (By b).toArray
  o : Blk wr (w.heap.size + 1 + 1) 22 z32
  t : RL wr (w.heap.size + 1 + 1 + 1) t
  be : Below w.heap.size w wr
theorem UW.set {w wr : World} {a b : List UInt8} {t : List Int} (h : UW w wr a b t) (k : Nat) (x : Int) : UW w (wr.setCell ⟨w.heap.size + 1 + 1 + 1, k, none⟩ (.int .i64 x)) a b (t.set k x) where
  a := h.a.far (by show w.heap.size ≠ w.heap.size + 1 + 1 + 1; omega) _
  b := h.b.far (by show w.heap.size + 1 ≠ w.heap.size + 1 + 1 + 1; omega) _
  o := h.o.far (by show w.heap.size + 1 + 1 ≠ w.heap.size + 1 + 1 + 1; omega) _
  t := h.t.set k x
  be := h.be.setCell (by show w.heap.size ≤ w.heap.size + 1 + 1 + 1; omega) _
theorem UW.up {w wr w1 : World} {a b : List UInt8} {t : List Int} (h : UW w wr a b t) (k : Up wr w1) : UW w w1 a b t := ⟨k.blk h.a, k.blk h.b, k.blk h.o, h.t.later k, below_up h.be k⟩

/-- The blocks of its second half. -/
structure VW (w wr : World) (g : Nat) (t : List Int) (s : List UInt8) : Prop where
  hg : w.heap.size + 1 + 1 + 1 < g
  o : Blk wr (w.heap.size + 1 + 1) 22 z32
  t : RL wr (w.heap.size + 1 + 1 + 1) t
  s : WL wr g s
  be : Below w.heap.size w wr
theorem VW.set {w wr : World} {g : Nat} {t : List Int} {s : List UInt8} (h : VW w wr g t s) (k : Nat) (x : UInt8) : VW w (wr.setCell ⟨g, k, none⟩ (.int .u8 (x.toNat : Int))) g t (s.set k x) where
  hg := h.hg
  o := h.o.far (by have := h.hg; show w.heap.size + 1 + 1 ≠ g; omega) _
  t := h.t.far (by have := h.hg; show w.heap.size + 1 + 1 + 1 ≠ g; omega) _
  s := h.s.set k x
  be := h.be.setCell (by have := h.hg; show w.heap.size ≤ g; omega) _

set_option maxRecDepth 100000 in
set_option maxHeartbeats 8000000 in
theorem mul4_f (a b : List UInt8) (ha : a.length = 32) (hb : b.length = 32) (w : World) :
    Calls Try.prog 15 #[.agg (By a).toArray, .agg (By b).toArray] w fun e w' => e = .returned (.agg (By (Nums.bytes 32 ((le a * le b) % LL))).toArray) ∧ Below w.heap.size w w' := by
  obtain ⟨i0, hi0, hz0, hz1, hz2⟩ := info_parts info_i64
  obtain ⟨i1, hj0, hy0, hy1, hy2⟩ := info_parts info_u8
  have hA0 : UW w ((((w.alloc (.cells (By a).toArray 22)).alloc (.cells (By b).toArray 22)).alloc (.cells z32 22)).alloc (.cells (madeCells #[.int .i64 0] 65) 3)) a b (List.replicate 65 0) := by
    refine ⟨blk4_0 w _ _ _ _ _, blk4_1 w _ _ _ _ _, blk4_2 w _ _ _ _ _, ?_, below4 _ _ _ _ _⟩
    rw [made_ints]
    exact RL.row (blk4_3 w _ _ _ _ _)
  have HA := Lib.hid hA0
  clear hA0
  go_enter Try.func15, Try.ntmps15
  go_wp2_with (at_make; refine wpList_make_row _ rfl _ _ 44 rfl 3 i0 _ Try.underlying44 hi0 hz0 hz1 rfl .i64 .i64 65 rfl rfl (by rw [hz2]; omega) (by omega) ?_)
  go_loopw [6] (fun iv wr => ∃ i : Nat, i ≤ 32 ∧ iv = .int .i64 i ∧ ∃ t, Cv a b t i 0 ∧ UW w wr a b t) (fun iv _ => 32 - (intOf iv).toNat)
  case atStart => exact ⟨0, by omega, rfl, List.replicate 65 0, Cv.start a b, HA.out⟩
  case round =>
    clear HA
    obtain ⟨i, hi, rfl, t, hC, hW⟩ := hrel
    by_cases hlt : i < 32
    · have q7 : (i : Int) < 32 := by omega
      have HC := Lib.hid (And.intro hC hW)
      clear hC hW
      go_wp2
      go_loopw [7] (fun kv wr => ∃ k : Nat, k ≤ 32 ∧ kv = .int .i64 k ∧ ∃ t, Cv a b t i k ∧ UW w wr a b t) (fun kv _ => 32 - (intOf kv).toNat)
      case atStart => exact ⟨0, by omega, rfl, t, HC.out.1, HC.out.2⟩
      case round =>
        clear HC
        obtain ⟨k, hk, rfl, t, hC, hW⟩ := hrel
        by_cases hlk : k < 32
        · have hN := hC.next hb hlt hlk
          have hx := (a[i]!).toNat_lt
          have hy := (b[k]!).toNat_lt
          have hxy : (a[i]!).toNat * (b[k]!).toNat ≤ 255 * 255 := Nat.mul_le_mul (by omega) (by omega)
          have hz := hC.get (j := i + k) (by omega)
          have c0 := (hW.t.later (Below.refl _ _).drew).2.1 (i + k) (by rw [hC.len]; omega)
          have c1 := (hW.a.drew.cell i).trans (By_get (l := a) (by omega))
          have c2 := (hW.b.drew.cell k).trans (By_get (l := b) (by omega))
          have hf := (hW.t.later (Below.refl _ _).drew).2.2 (i + k) (by rw [hC.len]; omega)
          have hst := (hW.up (Up.drew wr)).set (i + k) (t[i + k]! + (((a[i]!).toNat * (b[k]!).toNat : Nat) : Int))
          have hzb : t[i + k]! ≤ 66585600 := by omega
          generalize t[i + k]! = z at *
          generalize (a[i]!).toNat = x at *
          generalize (b[k]!).toNat = y at *
          have exy : ((x * y : Nat) : Int) = (x : Int) * (y : Int) := Int.natCast_mul ..
          have qx : IntKind.i64.wrap (x : Int) = (x : Int) := by rw [i64_left, wrap64_in _ (by omega)]
          have qy : IntKind.i64.wrap (y : Int) = (y : Int) := by rw [i64_left, wrap64_in _ (by omega)]
          have q0 : IntKind.i64.wrap ((i : Int) + (k : Int)) = ((i + k : Nat) : Int) := by rw [i64_left, wrap64_in _ (by omega)]; omega
          have q1 : IntKind.i64.wrap ((x : Int) * (y : Int)) = ((x * y : Nat) : Int) := by rw [i64_left, wrap64_in _ (by omega), exy]
          have q2 : IntKind.i64.wrap (z + ((x * y : Nat) : Int)) = z + ((x * y : Nat) : Int) := by rw [i64_left, wrap64_in _ (by omega)]
          have q3 : (0 : Int) ≤ ((i + k : Nat) : Int) := by omega
          have q4 : ((i + k : Nat) : Int) < 65 := by omega
          have q5 : (0 : Int) ≤ (i : Int) := by omega
          have q6 : (0 : Int) ≤ (k : Int) := by omega
          have HN := Lib.hid (And.intro hN hst)
          clear hN hst hC hW exy hz
          generalize i + k = m at *
          generalize x * y = xy at *
          go_wp2
          go_still_tail 17, (by kernel_rfl)
          go_wp2
          go_roundw
          case rel => exact ⟨k + 1, by omega, by go_num, _, HN.out.1, HN.out.2⟩
          case measure => simp [intOf]; omega
        · obtain rfl : k = 32 := by omega
          have HR := Lib.hid (And.intro (hC.roll ha hb hlt) hW)
          clear hC hW
          go_wp2
          go_roundw
          case rel => exact ⟨i + 1, by omega, by go_num, _, HR.out.1, HR.out.2⟩
          case measure => simp [intOf]; omega
    · obtain rfl : i = 32 := by omega
      have hV := hC.last ha
      have htl := hC.len
      have htb : ∀ j, j < 65 → ∃ x : Nat, t[j]! = (x : Int) ∧ x ≤ 66585600 := fun j hj => by
        have h1 := hC.get hj
        exact ⟨t[j]!.toNat, by omega, by omega⟩
      have hV0 : ∀ gs, wr.heap.size = gs → VW w (wr.alloc (.cells (madeCells #[.int .u8 0] 65) 5)) gs t (List.replicate 65 0) := fun gs hgs => by
        subst hgs
        refine ⟨hW.t.1, hW.o.alloc _, hW.t.later ((Below.refl _ _).alloc (Nat.le_refl _) _), ?_, hW.be.alloc hW.be.size _⟩
        rw [made_bytes]
        exact WL.row (Blk.new wr _ _)
      have HV := Lib.hid hV
      generalize hgs : wr.heap.size = gs at *
      have HW := Lib.hid (hV0 gs rfl)
      clear hC hW hV0 hV
      go_wp2_with (at_make; refine wpList_make_row _ rfl _ _ 31 rfl 5 i1 _ Try.underlying31 hj0 hy0 hy1 rfl .i64 .i64 65 rfl rfl (by rw [hy2]; omega) (by omega) ?_)
      clear hgs
      go_loopw [9, 40] (fun cv kv wx => ∃ k : Nat, k ≤ 65 ∧ kv = .int .i64 k ∧ ∃ (c : Nat) (s : List UInt8), cv = .int .i64 c ∧ Cy t s c k ∧ VW w wx gs t s) (fun _ kv _ => 65 - (intOf kv).toNat)
      case atStart => exact ⟨0, by omega, rfl, 0, List.replicate 65 0, rfl, Cy.start (by simp), HW.out⟩
      case round =>
        clear HW
        obtain ⟨k, hk, rfl, c, s, rfl, hY, hM⟩ := hrel
        by_cases hlk : k < 65
        · obtain ⟨x, hx, hxb⟩ := htb k hlk
          have hN := hY.next htl hlk hx hxb
          have ct := hM.t.2.1 k (by omega)
          have cs := hM.s.1.2 k (by rw [hY.1]; omega)
          have fs := hM.s.2 k (by rw [hY.1]; omega)
          have hc := hY.2.1
          have hMn := hM.set k (UInt8.ofNat ((c + x) % 256))
          rw [UInt8.toNat_ofNat_of_lt' (by show _ < 256; omega)] at hMn
          rw [hx] at ct
          have hm1 : ((c : Int) + (x : Int)).tmod 256 = (((c + x) % 256 : Nat) : Int) := by rw [Int.tmod_eq_emod_of_nonneg (by omega)]; rfl
          have hd1 : ((c : Int) + (x : Int)).tdiv 256 = (((c + x) / 256 : Nat) : Int) := by rw [Int.tdiv_eq_ediv_of_nonneg (by omega)]; rfl
          have hr256 : (c + x) % 256 < 256 := Nat.mod_lt _ (by decide)
          have hq256 : (c + x) / 256 < 1000000 := by omega
          have HD := Lib.hid (And.intro hN hMn)
          have hk65 : (k : Int) < 65 := by omega
          clear hN hMn hY hM htb
          generalize (c + x) % 256 = r at *
          generalize (c + x) / 256 = q at *
          go_wp2
          go_roundw
          case rel => exact ⟨k + 1, by omega, by go_num, q, _, rfl, HD.out.1, HD.out.2⟩
          case measure => simp [intOf]; omega
        · obtain rfl : k = 65 := by omega
          have hv := hY.last htl HV.out (prod_lt ha hb)
          have hl65 := hY.1
          have HMd := fun (w1 : World) (h : WL w1 gs s) => Lib.hid (mod_any s gs 65 w1 (by omega) h.1)
          rw [hv, hl65] at HMd
          have HM := HMd _ hM.s
          have HW := Lib.hid hM
          clear hY hM HMd hv hl65 htb
          go_wp2_with (fail)
          refine HM.out.mono ?_
          rintro e w2 ⟨rfl, hw2⟩
          have ho := HW.out.o.later hw2
          have HB := Lib.hid (HW.out.be.trans (hw2.mono HW.out.be.size))
          have hz := len_by (bytes_len 32 ((le a * le b) % LL))
          clear HM HW hw2
          generalize hu : Nums.bytes 32 ((le a * le b) % LL) = u at *
          have HU := Lib.hid hu
          clear hu
          go_wp2_with (refine wpList_store_row rfl 22 _ _ rfl (w.heap.size + 1 + 1) rfl (By u).toArray rfl 22 _ ho (size_hash _ hz) (by rw [hz]; rfl) (By_one _) ?_)
          refine bodyPost_ret (results_cell_row rfl _ _ (w.heap.size + 1 + 1) 22 (By u).toArray (0, 0) _ rfl (ho.row _) Try.underlying22 rfl (size_hash _ hz)) rfl ⟨by rw [HU.out], ?_⟩
          exact below_setRow HB.out (by omega) _
end Go.Proofs.Ythejahhhmkkhoaa
