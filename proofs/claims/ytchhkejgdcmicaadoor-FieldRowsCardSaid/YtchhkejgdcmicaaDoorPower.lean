/-
  THE DOCUMENT'S OWN NUMBERS: Power.
-/
import Derived.Test.YtchhkejgdcmicaaDoorOf
import Derived.Test.YtchhkejgdcmicaaDoorBits
import Derived.Deep.OwnRows
import Derived.OwnWalk
namespace Go.Proofs.YtchhkejgdcmicaaDoor
open Go.RowKit Go.IntWalk Nums

def Bs (l : List Bool) : List Value := l.map .bool
theorem Bs_at {l : List Bool} {j : Nat} (h : j < l.length) : (Bs l).toArray[j]? = some (.bool l[j]!) := by
  simp [Bs, h]
theorem Bs_set (l : List Bool) (k : Nat) (x : Bool) : (Bs l).toArray.setIfInBounds k (.bool x) = (Bs (l.set k x)).toArray := by
  simp [Bs, List.map_set]
theorem infoB : (Tryd.prog.info? 4).map (fun i => (i.zero, i.size, i.bytes)) = some (some (.bool false), 1, 1) := by kernel_rfl
theorem made_bools (n : Nat) : madeCells #[.bool false] n = (Bs (List.replicate n false)).toArray := by
  apply Array.ext
  · simp [size_madeCells, Bs]
  · intro i h1 h2
    simp [madeCells, Bs, Nat.mod_one]

/-- What Power's rows lie in. -/
structure PW (w wr : World) (a : List Int) (E : List Bool) : Prop where
  b0 : Blk wr w.heap.size 30 (Is a).toArray
  b1 : Blk wr (w.heap.size + 1) 30 z16
  b2 : Blk wr (w.heap.size + 1 + 1) 4 (Bs E).toArray
  be : Below w.heap.size w wr

theorem PW.set {w wr : World} {a : List Int} {E : List Bool} (h : PW w wr a E) (k : Nat) (x : Bool) :
    PW w (wr.setCell ⟨w.heap.size + 1 + 1, k, none⟩ (.bool x)) a (E.set k x) where
  b0 := h.b0.far (by simp <;> omega) _
  b1 := h.b1.far (by simp) _
  b2 := by
    have h4 := h.b2.set k (.bool x)
    rw [Bs_set] at h4
    exact h4
  be := h.be.setCell (by simp; omega) _

/-- .. and the row of what has been multiplied. -/
structure RW (w wr : World) (gr : Nat) (a : List Int) (E : List Bool) (r : List Int) : Prop where
  pw : PW w wr a E
  br : Blk wr gr 30 (Is r).toArray
  hg : w.heap.size + 1 + 1 < gr
  hw : gr < wr.heap.size

theorem RW.next {w wr w1 : World} {gr : Nat} {a : List Int} {E : List Bool} {r r' : List Int} (h : RW w wr gr a E r) (hw : Below wr.heap.size wr w1) : RW w (w1.setRow gr (Is r').toArray) gr a E r' where
  pw := ⟨(h.pw.b0.below hw h.pw.b0.lt).rowFar (by have := h.hg; omega) _, (h.pw.b1.below hw h.pw.b1.lt).rowFar (by have := h.hg; omega) _, (h.pw.b2.below hw h.pw.b2.lt).rowFar (by have := h.hg; omega) _, below_setRow (h.pw.be.trans (hw.mono h.pw.be.size)) (by have := h.hg; omega) _⟩
  br := (h.br.below hw h.br.lt).row _
  hg := h.hg
  hw := by rw [size_setRow]; exact Nat.lt_of_lt_of_le h.hw hw.size

set_option maxRecDepth 100000 in
set_option maxHeartbeats 2000000 in
theorem power_f {a : List Int} {x : F} (ha : NB 1048576 a x) (n less : Nat) (hn : n < 300) (hless : less < 2 ^ n) (hl64 : less < 18446744073709551616) (w : World) :
    Calls Tryd.prog 39 #[.agg (Is a).toArray, .int .i64 n, .int .u64 less] w fun e w' => ∃ r, NB 65573 r (fpow x (2 ^ n - less)) ∧ e = .returned (.agg (Is r).toArray) ∧ Below w.heap.size w w' := by
  obtain ⟨i0, hi0, hz0, hz1, hz2⟩ := info_parts infoB
  have hnn : (madeCells #[.bool false] (n + 1))[n]? = some (.bool false) := by
    rw [made_bools, Bs_at (by simp)]
    congr 2
    rw [getElem!_pos _ n (by simp)]
    simp
  have hP0 : PW w (((w.alloc (Obj.cells (Is a).toArray 30)).alloc (Obj.cells z16 30)).alloc (Obj.cells ((madeCells #[.bool false] (n + 1)).setIfInBounds n (.bool true)) 4)) a (List.replicate n false ++ [true]) := by
    refine ⟨blk3_0 w _ _ _ _, blk3_1 w _ _ _ _, ?_, (((Below.refl _ _).alloc (Nat.le_refl _) _).alloc (by simp) _).alloc (by simp; omega) _⟩
    have e : (Bs (List.replicate n false ++ [true])).toArray = (madeCells #[.bool false] (n + 1)).setIfInBounds n (.bool true) := by
      rw [made_bools, Bs_set, List.replicate_succ', List.set_append_right _ _ (by simp)]
      simp
    rw [e]
    exact blk3_2 w _ _ _ _
  have HP := Lib.hid hP0
  have HL := Lib.hid hless
  have HA := Lib.hid ha
  clear hP0 hless ha
  go_enter Tryd.func39, Tryd.ntmps39
  go_wp2_with (at_make; refine wpList_make_row _ rfl _ _ 64 rfl 4 i0 _ Tryd.underlying64 hi0 hz0 hz1 rfl .i64 .i64 (n + 1) rfl rfl (by rw [hz2]; omega) (by omega) ?_)
  clear hnn hi0 hz0 hz1 hz2 i0
  go_loopw [8] (fun i wr => ∃ k : Nat, k ≤ less ∧ i = .int .u64 k ∧ ∃ E, E.length = n + 1 ∧ bv E + k = 2 ^ n ∧ PW w wr a E) (fun i _ => less - (intOf i).toNat)
  case atStart => exact ⟨0, by omega, rfl, _, by simp, by rw [bv_top]; rfl, HP.out⟩
  case round =>
    clear HP
    obtain ⟨k, hk, rfl, E, hEl, hEb, hP⟩ := hrel
    by_cases hlt : k < less
    · have q0 : (k : Int) < (less : Int) := by omega
      have hE0 : 0 < bv E := by have := HL.out; omega
      have HK := Lib.hid (And.intro hP (And.intro hEb hE0))
      clear hP hEb hE0
      go_wp2
      go_loopw [9] (fun i wq => ∃ j : Nat, j ≤ n ∧ i = .int .i64 j ∧ E.take j = List.replicate j false ∧ PW w wq a (dst E j)) (fun i _ => n + 1 - (intOf i).toNat)
      case atStart => exact ⟨0, by omega, rfl, rfl, by rw [dst_zero]; exact HK.out.1⟩
      case round =>
        obtain ⟨j, hj, rfl, hz, hP⟩ := hrel
        obtain ⟨-, hEb, hE0⟩ := HK.out
        have c1 := (hP.b2.cell j).trans (Bs_at (by rw [dst_len (by omega)]; omega))
        rw [dst_get (by omega)] at c1
        have hf := hP.b2.free j
        by_cases hb : E[j]! = true
        · have hD := dst_end (by omega) hz hb
          rw [hb] at c1
          have hP2 := hP.set j false
          have HK2 := Lib.hid (And.intro hP2 (And.intro hD hEb))
          clear HK hP hz hEb hE0 hP2 hD
          go_wp2
          go_roundw
          case rel =>
            obtain ⟨hP2, ⟨d1, d2⟩, hEb⟩ := HK2.out
            exact ⟨k + 1, by omega, by go_num, _, by omega, by omega, hP2⟩
          case measure => simp [intOf]; omega
        · have hb : E[j]! = false := by simpa using hb
          have hlow := low_next (by omega) hz hb
          have hjn : j + 1 < n + 1 := by rw [← hEl]; exact low_lt hlow hE0
          have hP2 := hP.set j true
          rw [dst_next (by omega)] at hP2
          rw [hb] at c1
          have HK2 := Lib.hid (And.intro hP2 hlow)
          clear hP hz hEb hE0 hP2 hlow
          go_wp2
          go_roundw
          case rel =>
            obtain ⟨hP2, hlow⟩ := HK2.out
            exact ⟨j + 1, by omega, by go_num, hlow, hP2⟩
          case measure => simp [intOf]; omega
    · obtain rfl : k = less := by omega
      have HK := Lib.hid hP
      clear hP
      have HO := Lib.hid (of_any 1 wr (by omega))
      go_wp2_with (fail)
      refine HO.out.mono ?_
      rintro e w1 ⟨rfl, hw1⟩
      have hP := HK.out
      have p0 := hP.b0.below hw1 hP.b0.lt
      have p1 := hP.b1.below hw1 hP.b1.lt
      have p2 := hP.b2.below hw1 hP.b2.lt
      have pb := hP.be.trans (hw1.mono hP.be.size)
      have hs2 := p2.lt
      have hnew : Blk (w1.alloc (Obj.cells z16 30)) w1.heap.size 30 z16 := Blk.new w1 _ _
      have hz1 : (Is (ofd 1)).toArray.size = 16 := rfl
      have k0 : RW w ((w1.alloc (Obj.cells z16 30)).setRow w1.heap.size (Is (ofd 1)).toArray) w1.heap.size a E (ofd 1) :=
        ⟨⟨(p0.alloc _).rowFar (by omega) _, (p1.alloc _).rowFar (by omega) _, (p2.alloc _).rowFar (by omega) _, below_setRow (pb.alloc pb.size _) (by omega) _⟩, hnew.row _, by omega, by rw [size_setRow, World.size_alloc]; omega⟩
      have HK2 := Lib.hid k0
      clear HO HK hP p0 p1 p2 pb hw1 k0
      generalize hgr : w1.heap.size = gr at *
      go_wp2_with (refine wpList_store_row rfl 30 _ _ rfl gr rfl (Is (ofd 1)).toArray rfl 30 _ hnew (size_num _ hz1) rfl (Is_one _) ?_)
      clear hgr hnew
      go_loopw [11] (fun i wq => ∃ j : Nat, j ≤ n + 1 ∧ i = .int .i64 ((j : Int) - 1) ∧ ∃ r, NB 65573 r (fpow x (bv (E.drop j))) ∧ RW w wq gr a E r) (fun i _ => (intOf i + 1).toNat)
      case atStart =>
        refine ⟨n + 1, by omega, by congr 1; omega, ofd 1, ?_, HK2.out⟩
        rw [List.drop_eq_nil_of_le (by omega)]
        have h1 := (NB.of (v := 1) (by omega)).mono (C := 65573) (by omega)
        rw [fof_one] at h1
        exact h1
      case round =>
        clear HK2
        obtain ⟨j, hj, rfl, r, hr, hR⟩ := hrel
        by_cases hlt : 0 < j
        · obtain ⟨i, rfl⟩ : ∃ i, j = i + 1 := ⟨j - 1, by omega⟩
          have e0 : (((i + 1 : Nat) : Int) - 1) = (i : Int) := by omega
          rw [e0]
          have hbd := bv_drop (l := E) (i := i) (by omega)
          have hf2 : fpow x (2 * bv (E.drop (i + 1))) = fpow x (bv (E.drop (i + 1))) * fpow x (bv (E.drop (i + 1))) := by rw [← fpow_add]; congr 1; omega
          have HM := fun w1 => Lib.hid (mul_f (hr.mono (by omega)) (hr.mono (by omega)) w1)
          rw [← hf2] at HM
          have hzr : (Is r).toArray.size = 16 := by rw [List.size_toArray, Is_len, hr.len]
          have hbr := hR.br
          have c1 := (hR.pw.b2.cell i).trans (Bs_at (by omega))
          have HR := Lib.hid hR
          have HB := Lib.hid hbd
          clear hR hbd hf2
          go_wp2_with (refine wpList_load_row rfl 30 _ rfl gr rfl 30 (Is r).toArray (0, 0) _ hbr Tryd.underlying30 rfl (size_num _ hzr) ?_)
          refine (HM _).out.mono ?_
          rintro e w2 ⟨r1, hr1, rfl, hw2⟩
          have hz1 : (Is r1).toArray.size = 16 := by rw [List.size_toArray, Is_len, hr1.len]
          have hbr1 := HR.out.br.below hw2 HR.out.br.lt
          have R1 := HR.out.next (r' := r1) hw2
          have hbr2 := R1.br
          have hba2 := R1.pw.b0
          have c2 := (R1.pw.b2.cell i).trans (Bs_at (by omega))
          have HR1 := Lib.hid R1
          clear HR HM c1 hbr R1 hw2
          have hB := HB.out
          clear HB
          by_cases hb : E[i]! = true
          · rw [hb] at hB c2
            rw [if_pos rfl] at hB
            have hf3 : fpow x (bv (E.drop i)) = fpow x (2 * bv (E.drop (i + 1))) * x := by rw [hB, fpow_add, fpow_one]; grind only
            have HM := fun w1 => Lib.hid (mul_f (hr1.mono (by omega)) HA.out w1)
            rw [← hf3] at HM
            have hza : (Is a).toArray.size = 16 := by rw [List.size_toArray, Is_len, HA.out.len]
            clear hf3 hB hr1 hr
            go_wp2_with (first
              | (refine wpList_store_row rfl 30 _ _ rfl gr rfl (Is r1).toArray rfl 30 _ hbr1 (size_num _ hz1) (by rw [hz1, hzr]) (Is_one _) ?_)
              | (refine wpList_load_row rfl 30 _ rfl gr rfl 30 (Is r1).toArray (0, 0) _ hbr2 Tryd.underlying30 rfl (size_num _ hz1) ?_)
              | (refine wpList_load_row rfl 30 _ rfl w.heap.size rfl 30 (Is a).toArray (0, 0) _ hba2 Tryd.underlying30 rfl (size_num _ hza) ?_))
            refine (HM _).out.mono ?_
            rintro e w3 ⟨r2, hr2, rfl, hw3⟩
            have hz2 : (Is r2).toArray.size = 16 := by rw [List.size_toArray, Is_len, hr2.len]
            have hbr3 := HR1.out.br.below hw3 HR1.out.br.lt
            have R2 := HR1.out.next (r' := r2) hw3
            have HR2 := Lib.hid R2
            clear R2 HR1 hw3 HM hbr1 hbr2 hba2
            go_wp2_with (refine wpList_store_row rfl 30 _ _ rfl gr rfl (Is r2).toArray rfl 30 _ hbr3 (size_num _ hz2) (by rw [hz2, hz1]) (Is_one _) ?_)
            go_roundw
            case rel => exact ⟨i, by omega, rfl, r2, hr2, HR2.out⟩
            case measure => simp [intOf]
          · have hb : E[i]! = false := by simpa using hb
            rw [hb] at hB c2
            rw [if_neg (by simp), Nat.zero_add] at hB
            rw [← hB] at hr1
            go_wp2_with (refine wpList_store_row rfl 30 _ _ rfl gr rfl (Is r1).toArray rfl 30 _ hbr1 (size_num _ hz1) (by rw [hz1, hzr]) (Is_one _) ?_)
            go_roundw
            case rel => exact ⟨i, by omega, rfl, r1, hr1, HR1.out⟩
            case measure => simp [intOf]
        · obtain rfl : j = 0 := by omega
          have hb0 : bv E = 2 ^ n - k := by omega
          rw [List.drop_zero, hb0] at hr
          have hzr : (Is r).toArray.size = 16 := by rw [List.size_toArray, Is_len, hr.len]
          have hbr := hR.br
          have hb1 := hR.pw.b1
          have HB := Lib.hid hR.pw.be
          clear hR
          go_wp2_with (first
            | (refine wpList_load_row rfl 30 _ rfl gr rfl 30 (Is r).toArray (0, 0) _ hbr Tryd.underlying30 rfl (size_num _ hzr) ?_)
            | (refine wpList_store_row rfl 30 _ _ rfl (w.heap.size + 1) rfl (Is r).toArray rfl 30 _ hb1 (size_num _ hzr) (by rw [hzr]; rfl) (Is_one _) ?_))
          refine bodyPost_ret (results_cell_row rfl _ _ (w.heap.size + 1) 30 (Is r).toArray (0, 0) _ rfl (hb1.row _) Tryd.underlying30 rfl (size_num _ hzr)) rfl ⟨r, hr, rfl, ?_⟩
          exact below_setRow HB.out (by omega) _
end Go.Proofs.YtchhkejgdcmicaaDoor
