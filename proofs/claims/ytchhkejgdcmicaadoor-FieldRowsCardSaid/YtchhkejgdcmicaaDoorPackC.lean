/-
  THE DOCUMENT'S OWN NUMBERS: Pack.
-/
import Derived.Test.YtchhkejgdcmicaaDoorMul
import Derived.Test.YtchhkejgdcmicaaDoorLent
namespace Go.Proofs.YtchhkejgdcmicaaDoor
open Go.RowKit Go.IntWalk Nums

/-- What Pack's row lies in. -/
structure Packs (w wr : World) (gt : Nat) (s : List Int) : Prop where
  b1 : Blk wr (w.heap.size + 1) 22 z32
  bt : Blk wr gt 30 (Is s).toArray
  be : Below w.heap.size w wr
  hg : w.heap.size + 1 < gt
  hw : gt < wr.heap.size

theorem Packs.set {w wr : World} {gt : Nat} {s : List Int} (h : Packs w wr gt s) {a : Addr} (ha : gt < a.block) (v : Value) : Packs w (wr.setCell a v) gt s where
  b1 := h.b1.far (by have := h.hg; omega) _
  bt := h.bt.far (by omega) _
  be := h.be.setCell (by have := h.hg; omega) _
  hg := h.hg
  hw := by simpa [World.setCell] using h.hw

set_option maxRecDepth 100000 in
set_option maxHeartbeats 2000000 in
theorem pack_any (l : List Int) (w : World) (hl : l.length = 16) (hbd : Bnd 2305843009213693952 l) :
    Calls Tryd.prog 16 #[.agg (Is l).toArray] w fun e w' => e = .returned (.agg (By (enc (zf (V l)))).toArray) ∧ Below w.heap.size w w' := by
  have hr := V_room hl (hbd.mono (by omega))
  have ht := carry_two hl hr.1 hr.2
  have ht3 := carry_three hl hr.1 hr.2
  have hc1 := carry_all hl
  have hd := div_bound (W_pos 16) hr.1 hr.2
  have hb1 : Bnd 2305843009213693952 (carry l) := hc1.1.bnd (by omega) (by omega) (by omega)
  have hb2 : Bnd 2305843009213693952 (carry (carry l)) := ht.1.bnd (by omega) (by omega) (by omega)
  have hz : (Is l).toArray.size = 16 := by rw [List.size_toArray, Is_len, hl]
  have h0 : ∀ u, Blk ((w.alloc (Obj.cells (Is l).toArray 30)).alloc u) w.heap.size 30 (Is l).toArray := fun u => (Blk.new w _ _).alloc u
  have h1 : Blk ((w.alloc (Obj.cells (Is l).toArray 30)).alloc (Obj.cells z32 22)) (w.heap.size + 1) 22 z32 := heap_alloc2_new w _ _
  have hbel : Below w.heap.size w ((w.alloc (Obj.cells (Is l).toArray 30)).alloc (Obj.cells z32 22)) := ((Below.refl _ _).alloc (Nat.le_refl _) _).alloc (by simp) _
  have HC := fun w1 => Lib.hid (carry_any l w1 hl hbd)
  have HC1 := fun w1 => Lib.hid (carry_any (carry l) w1 hc1.1.len hb1)
  have HC2 := fun w1 => Lib.hid (carry_any (carry (carry l)) w1 ht.1.len hb2)
  have HK := Lib.hid (And.intro h1 hbel)
  clear hr ht hc1 hd hb1 hb2 h1 hbel
  go_enter Tryd.func16, Tryd.ntmps16
  go_wp2_with (refine wpList_load_row rfl 30 _ rfl w.heap.size rfl 30 (Is l).toArray (0, 0) _ (h0 _) Tryd.underlying30 rfl (size_num _ hz) ?_)
  refine (HC _).out.mono ?_
  rintro e w1 ⟨rfl, hw1⟩
  go_wp2_with (fail)
  refine (HC1 _).out.mono ?_
  rintro e w2 ⟨rfl, hw2⟩
  go_wp2_with (fail)
  refine (HC2 _).out.mono ?_
  rintro e w3 ⟨rfl, hw3⟩
  obtain ⟨h1, hbel⟩ := HK.out
  have hwa := hw1.trans ((hw2.trans (hw3.mono hw2.size)).mono hw1.size)
  have hb := hbel.trans (hwa.mono hbel.size)
  have h2 := h1.below hwa h1.lt
  have hzz : ∀ u, Blk (w3.alloc (Obj.cells u 30)) w3.heap.size 30 u := fun u => Blk.new w3 _ _
  have h2a : ∀ u, Blk (w3.alloc u) (w.heap.size + 1) 22 z32 := fun u => h2.alloc u
  have hba : ∀ u, Below w.heap.size w (w3.alloc u) := fun u => hb.alloc hb.size u
  have hlt : w.heap.size + 1 < w3.heap.size := h2.lt
  clear HC HC1 HC2 HK h0 h1 hbel hw1 hw2 hw3 hwa hb h2
  obtain ⟨hl3, hs3, hv3⟩ := ht3
  have hpk : split (rst (carry (carry (carry l))) 2) = enc (zf (V l)) := split_pack hl (hbd.mono (by omega))
  generalize carry (carry (carry l)) = t at *
  have hzt : (Is t).toArray.size = 16 := by rw [List.size_toArray, Is_len, hl3]
  have hsz : (w3.alloc (Obj.cells z16 30)).heap.size = w3.heap.size + 1 := World.size_alloc _ _
  have k2 : Blk ((w3.alloc (Obj.cells z16 30)).setRow w3.heap.size (Is t).toArray) (w.heap.size + 1) 22 z32 := (h2a _).rowFar (by omega) _
  have kt : Blk ((w3.alloc (Obj.cells z16 30)).setRow w3.heap.size (Is t).toArray) w3.heap.size 30 (Is t).toArray := (hzz z16).row _
  have kb : Below w.heap.size w ((w3.alloc (Obj.cells z16 30)).setRow w3.heap.size (Is t).toArray) := below_setRow (hba _) (by omega) _
  have HK := Lib.hid (And.intro k2 (And.intro kt (And.intro kb (show w3.heap.size < ((w3.alloc (Obj.cells z16 30)).setRow w3.heap.size (Is t).toArray).heap.size by rw [size_setRow, hsz]; omega))))
  clear k2 kt kb h2a hba hsz
  generalize hgt : w3.heap.size = gt at *
  go_wp2_with (refine wpList_store_row rfl 30 _ _ rfl gt rfl (Is t).toArray rfl 30 z16 (hzz z16) (size_num _ hzt) (by rw [hzt]; rfl) (Is_one _) ?_)
  obtain ⟨h2, ht, hb, hwz⟩ := HK.out
  clear HK hzz
  clear hgt
  go_loopw [4] (fun i wr => ∃ k : Nat, k ≤ 2 ∧ i = .int .i64 k ∧ Packs w wr gt (rst t k)) (fun i _ => 2 - (intOf i).toNat)
  case atStart => exact ⟨0, by omega, rfl, h2, ht, hb, hlt, hwz⟩
  case round =>
    clear h2 ht hb hwz
    obtain ⟨k, hk, rfl, hP⟩ := hrel
    by_cases hlt2 : k < 2
    · obtain ⟨hl4, hs4⟩ := rst_all hl3 hs3 k
      have hR : redp (rst t k) = rst t (k + 1) := rfl
      generalize rst t k = s at *
      have q1 : (k : Int) < 2 := by omega
      obtain ⟨h2, ht, hb, -, hwz⟩ := hP
      have c0 := fun u => ((ht.alloc u).cell 0).trans (Is_at (by omega))
      have b0 := hs4 s[0]! (by rw [getElem!_pos s 0 (by omega)]; exact List.getElem_mem _)
      have hll := lessp_len hl4
      have hrow : Is (fil (lessp s) 16 1) = Is ((s[0]! - 65517) :: List.replicate 15 0) := by
        rw [← fil_next hll (k := 0) (by omega) (lessp_get hl4 (by omega)).symm, fil_zero, pdig_0]
        rfl
      have q0 : wrap64 (s[0]! - 65517) = s[0]! - 65517 := wrap64_in _ (by omega)
      generalize s[0]! = x0 at *
      have hm : Blk (wr.alloc (Obj.cells (Is ((x0 - 65517) :: List.replicate 15 0)).toArray 30)) wr.heap.size 30 (Is (fil (lessp s) 16 1)).toArray := by rw [hrow]; exact Blk.new wr _ _
      have m2 : ∀ u, Blk (wr.alloc u) (w.heap.size + 1) 22 z32 := fun u => h2.alloc u
      have mt : ∀ u, Blk (wr.alloc u) gt 30 (Is s).toArray := fun u => ht.alloc u
      have mb : ∀ u, Below w.heap.size w (wr.alloc u) := fun u => hb.alloc hb.size u
      have ms : ∀ u, wr.heap.size < (wr.alloc u).heap.size := fun u => by rw [World.size_alloc]; omega
      have HM := Lib.hid (And.intro hm (And.intro m2 (And.intro mt (And.intro mb ms))))
      clear hm m2 mt mb ms hrow h2 ht hb
      obtain ⟨gm, hgm⟩ : ∃ gm, wr.heap.size = gm := ⟨_, rfl⟩
      rw [hgm] at hwz
      have c0 : ∀ u, (wr.alloc u).cell? ⟨gt, 0, none⟩ = some (.int .i64 x0) := c0
      go_wp2_with (fail)
      obtain ⟨hm, m2, mt, mb, ms⟩ := HM.out
      clear HM c0
      rw [hgm] at hm ms
      go_loopw [6] (fun i wq => ∃ j : Nat, 1 ≤ j ∧ j ≤ 15 ∧ i = .int .i64 j ∧ Packs w wq gt s ∧ Blk wq gm 30 (Is (fil (lessp s) 16 j)).toArray) (fun i _ => 16 - (intOf i).toNat)
      case atStart => exact ⟨1, by omega, by omega, rfl, ⟨m2 _, mt _, mb _, hlt, Nat.lt_trans hwz (ms _)⟩, hm⟩
      case round =>
        clear hm m2 mt mb ms hgm
        obtain ⟨j, hj1, hj, rfl, hP, hm⟩ := hrel
        by_cases hlj : j < 15
        · have c1 := (hP.bt.cell j).trans (Is_at (by omega))
          have b1 := hs4 s[j]! (by rw [getElem!_pos s j (by omega)]; exact List.getElem_mem _)
          have hN := fil_next hll (k := j) (by omega) (lessp_get hl4 (by omega)).symm
          rw [pdig_mid j hlj hj1] at hN
          have hc := (hm.cell j).trans (Is_at (by rw [fil_len hll (by omega)]; omega))
          have hf := hm.free j
          have hgl := hP.hg
          have hgw := hP.hw
          generalize s[j]! = x at *
          have HK := Lib.hid (And.intro hP (And.intro hm hN))
          clear hP hm hN
          go_wp2
          go_roundw
          case rel =>
            obtain ⟨hP, hm, hN⟩ := HK.out
            have h4 := hm.set j (.int .i64 (x - 65535))
            rw [Is_set, hN] at h4
            exact ⟨j + 1, by omega, by omega, by go_num, hP.set (by simp; omega) _, h4⟩
          case measure => simp [intOf]; omega
        · obtain rfl : j = 15 := by omega
          have c1 := (hP.bt.cell 15).trans (Is_at (by omega))
          have b1 := hs4 s[15]! (by rw [getElem!_pos s 15 (by omega)]; exact List.getElem_mem _)
          have hN := fil_next hll (k := 15) (by omega) (lessp_get hl4 (by omega)).symm
          rw [fil_all hll, pdig_15] at hN
          have hc := (hm.cell 15).trans (Is_at (by rw [fil_len hll (by omega)]; omega))
          have hf := hm.free 15
          generalize s[15]! = x at *
          have q0 : wrap64 (x - 32767) = x - 32767 := wrap64_in _ (by omega)
          have h4 := hm.set 15 (.int .i64 (x - 32767))
          rw [Is_set, hN] at h4
          have hP4 := hP.set (a := ⟨gm, 15, none⟩) (by simp; omega) (.int .i64 (x - 32767))
          have HK := Lib.hid (And.intro hP4 h4)
          clear hP hm hN hP4 h4
          go_wp2_with (fail)
          obtain ⟨hP, hm⟩ := HK.out
          clear HK hc hf c1
          generalize wr.setCell ⟨gm, 15, none⟩ (.int .i64 (x - 32767)) = w5 at *
          generalize ((15 : Nat) : Int) = s15
          go_loopw [7] (fun i wq => ∃ j : Nat, j ≤ 15 ∧ i = .int .i64 j ∧ Packs w wq gt s ∧ Blk wq gm 30 (Is (pst (lessp s) j)).toArray) (fun i _ => 16 - (intOf i).toNat)
          case atStart => exact ⟨0, by omega, rfl, hP, by rw [pst_zero]; exact hm⟩
          case round =>
            clear hP hm
            obtain ⟨j, hj, rfl, hP, hm⟩ := hrel
            have hpl : (pst (lessp s) j).length = 16 := by rw [pst_len, hll]
            by_cases hlj : j < 15
            · have hx := lent_at hs4 hl4 (k := j) (by omega)
              have hy := lent_at1 hs4 hl4 hlj
              have c1 := (hm.cell j).trans (Is_at (by omega))
              have c2 := (hm.cell (j + 1)).trans (Is_at (by omega))
              have hf := hm.free j
              have hf2 := hm.free (j + 1)
              have hN1 := lent_neg hs4 hl4 hlj
              have hN2 := lent_pos hs4 hl4 hlj
              have hgm : gt < gm := hwz
              generalize (pst (lessp s) j)[j]! = x at *
              generalize (pst (lessp s) j)[j+1]! = y at *
              by_cases hneg : x < 0
              · have hN := hN1 hneg
                have q2 : wrap64 (x + 65536) = x + 65536 := wrap64_in _ (by omega)
                have q3 : wrap64 (y - 1) = y - 1 := wrap64_in _ (by omega)
                have HK := Lib.hid (And.intro hP (And.intro hm hN))
                clear hP hm hN hN1 hN2
                go_wp2
                go_roundw
                case rel =>
                  obtain ⟨hP, hm, hN⟩ := HK.out
                  have h4 := (hm.set j (.int .i64 (x + 65536))).set (j + 1) (.int .i64 (y - 1))
                  rw [Is_set, Is_set, ← hN] at h4
                  exact ⟨j + 1, by omega, by go_num, (hP.set (by simp; omega) _).set (by simp; omega) _, h4⟩
                case measure => simp [intOf]; omega
              · have hN := hN2 hneg
                have HK := Lib.hid (And.intro hP (And.intro hm hN))
                clear hP hm hN hN1 hN2
                go_wp2
                go_roundw
                case rel =>
                  obtain ⟨hP, hm, hN⟩ := HK.out
                  rw [← hN] at hm
                  exact ⟨j + 1, by omega, by go_num, hP, hm⟩
                case measure => simp [intOf]; omega
            · obtain rfl : j = 15 := by omega
              rw [pst_lent hll] at hm hpl
              have c1 := (hm.cell 15).trans (Is_at (by omega))
              have hR2 : redp s = if (0 : Int) ≤ (lent (lessp s))[15]! then lent (lessp s) else s := rfl
              rw [hR] at hR2
              have hzl : (Is (lent (lessp s))).toArray.size = 16 := by rw [List.size_toArray, Is_len, hpl]
              have hzs : (Is s).toArray.size = 16 := by rw [List.size_toArray, Is_len, hl4]
              generalize (lent (lessp s))[15]! = y at *
              by_cases hge : 0 ≤ y
              · rw [if_pos hge] at hR2
                have hbt := hP.bt
                have HP := Lib.hid hP
                clear hP
                go_wp2_with (first
                  | (refine wpList_load_row rfl 30 _ rfl gm rfl 30 (Is (lent (lessp s))).toArray (0, 0) _ hm Tryd.underlying30 rfl (size_num _ hzl) ?_)
                  | (refine wpList_store_row rfl 30 _ _ rfl gt rfl (Is (lent (lessp s))).toArray rfl 30 _ hbt (size_num _ hzl) (by rw [hzl, hzs]) (Is_one _) ?_))
                go_roundw
                case rel =>
                  have hP := HP.out
                  refine ⟨k + 1, by omega, by go_num, hP.b1.rowFar (by have := hP.hg; omega) _, ?_, below_setRow hP.be (by have := hP.hg; omega) _, hP.hg, by rw [size_setRow]; exact hP.hw⟩
                  rw [hR2]
                  exact hbt.row _
                case measure => simp [intOf]; omega
              · rw [if_neg hge] at hR2
                have HP := Lib.hid hP
                clear hP
                go_wp2_with (fail)
                go_roundw
                case rel =>
                  have hP := HP.out
                  rw [← hR2] at hP
                  exact ⟨k + 1, by omega, by go_num, hP⟩
                case measure => simp [intOf]; omega
    · obtain rfl : k = 2 := by omega
      obtain ⟨hl4, hs4⟩ := rst_all hl3 hs3 2
      generalize rst t 2 = d at *
      have hn := Blk.new wr 22 z32
      have hP' : ∀ u, Packs w (wr.alloc u) gt d := fun u => ⟨hP.b1.alloc u, hP.bt.alloc u, hP.be.alloc hP.be.size u, hP.hg, by rw [World.size_alloc]; have := hP.hw; omega⟩
      have hg2 := hP.hw
      have HK := Lib.hid (And.intro hn hP')
      clear hn hP' hP
      obtain ⟨gh, hgh⟩ : ∃ gh, wr.heap.size = gh := ⟨_, rfl⟩
      go_wp2
      obtain ⟨hn, hP⟩ := HK.out
      rw [hgh] at hn hg2
      clear HK
      generalize ((2 : Nat) : Int) = s2
      go_loopw [9] (fun i wq => ∃ j : Nat, j ≤ 16 ∧ i = .int .i64 j ∧ Packs w wq gt d ∧ Blk wq gh 22 (By (hst d j)).toArray) (fun i _ => 16 - (intOf i).toNat)
      case atStart => exact ⟨0, by omega, rfl, hP _, hn⟩
      case round =>
        clear hP hn hgh
        obtain ⟨j, hj, rfl, hP, hm⟩ := hrel
        by_cases hlj : j < 16
        · have hx := hs4 d[j]! (by rw [getElem!_pos d j (by omega)]; exact List.getElem_mem _)
          have hhl := hst_len hl4 (k := j) (by omega)
          have c1 := (hP.bt.cell j).trans (Is_at (by omega))
          have e1 := (hm.cell (2 * j)).trans (By_get (by omega))
          have e2 := (hm.cell (2 * j + 1)).trans (By_get (by omega))
          have hf1 := hm.free (2 * j)
          have hf2 := hm.free (2 * j + 1)
          have hN := hst_next hl4 (k := j) (by omega)
          have hgd : gt < gh := hg2
          generalize d[j]! = x at *
          have HK := Lib.hid (And.intro hP (And.intro hm hN))
          clear hP hm hN hhl
          go_wp2_with (fail)
          obtain ⟨hP, hm, hN⟩ := HK.out
          have v1 : (x % 256 : Int) = ((UInt8.ofNat (x % 256).toNat).toNat : Int) := by rw [UInt8.toNat_ofNat']; omega
          have v2 : (x / 256 : Int) = ((UInt8.ofNat (x / 256).toNat).toNat : Int) := by rw [UInt8.toNat_ofNat']; omega
          have h4 := (hm.set (2 * j) (.int .u8 ((UInt8.ofNat (x % 256).toNat).toNat : Int))).set (2 * j + 1) (.int .u8 ((UInt8.ofNat (x / 256).toNat).toNat : Int))
          rw [By_set, By_set, hN, ← v1, ← v2] at h4
          exact ⟨⟨j + 1, by omega, by go_num, (hP.set (by simp; omega) _).set (by simp; omega) _, h4⟩, by simp [intOf]; omega⟩
        · obtain rfl : j = 16 := by omega
          rw [hst_all hl4, hpk] at hm
          have hz2 : (By (enc (zf (V l)))).toArray.size = 32 := by rw [List.size_toArray, By_len, enc_len]
          have h1 := hP.b1
          have HB := Lib.hid hP.be
          clear hP
          go_wp2_with (first
            | (refine wpList_load_row rfl 22 _ rfl gh rfl 22 (By (enc (zf (V l)))).toArray (0, 0) _ hm Tryd.underlying22 rfl (size_hash _ hz2) ?_)
            | (refine wpList_store_row rfl 22 _ _ rfl (w.heap.size + 1) rfl (By (enc (zf (V l)))).toArray rfl 22 _ h1 (size_hash _ hz2) (by rw [hz2]; rfl) (By_one _) ?_))
          refine bodyPost_ret (results_cell_row rfl _ _ (w.heap.size + 1) 22 (By (enc (zf (V l)))).toArray (0, 0) _ rfl (h1.row _) Tryd.underlying22 rfl (size_hash _ hz2)) rfl ⟨rfl, ?_⟩
          exact below_setRow HB.out (by omega) _
end Go.Proofs.YtchhkejgdcmicaaDoor
