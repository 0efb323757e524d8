/-
  SEVERAL TEXTS IN ONE: PackC, Of, Bits, Power, Inv, Good, ElNew, CpAt.
-/
import Derived.Test.YtiamoeifaahlfaaDoorMh
import Derived.Deep.OwnRows
import Derived.OwnWalk
import Derived.Test.YtiamoeifaahlfaaDoorMa
import Derived.Test.YtiamoeifaahlfaaDoorMb
import Derived.Test.YtiamoeifaahlfaaDoorMf
/-
  THE DOCUMENT'S OWN NUMBERS: Pack.
-/
namespace Go.Proofs.YtiamoeifaahlfaaDoor
open Go.RowKit Go.IntWalk Nums

structure Packs (w wr : World) (gt : Nat) (s : List Int) : Prop where
  b1 : Blk wr (w.heap.size + 1) 22 z32
  bt : Blk wr gt 27 (Is s).toArray
  be : Below w.heap.size w wr
  hg : w.heap.size + 1 < gt
  hw : gt < wr.heap.size

theorem Packs.set {w wr : World} {gt : Nat} {s : List Int} (h : Packs w wr gt s) {a : Addr} (ha : gt < a.block) (v : Value) : Packs w (wr.setCell a v) gt s where
 b1 := h.b1.far (by have := h.hg; omega) _
 bt := h.bt.far (by omega) _
 be := h.be.setCell (by have := h.hg; omega) _
 hg := h.hg
 hw := by simpa [World.setCell] using h.hw

set_option maxRecDepth 100000 in
set_option maxHeartbeats 2000000 in
theorem pack_any (l : List Int) (w : World) (hl : l.length = 16) (hbd : Bnd 2305843009213693952 l) :
  Calls Tryd.prog 51 #[.agg (Is l).toArray] w fun e w' => e = .returned (.agg (By (enc (zf (V l)))).toArray) ∧ Below w.heap.size w w' := by
 have hr := V_room hl (hbd.mono (by omega));have ht := carry_two hl hr.1 hr.2;have ht3 := carry_three hl hr.1 hr.2;have hc1 := carry_all hl;have hd := div_bound (W_pos 16) hr.1 hr.2;have hb1 : Bnd 2305843009213693952 (carry l) := hc1.1.bnd (by omega) (by omega) (by omega);have hb2 : Bnd 2305843009213693952 (carry (carry l)) := ht.1.bnd (by omega) (by omega) (by omega)
 have hz : (Is l).toArray.size = 16 := by rw [List.size_toArray, Is_len, hl]
 have h0 : ∀ u, Blk ((w.alloc (Obj.cells (Is l).toArray 27)).alloc u) w.heap.size 27 (Is l).toArray := fun u => (Blk.new w _ _).alloc u;have h1 : Blk ((w.alloc (Obj.cells (Is l).toArray 27)).alloc (Obj.cells z32 22)) (w.heap.size + 1) 22 z32 := heap_alloc2_new w _ _;have hbel : Below w.heap.size w ((w.alloc (Obj.cells (Is l).toArray 27)).alloc (Obj.cells z32 22)) := ((Below.refl _ _).alloc (Nat.le_refl _) _).alloc (by simp) _;have HC := fun w1 => Lib.hid (carry_any l w1 hl hbd);have HC1 := fun w1 => Lib.hid (carry_any (carry l) w1 hc1.1.len hb1);have HC2 := fun w1 => Lib.hid (carry_any (carry (carry l)) w1 ht.1.len hb2);have HK := Lib.hid (And.intro h1 hbel);clear hr ht hc1 hd hb1 hb2 h1 hbel
 go_enter Tryd.func51, Tryd.ntmps51
 go_wp2_with (refine wpList_load_row rfl 27 _ rfl w.heap.size rfl 27 (Is l).toArray (0, 0) _ (h0 _) Tryd.underlying27 rfl (size_num _ hz) ?_)
 refine (HC _).out.mono ?_
 rintro e w1 ⟨rfl, hw1⟩
 go_wp2_with (fail)
 refine (HC1 _).out.mono ?_
 rintro e w2 ⟨rfl, hw2⟩
 go_wp2_with (fail)
 refine (HC2 _).out.mono ?_
 rintro e w3 ⟨rfl, hw3⟩
 obtain ⟨h1, hbel⟩ := HK.out;have hwa := hw1.trans ((hw2.trans (hw3.mono hw2.size)).mono hw1.size);have hb := hbel.trans (hwa.mono hbel.size);have h2 := h1.below hwa h1.lt;have hzz : ∀ u, Blk (w3.alloc (Obj.cells u 27)) w3.heap.size 27 u := fun u => Blk.new w3 _ _;have h2a : ∀ u, Blk (w3.alloc u) (w.heap.size + 1) 22 z32 := fun u => h2.alloc u;have hba : ∀ u, Below w.heap.size w (w3.alloc u) := fun u => hb.alloc hb.size u;have hlt : w.heap.size + 1 < w3.heap.size := h2.lt;clear HC HC1 HC2 HK h0 h1 hbel hw1 hw2 hw3 hwa hb h2;obtain ⟨hl3, hs3, hv3⟩ := ht3;have hpk : split (rst (carry (carry (carry l))) 2) = enc (zf (V l)) := split_pack hl (hbd.mono (by omega));generalize carry (carry (carry l)) = t at *
 have hzt : (Is t).toArray.size = 16 := by rw [List.size_toArray, Is_len, hl3]
 have hsz : (w3.alloc (Obj.cells z16 27)).heap.size = w3.heap.size + 1 := World.size_alloc _ _;have k2 : Blk ((w3.alloc (Obj.cells z16 27)).setRow w3.heap.size (Is t).toArray) (w.heap.size + 1) 22 z32 := (h2a _).rowFar (by omega) _;have kt : Blk ((w3.alloc (Obj.cells z16 27)).setRow w3.heap.size (Is t).toArray) w3.heap.size 27 (Is t).toArray := (hzz z16).row _;have kb : Below w.heap.size w ((w3.alloc (Obj.cells z16 27)).setRow w3.heap.size (Is t).toArray) := below_setRow (hba _) (by omega) _;have HK := Lib.hid (And.intro k2 (And.intro kt (And.intro kb (show w3.heap.size < ((w3.alloc (Obj.cells z16 27)).setRow w3.heap.size (Is t).toArray).heap.size by rw [size_setRow, hsz]; omega))));clear k2 kt kb h2a hba hsz;generalize hgt : w3.heap.size = gt at *
 go_wp2_with (refine wpList_store_row rfl 27 _ _ rfl gt rfl (Is t).toArray rfl 27 z16 (hzz z16) (size_num _ hzt) (by rw [hzt]; rfl) (Is_one _) ?_)
 obtain ⟨h2, ht, hb, hwz⟩ := HK.out;clear HK hzz;clear hgt
 go_loopw [4] (fun i wr => ∃ k : Nat, k ≤ 2 ∧ i = .int .i64 k ∧ Packs w wr gt (rst t k)) (fun i _ => 2 - (intOf i).toNat)
 case atStart => exact ⟨0, by omega, rfl, h2, ht, hb, hlt, hwz⟩
 case round =>
  clear h2 ht hb hwz;obtain ⟨k, hk, rfl, hP⟩ := hrel
  by_cases hlt2 : k < 2
  ·obtain ⟨hl4, hs4⟩ := rst_all hl3 hs3 k
   have hR : redp (rst t k) = rst t (k + 1) := rfl;generalize rst t k = s at *
   have q1 : (k : Int) < 2 := by omega
   obtain ⟨h2, ht, hb, -, hwz⟩ := hP;have c0 := fun u => ((ht.alloc u).cell 0).trans (Is_at (by omega));have b0 := hs4 s[0]! (by rw [getElem!_pos s 0 (by omega)]; exact List.getElem_mem _);have hll := lessp_len hl4
   have hrow : Is (fil (lessp s) 16 1) = Is ((s[0]! - 65517) :: List.replicate 15 0) := by
    rw [← fil_next hll (k := 0) (by omega) (lessp_get hl4 (by omega)).symm, fil_zero, pdig_0]
    rfl
   have q0 : wrap64 (s[0]! - 65517) = s[0]! - 65517 := wrap64_in _ (by omega);generalize s[0]! = x0 at *
   have hm : Blk (wr.alloc (Obj.cells (Is ((x0 - 65517) :: List.replicate 15 0)).toArray 27)) wr.heap.size 27 (Is (fil (lessp s) 16 1)).toArray := by rw [hrow]; exact Blk.new wr _ _
   have m2 : ∀ u, Blk (wr.alloc u) (w.heap.size + 1) 22 z32 := fun u => h2.alloc u;have mt : ∀ u, Blk (wr.alloc u) gt 27 (Is s).toArray := fun u => ht.alloc u;have mb : ∀ u, Below w.heap.size w (wr.alloc u) := fun u => hb.alloc hb.size u
   have ms : ∀ u, wr.heap.size < (wr.alloc u).heap.size := fun u => by rw [World.size_alloc]; omega
   have HM := Lib.hid (And.intro hm (And.intro m2 (And.intro mt (And.intro mb ms))));clear hm m2 mt mb ms hrow h2 ht hb;obtain ⟨gm, hgm⟩ : ∃ gm, wr.heap.size = gm := ⟨_, rfl⟩;rw [hgm] at hwz;have c0 : ∀ u, (wr.alloc u).cell? ⟨gt, 0, none⟩ = some (.int .i64 x0) := c0
   go_wp2_with (fail)
   obtain ⟨hm, m2, mt, mb, ms⟩ := HM.out;clear HM c0;rw [hgm] at hm ms
   go_loopw [6] (fun i wq => ∃ j : Nat, 1 ≤ j ∧ j ≤ 15 ∧ i = .int .i64 j ∧ Packs w wq gt s ∧ Blk wq gm 27 (Is (fil (lessp s) 16 j)).toArray) (fun i _ => 16 - (intOf i).toNat)
   case atStart => exact ⟨1, by omega, by omega, rfl, ⟨m2 _, mt _, mb _, hlt, Nat.lt_trans hwz (ms _)⟩, hm⟩
   case round =>
    clear hm m2 mt mb ms hgm;obtain ⟨j, hj1, hj, rfl, hP, hm⟩ := hrel
    by_cases hlj : j < 15
    ·have c1 := (hP.bt.cell j).trans (Is_at (by omega))
     have b1 := hs4 s[j]! (by rw [getElem!_pos s j (by omega)]; exact List.getElem_mem _);have hN := fil_next hll (k := j) (by omega) (lessp_get hl4 (by omega)).symm;rw [pdig_mid j hlj hj1] at hN;have hc := (hm.cell j).trans (Is_at (by rw [fil_len hll (by omega)]; omega));have hf := hm.free j;have hgl := hP.hg;have hgw := hP.hw;generalize s[j]! = x at *;have HK := Lib.hid (And.intro hP (And.intro hm hN));clear hP hm hN
     go_wp2
     go_roundw
     case rel =>
      obtain ⟨hP, hm, hN⟩ := HK.out;have h4 := hm.set j (.int .i64 (x - 65535));rw [Is_set, hN] at h4;exact ⟨j + 1, by omega, by omega, by go_num, hP.set (by simp; omega) _, h4⟩
     case measure => simp [intOf]; omega
    ·obtain rfl : j = 15 := by omega
     have c1 := (hP.bt.cell 15).trans (Is_at (by omega));have b1 := hs4 s[15]! (by rw [getElem!_pos s 15 (by omega)]; exact List.getElem_mem _);have hN := fil_next hll (k := 15) (by omega) (lessp_get hl4 (by omega)).symm;rw [fil_all hll, pdig_15] at hN;have hc := (hm.cell 15).trans (Is_at (by rw [fil_len hll (by omega)]; omega));have hf := hm.free 15;generalize s[15]! = x at *;have q0 : wrap64 (x - 32767) = x - 32767 := wrap64_in _ (by omega);have h4 := hm.set 15 (.int .i64 (x - 32767));rw [Is_set, hN] at h4;have hP4 := hP.set (a := ⟨gm, 15, none⟩) (by simp; omega) (.int .i64 (x - 32767));have HK := Lib.hid (And.intro hP4 h4);clear hP hm hN hP4 h4
     go_wp2_with (fail)
     obtain ⟨hP, hm⟩ := HK.out;clear HK hc hf c1;generalize wr.setCell ⟨gm, 15, none⟩ (.int .i64 (x - 32767)) = w5 at *;generalize ((15 : Nat) : Int) = s15
     go_loopw [7] (fun i wq => ∃ j : Nat, j ≤ 15 ∧ i = .int .i64 j ∧ Packs w wq gt s ∧ Blk wq gm 27 (Is (pst (lessp s) j)).toArray) (fun i _ => 16 - (intOf i).toNat)
     case atStart => exact ⟨0, by omega, rfl, hP, by rw [pst_zero]; exact hm⟩
     case round =>
      clear hP hm;obtain ⟨j, hj, rfl, hP, hm⟩ := hrel
      have hpl : (pst (lessp s) j).length = 16 := by rw [pst_len, hll]
      by_cases hlj : j < 15
      ·have hx := lent_at hs4 hl4 (k := j) (by omega)
       have hy := lent_at1 hs4 hl4 hlj;have c1 := (hm.cell j).trans (Is_at (by omega));have c2 := (hm.cell (j + 1)).trans (Is_at (by omega));have hf := hm.free j;have hf2 := hm.free (j + 1);have hN1 := lent_neg hs4 hl4 hlj;have hN2 := lent_pos hs4 hl4 hlj;have hgm : gt < gm := hwz;generalize (pst (lessp s) j)[j]! = x at *;generalize (pst (lessp s) j)[j+1]! = y at *
       by_cases hneg : x < 0
       ·have hN := hN1 hneg
        have q2 : wrap64 (x + 65536) = x + 65536 := wrap64_in _ (by omega);have q3 : wrap64 (y - 1) = y - 1 := wrap64_in _ (by omega);have HK := Lib.hid (And.intro hP (And.intro hm hN));clear hP hm hN hN1 hN2
        go_wp2
        go_roundw
        case rel =>
         obtain ⟨hP, hm, hN⟩ := HK.out;have h4 := (hm.set j (.int .i64 (x + 65536))).set (j + 1) (.int .i64 (y - 1));rw [Is_set, Is_set, ← hN] at h4;exact ⟨j + 1, by omega, by go_num, (hP.set (by simp; omega) _).set (by simp; omega) _, h4⟩
        case measure => simp [intOf]; omega
       ·have hN := hN2 hneg
        have HK := Lib.hid (And.intro hP (And.intro hm hN));clear hP hm hN hN1 hN2
        go_wp2
        go_roundw
        case rel =>
         obtain ⟨hP, hm, hN⟩ := HK.out;rw [← hN] at hm;exact ⟨j + 1, by omega, by go_num, hP, hm⟩
        case measure => simp [intOf]; omega
      ·obtain rfl : j = 15 := by omega
       rw [pst_lent hll] at hm hpl;have c1 := (hm.cell 15).trans (Is_at (by omega));have hR2 : redp s = if (0 : Int) ≤ (lent (lessp s))[15]! then lent (lessp s) else s := rfl;rw [hR] at hR2
       have hzl : (Is (lent (lessp s))).toArray.size = 16 := by rw [List.size_toArray, Is_len, hpl]
       have hzs : (Is s).toArray.size = 16 := by rw [List.size_toArray, Is_len, hl4]
       generalize (lent (lessp s))[15]! = y at *
       by_cases hge : 0 ≤ y
       ·rw [if_pos hge] at hR2
        have hbt := hP.bt;have HP := Lib.hid hP;clear hP
        go_wp2_with (first
         | (refine wpList_load_row rfl 27 _ rfl gm rfl 27 (Is (lent (lessp s))).toArray (0, 0) _ hm Tryd.underlying27 rfl (size_num _ hzl) ?_)
         | (refine wpList_store_row rfl 27 _ _ rfl gt rfl (Is (lent (lessp s))).toArray rfl 27 _ hbt (size_num _ hzl) (by rw [hzl, hzs]) (Is_one _) ?_))
        go_roundw
        case rel =>
         have hP := HP.out;refine ⟨k + 1, by omega, by go_num, hP.b1.rowFar (by have := hP.hg; omega) _, ?_, below_setRow hP.be (by have := hP.hg; omega) _, hP.hg, by rw [size_setRow]; exact hP.hw⟩;rw [hR2];exact hbt.row _
        case measure => simp [intOf]; omega
       ·rw [if_neg hge] at hR2
        have HP := Lib.hid hP;clear hP
        go_wp2_with (fail)
        go_roundw
        case rel =>
         have hP := HP.out;rw [← hR2] at hP;exact ⟨k + 1, by omega, by go_num, hP⟩
        case measure => simp [intOf]; omega
  ·obtain rfl : k = 2 := by omega
   obtain ⟨hl4, hs4⟩ := rst_all hl3 hs3 2;generalize rst t 2 = d at *;have hn := Blk.new wr 22 z32;have hP' : ∀ u, Packs w (wr.alloc u) gt d := fun u => ⟨hP.b1.alloc u, hP.bt.alloc u, hP.be.alloc hP.be.size u, hP.hg, by rw [World.size_alloc]; have := hP.hw; omega⟩;have hg2 := hP.hw;have HK := Lib.hid (And.intro hn hP');clear hn hP' hP;obtain ⟨gh, hgh⟩ : ∃ gh, wr.heap.size = gh := ⟨_, rfl⟩
   go_wp2
   obtain ⟨hn, hP⟩ := HK.out;rw [hgh] at hn hg2;clear HK;generalize ((2 : Nat) : Int) = s2
   go_loopw [9] (fun i wq => ∃ j : Nat, j ≤ 16 ∧ i = .int .i64 j ∧ Packs w wq gt d ∧ Blk wq gh 22 (By (hst d j)).toArray) (fun i _ => 16 - (intOf i).toNat)
   case atStart => exact ⟨0, by omega, rfl, hP _, hn⟩
   case round =>
    clear hP hn hgh;obtain ⟨j, hj, rfl, hP, hm⟩ := hrel
    by_cases hlj : j < 16
    ·have hx := hs4 d[j]! (by rw [getElem!_pos d j (by omega)]; exact List.getElem_mem _)
     have hhl := hst_len hl4 (k := j) (by omega);have c1 := (hP.bt.cell j).trans (Is_at (by omega));have e1 := (hm.cell (2 * j)).trans (By_get (by omega));have e2 := (hm.cell (2 * j + 1)).trans (By_get (by omega));have hf1 := hm.free (2 * j);have hf2 := hm.free (2 * j + 1);have hN := hst_next hl4 (k := j) (by omega);have hgd : gt < gh := hg2;generalize d[j]! = x at *;have HK := Lib.hid (And.intro hP (And.intro hm hN));clear hP hm hN hhl
     go_wp2_with (fail)
     obtain ⟨hP, hm, hN⟩ := HK.out
     have v1 : (x % 256 : Int) = ((UInt8.ofNat (x % 256).toNat).toNat : Int) := by rw [UInt8.toNat_ofNat']; omega
     have v2 : (x / 256 : Int) = ((UInt8.ofNat (x / 256).toNat).toNat : Int) := by rw [UInt8.toNat_ofNat']; omega
     have h4 := (hm.set (2 * j) (.int .u8 ((UInt8.ofNat (x % 256).toNat).toNat : Int))).set (2 * j + 1) (.int .u8 ((UInt8.ofNat (x / 256).toNat).toNat : Int));rw [By_set, By_set, hN, ← v1, ← v2] at h4;exact ⟨⟨j + 1, by omega, by go_num, (hP.set (by simp; omega) _).set (by simp; omega) _, h4⟩, by simp [intOf]; omega⟩
    ·obtain rfl : j = 16 := by omega
     rw [hst_all hl4, hpk] at hm
     have hz2 : (By (enc (zf (V l)))).toArray.size = 32 := by rw [List.size_toArray, By_len, enc_len]
     have h1 := hP.b1;have HB := Lib.hid hP.be;clear hP
     go_wp2_with (first
      | (refine wpList_load_row rfl 22 _ rfl gh rfl 22 (By (enc (zf (V l)))).toArray (0, 0) _ hm Tryd.underlying22 rfl (size_hash _ hz2) ?_)
      | (refine wpList_store_row rfl 22 _ _ rfl (w.heap.size + 1) rfl (By (enc (zf (V l)))).toArray rfl 22 _ h1 (size_hash _ hz2) (by rw [hz2]; rfl) (By_one _) ?_))
     refine bodyPost_ret (results_cell_row rfl _ _ (w.heap.size + 1) 22 (By (enc (zf (V l)))).toArray (0, 0) _ rfl (h1.row _) Tryd.underlying22 rfl (size_hash _ hz2)) rfl ⟨rfl, ?_⟩;exact below_setRow HB.out (by omega) _
end Go.Proofs.YtiamoeifaahlfaaDoor
/-
  THE DOCUMENT'S OWN NUMBERS: Of; numbers modulo p as rows.
-/
namespace Go.Proofs.YtiamoeifaahlfaaDoor
open Go.RowKit Go.IntWalk Nums

def dq (v : Nat) : Nat → Nat
  | 0 => v
  | k + 1 => dq v k / 65536
theorem dq_lt {v : Nat} (h : v < 18446744073709551616) : ∀ k, dq v k < 18446744073709551616
 | 0 => h
 | k + 1 => Nat.lt_of_le_of_lt (Nat.div_le_self _ _) (dq_lt h k)
theorem ofd_get (v : Nat) : ∀ k, k < 4 → (ofd v)[k]! = ((dq v k % 65536 : Nat) : Int)
 | 0, _ => rfl
 | 1, _ => rfl
 | 2, _ => rfl
 | 3, _ => rfl
theorem fil_ofd (v : Nat) : fil (ofd v) 16 4 = ofd v := rfl

set_option maxRecDepth 100000 in
set_option maxHeartbeats 1000000 in
theorem of_any (v : Nat) (w : World) (hv : v < 18446744073709551616) :
  Calls Tryd.prog 42 #[.int .u64 v] w fun e w' => e = .returned (.agg (Is (ofd v)).toArray) ∧ Below w.heap.size w w' := by
 go_enter Tryd.func42, Tryd.ntmps42
 go_wp2
 go_loopw [0, 4] (fun q i wr => ∃ k : Nat, k ≤ 4 ∧ i = .int .i64 k ∧ q = .int .u64 ((dq v k : Nat) : Int) ∧ Blk wr w.heap.size 27 z16 ∧ Blk wr (w.heap.size + 1) 27 (Is (fil (ofd v) 16 k)).toArray ∧ Below w.heap.size w wr) (fun _ i _ => 4 - (intOf i).toNat)
 case atStart => exact ⟨0, by omega, rfl, rfl, heap_alloc2_old w _ _, heap_alloc2_new w _ _, ((Below.refl _ _).alloc (Nat.le_refl _) _).alloc (by simp) _⟩
 case round =>
  obtain ⟨k, hk, rfl, rfl, h0, h1, hbel⟩ := hrel
  by_cases hlt : k < 4
  ·have hN := fil_next (l := ofd v) (n := 16) (k := k) rfl (by omega) (ofd_get v k hlt).symm
   have hc := (h1.cell k).trans (Is_at (by rw [fil_len (n := 16) rfl (by omega)]; omega));have hf := h1.free k;have hd := dq_lt hv k;have hnx : dq v (k + 1) = dq v k / 65536 := rfl;have HK := Lib.hid (And.intro h0 (And.intro h1 (And.intro hbel (And.intro hN hnx))));clear h0 h1 hbel hN hnx;generalize dq v k = q at *
   go_wp2
   go_roundw
   case rel =>
    obtain ⟨h0, h1, hbel, hN, hnx⟩ := HK.out;have h3 := h1.set k (.int .i64 ((q % 65536 : Nat) : Int));rw [Is_set, hN] at h3;refine ⟨k + 1, by omega, by go_num, ?_, h0.far (by simp) _, ?_, hbel.setCell (by simp) _⟩
    ·rw [hnx]
     simp
    ·simpa using h3
   case measure => simp [intOf]; omega
  ·obtain rfl : k = 4 := by omega
   rw [fil_ofd] at h1;have hz : (Is (ofd v)).toArray.size = 16 := rfl
   go_wp2_with (first
    | (refine wpList_load_row rfl 27 _ rfl (w.heap.size + 1) rfl 27 (Is (ofd v)).toArray (0, 0) _ h1 Tryd.underlying27 rfl (size_num _ hz) ?_)
    | (refine wpList_store_row rfl 27 _ _ rfl w.heap.size rfl (Is (ofd v)).toArray rfl 27 _ h0 (size_num _ hz) rfl (Is_one _) ?_))
   refine bodyPost_ret (results_cell_row rfl _ _ w.heap.size 27 (Is (ofd v)).toArray (0, 0) _ rfl (h0.row _) Tryd.underlying27 rfl (size_num _ hz)) rfl ⟨rfl, ?_⟩;exact below_setRow hbel (by omega) _

structure NB (B : Int) (l : List Int) (x : F) : Prop where
  len : l.length = 16
  bnd : Bnd B l
  val : zf (V l) = x

theorem NB.mono {B C : Int} {l : List Int} {x : F} (h : NB B l x) (hc : B ≤ C) : NB C l x := ⟨h.len, h.bnd.mono hc, h.val⟩
theorem NB.of {v : Nat} (hv : v < 18446744073709551616) : NB 65535 (ofd v) (fof v) := ⟨rfl, (ofd_small v).bnd, by rw [V_ofd hv, zf_nat]⟩
theorem NB.adds {B C : Int} {a b : List Int} {x y : F} (ha : NB B a x) (hb : NB C b y) : NB (B + C) (adds a b) (x + y) :=
 ⟨adds_len ha.len hb.len, adds_bnd ha.bnd hb.bnd, by rw [V_adds (by rw [ha.len, hb.len]), zf_add, ha.val, hb.val]⟩
theorem NB.subs {B C : Int} {a b : List Int} {x y : F} (ha : NB B a x) (hb : NB C b y) : NB (B + C) (subs a b) (x - y) :=
 ⟨subs_len ha.len hb.len, subs_bnd ha.bnd hb.bnd, by rw [V_subs (by rw [ha.len, hb.len]), zf_sub, ha.val, hb.val]⟩

theorem mul_f {a b : List Int} {x y : F} (ha : NB 1048576 a x) (hb : NB 1048576 b y) (w : World) :
  Calls Tryd.prog 40 #[.agg (Is a).toArray, .agg (Is b).toArray] w fun e w' => ∃ r, NB 65573 r (x * y) ∧ e = .returned (.agg (Is r).toArray) ∧ Below w.heap.size w w' := by
 refine (mul_any a b w ha.len hb.len ha.bnd hb.bnd).mono ?_
 rintro e w' ⟨t, hv, hb1, hl, rfl, hw⟩
 obtain ⟨fl, fz⟩ := V_folded hl;have hr := V_room fl ((folded_bnd hl hb1).mono (by omega));have h2 := carry_two fl hr.1 hr.2;refine ⟨_, ⟨h2.1.len, h2.1.bnd (by omega) (by omega) (by omega), ?_⟩, rfl, hw⟩;rw [carry_zf (carry_all fl).1.len, carry_zf fl, fz, hv, zf_mul, ha.val, hb.val]

theorem pack_f {l : List Int} {x : F} (h : NB 1048576 l x) (w : World) :
  Calls Tryd.prog 51 #[.agg (Is l).toArray] w fun e w' => e = .returned (.agg (By (enc x)).toArray) ∧ Below w.heap.size w w' := by
 have h1 := pack_any l w h.len (h.bnd.mono (by omega));rw [h.val] at h1;exact h1

theorem load_f {b : List UInt8} (hl : b.length = 32) : NB 65535 (low b) (fof (le b % 57896044618658097711785492504343953926634992332820282019728792003956564819968)) := by
 obtain ⟨h1, h2, h3⟩ := low_all hl;exact ⟨h1, h2.bnd, by rw [h3, zf_nat]⟩

end Go.Proofs.YtiamoeifaahlfaaDoor
/-
  PLAIN NUMBERS: rows of bits, and one less. No program is imported.
-/
namespace Nums

def bv : List Bool → Nat
  | [] => 0
  | b :: bs => (if b then 1 else 0) + 2 * bv bs

theorem bv_app (a b : List Bool) : bv (a ++ b) = bv a + 2 ^ a.length * bv b := by
 induction a with
 | nil => simp [bv]
 | cons x a ih =>
  show (if x then 1 else 0) + 2 * bv (a ++ b) = (if x then 1 else 0) + 2 * bv a + 2 ^ (a.length + 1) * bv b
  rw [ih, Nat.pow_succ, Nat.mul_add, Nat.mul_comm (2 ^ a.length) 2, Nat.mul_assoc, Nat.add_assoc]
theorem bv_zeros (n : Nat) : bv (List.replicate n false) = 0 := by
 induction n with
 | zero => rfl
 | succ n ih => rw [List.replicate_succ]; show 0 + 2 * bv (List.replicate n false) = 0; omega
theorem bv_ones (n : Nat) : bv (List.replicate n true) + 1 = 2 ^ n := by
 induction n with
 | zero => rfl
 | succ n ih => rw [List.replicate_succ, Nat.pow_succ]; show 1 + 2 * bv (List.replicate n true) + 1 = 2 ^ n * 2; omega

def dst (l : List Bool) (i : Nat) : List Bool := List.replicate i true ++ l.drop i
theorem dst_zero (l : List Bool) : dst l 0 = l := by simp [dst]
theorem dst_len {l : List Bool} {i : Nat} (h : i ≤ l.length) : (dst l i).length = l.length := by simp [dst]; omega
theorem dst_get {l : List Bool} {i : Nat} (h : i < l.length) : (dst l i)[i]! = l[i]! := by
 rw [getElem!_pos _ i (by rw [dst_len (by omega)]; exact h), getElem!_pos l i h];simp only [dst];rw [List.getElem_append_right (by simp)]
 simp
theorem dst_next {l : List Bool} {i : Nat} (h : i < l.length) : (dst l i).set i true = dst l (i + 1) := by
 unfold dst
 rw [List.set_append_right _ _ (by simp), List.length_replicate, Nat.sub_self, List.replicate_succ', List.append_assoc]
 congr 1
 rw [List.drop_eq_getElem_cons h]
 rfl
theorem dst_end {l : List Bool} {i : Nat} (h : i < l.length) (h0 : l.take i = List.replicate i false) (h1 : l[i]! = true) :
  ((dst l i).set i false).length = l.length ∧ bv ((dst l i).set i false) + 1 = bv l := by
 refine ⟨by rw [List.length_set, dst_len (by omega)], ?_⟩
 have e : l = List.replicate i false ++ true :: l.drop (i + 1) := by
  conv => lhs; rw [← List.take_append_drop i l, h0, List.drop_eq_getElem_cons h]
  rw [getElem!_pos l i h] at h1;rw [h1]
 have f : (dst l i).set i false = List.replicate i true ++ false :: l.drop (i + 1) := by
  unfold dst
  rw [List.set_append_right _ _ (by simp), List.length_replicate, Nat.sub_self, List.drop_eq_getElem_cons h]
  rfl
 have hb : bv l = 2 ^ i * (1 + 2 * bv (l.drop (i + 1))) := by
  conv => lhs; rw [e]
  rw [bv_app, bv_zeros, List.length_replicate, Nat.zero_add]
  rfl
 have ho := bv_ones i;rw [f, bv_app, List.length_replicate, hb]
 show bv (List.replicate i true) + 2 ^ i * (0 + 2 * bv (l.drop (i + 1))) + 1 = _
 rw [Nat.mul_add (2 ^ i) 1, Nat.mul_one, Nat.zero_add]
 omega
theorem low_next {l : List Bool} {i : Nat} (h : i < l.length) (h0 : l.take i = List.replicate i false) (h1 : l[i]! = false) : l.take (i + 1) = List.replicate (i + 1) false := by
 rw [List.take_succ_eq_append_getElem h, h0, List.replicate_succ'];rw [getElem!_pos l i h] at h1;rw [h1]
theorem low_lt {l : List Bool} {i : Nat} (h0 : l.take i = List.replicate i false) (h : 0 < bv l) : i < l.length := by
 rcases Nat.lt_or_ge i l.length with h1 | h1
 ·exact h1
 ·rw [List.take_of_length_le h1] at h0
  rw [h0, bv_zeros] at h
  omega
theorem bv_drop {l : List Bool} {i : Nat} (h : i < l.length) : bv (l.drop i) = (if l[i]! then 1 else 0) + 2 * bv (l.drop (i + 1)) := by
 rw [List.drop_eq_getElem_cons h, getElem!_pos l i h]
 rfl
theorem bv_top (n : Nat) : bv (List.replicate n false ++ [true]) = 2 ^ n := by
 rw [bv_app, bv_zeros, List.length_replicate]
 show 0 + 2 ^ n * (1 + 2 * 0) = 2 ^ n
 omega

end Nums
/-
  THE DOCUMENT'S OWN NUMBERS: Power.
-/
namespace Go.Proofs.YtiamoeifaahlfaaDoor
open Go.RowKit Go.IntWalk Nums

def Bs (l : List Bool) : List Value := l.map .bool
theorem Bs_at {l : List Bool} {j : Nat} (h : j < l.length) : (Bs l).toArray[j]? = some (.bool l[j]!) := by
 simp [Bs, h]
theorem Bs_set (l : List Bool) (k : Nat) (x : Bool) : (Bs l).toArray.setIfInBounds k (.bool x) = (Bs (l.set k x)).toArray := by
 simp [Bs, List.map_set]
theorem infoB : (Tryd.prog.info? 4).map (fun i => (i.zero, i.size, i.bytes)) = some (some (.bool false), 1, 1) := by kernel_rfl
theorem made_bools (n : Nat) : madeCells #[.bool false] n = (Bs (List.replicate n false)).toArray := by
 apply Array.ext
 ·simp [size_madeCells, Bs]
 ·intro i h1 h2
  simp [madeCells, Bs, Nat.mod_one]

structure PW (w wr : World) (a : List Int) (E : List Bool) : Prop where
  b0 : Blk wr w.heap.size 27 (Is a).toArray
  b1 : Blk wr (w.heap.size + 1) 27 z16
  b2 : Blk wr (w.heap.size + 1 + 1) 4 (Bs E).toArray
  be : Below w.heap.size w wr

theorem PW.set {w wr : World} {a : List Int} {E : List Bool} (h : PW w wr a E) (k : Nat) (x : Bool) :
  PW w (wr.setCell ⟨w.heap.size + 1 + 1, k, none⟩ (.bool x)) a (E.set k x) where
 b0 := h.b0.far (by simp <;> omega) _
 b1 := h.b1.far (by simp) _
 b2 := by
  have h4 := h.b2.set k (.bool x);rw [Bs_set] at h4;exact h4
 be := h.be.setCell (by simp; omega) _

structure RW (w wr : World) (gr : Nat) (a : List Int) (E : List Bool) (r : List Int) : Prop where
  pw : PW w wr a E
  br : Blk wr gr 27 (Is r).toArray
  hg : w.heap.size + 1 + 1 < gr
  hw : gr < wr.heap.size

theorem RW.next {w wr w1 : World} {gr : Nat} {a : List Int} {E : List Bool} {r r' : List Int} (h : RW w wr gr a E r) (hw : Below wr.heap.size wr w1) : RW w (w1.setRow gr (Is r').toArray) gr a E r' where
 pw := ⟨(h.pw.b0.below hw h.pw.b0.lt).rowFar (by have := h.hg; omega) _, (h.pw.b1.below hw h.pw.b1.lt).rowFar (by have := h.hg; omega) _, (h.pw.b2.below hw h.pw.b2.lt).rowFar (by have := h.hg; omega) _, below_setRow (h.pw.be.trans (hw.mono h.pw.be.size)) (by have := h.hg; omega) _⟩
 br := (h.br.below hw h.br.lt).row _
 hg := h.hg
 hw := by rw [size_setRow]; exact Nat.lt_of_lt_of_le h.hw hw.size

set_option maxRecDepth 100000 in
set_option maxHeartbeats 2000000 in
theorem power_f {a : List Int} {x : F} (ha : NB 1048576 a x) (n less : Nat) (hn : n < 300) (hless : less < 2 ^ n) (hl64 : less < 18446744073709551616) (w : World) :
  Calls Tryd.prog 77 #[.agg (Is a).toArray, .int .i64 n, .int .u64 less] w fun e w' => ∃ r, NB 65573 r (fpow x (2 ^ n - less)) ∧ e = .returned (.agg (Is r).toArray) ∧ Below w.heap.size w w' := by
 obtain ⟨i0, hi0, hz0, hz1, hz2⟩ := info_parts infoB
 have hnn : (madeCells #[.bool false] (n + 1))[n]? = some (.bool false) := by
  rw [made_bools, Bs_at (by simp)]
  congr 2
  rw [getElem!_pos _ n (by simp)]
  simp
 have hP0 : PW w (((w.alloc (Obj.cells (Is a).toArray 27)).alloc (Obj.cells z16 27)).alloc (Obj.cells ((madeCells #[.bool false] (n + 1)).setIfInBounds n (.bool true)) 4)) a (List.replicate n false ++ [true]) := by
  refine ⟨blk3_0 w _ _ _ _, blk3_1 w _ _ _ _, ?_, (((Below.refl _ _).alloc (Nat.le_refl _) _).alloc (by simp) _).alloc (by simp; omega) _⟩
  have e : (Bs (List.replicate n false ++ [true])).toArray = (madeCells #[.bool false] (n + 1)).setIfInBounds n (.bool true) := by
   rw [made_bools, Bs_set, List.replicate_succ', List.set_append_right _ _ (by simp)]
   simp
  rw [e];exact blk3_2 w _ _ _ _
 have HP := Lib.hid hP0;have HL := Lib.hid hless;have HA := Lib.hid ha;clear hP0 hless ha
 go_enter Tryd.func77, Tryd.ntmps77
 go_wp2_with (at_make; refine wpList_make_row _ rfl _ _ 140 rfl 4 i0 _ Tryd.underlying140 hi0 hz0 hz1 rfl .i64 .i64 (n + 1) rfl rfl (by rw [hz2]; omega) (by omega) ?_)
 clear hnn hi0 hz0 hz1 hz2 i0
 go_loopw [8] (fun i wr => ∃ k : Nat, k ≤ less ∧ i = .int .u64 k ∧ ∃ E, E.length = n + 1 ∧ bv E + k = 2 ^ n ∧ PW w wr a E) (fun i _ => less - (intOf i).toNat)
 case atStart => exact ⟨0, by omega, rfl, _, by simp, by rw [bv_top]; rfl, HP.out⟩
 case round =>
  clear HP;obtain ⟨k, hk, rfl, E, hEl, hEb, hP⟩ := hrel
  by_cases hlt : k < less
  ·have q0 : (k : Int) < (less : Int) := by omega
   have hE0 : 0 < bv E := by have := HL.out; omega
   have HK := Lib.hid (And.intro hP (And.intro hEb hE0));clear hP hEb hE0
   go_wp2
   go_loopw [9] (fun i wq => ∃ j : Nat, j ≤ n ∧ i = .int .i64 j ∧ E.take j = List.replicate j false ∧ PW w wq a (dst E j)) (fun i _ => n + 1 - (intOf i).toNat)
   case atStart => exact ⟨0, by omega, rfl, rfl, by rw [dst_zero]; exact HK.out.1⟩
   case round =>
    obtain ⟨j, hj, rfl, hz, hP⟩ := hrel;obtain ⟨-, hEb, hE0⟩ := HK.out;have c1 := (hP.b2.cell j).trans (Bs_at (by rw [dst_len (by omega)]; omega));rw [dst_get (by omega)] at c1;have hf := hP.b2.free j
    by_cases hb : E[j]! = true
    ·have hD := dst_end (by omega) hz hb
     rw [hb] at c1;have hP2 := hP.set j false;have HK2 := Lib.hid (And.intro hP2 (And.intro hD hEb));clear HK hP hz hEb hE0 hP2 hD
     go_wp2
     go_roundw
     case rel =>
      obtain ⟨hP2, ⟨d1, d2⟩, hEb⟩ := HK2.out;exact ⟨k + 1, by omega, by go_num, _, by omega, by omega, hP2⟩
     case measure => simp [intOf]; omega
    ·have hb : E[j]! = false := by simpa using hb
     have hlow := low_next (by omega) hz hb
     have hjn : j + 1 < n + 1 := by rw [← hEl]; exact low_lt hlow hE0
     have hP2 := hP.set j true;rw [dst_next (by omega)] at hP2;rw [hb] at c1;have HK2 := Lib.hid (And.intro hP2 hlow);clear hP hz hEb hE0 hP2 hlow
     go_wp2
     go_roundw
     case rel =>
      obtain ⟨hP2, hlow⟩ := HK2.out;exact ⟨j + 1, by omega, by go_num, hlow, hP2⟩
     case measure => simp [intOf]; omega
  ·obtain rfl : k = less := by omega
   have HK := Lib.hid hP;clear hP;have HO := Lib.hid (of_any 1 wr (by omega))
   go_wp2_with (fail)
   refine HO.out.mono ?_
   rintro e w1 ⟨rfl, hw1⟩
   have hP := HK.out;have p0 := hP.b0.below hw1 hP.b0.lt;have p1 := hP.b1.below hw1 hP.b1.lt;have p2 := hP.b2.below hw1 hP.b2.lt;have pb := hP.be.trans (hw1.mono hP.be.size);have hs2 := p2.lt;have hnew : Blk (w1.alloc (Obj.cells z16 27)) w1.heap.size 27 z16 := Blk.new w1 _ _;have hz1 : (Is (ofd 1)).toArray.size = 16 := rfl
   have k0 : RW w ((w1.alloc (Obj.cells z16 27)).setRow w1.heap.size (Is (ofd 1)).toArray) w1.heap.size a E (ofd 1) :=
    ⟨⟨(p0.alloc _).rowFar (by omega) _, (p1.alloc _).rowFar (by omega) _, (p2.alloc _).rowFar (by omega) _, below_setRow (pb.alloc pb.size _) (by omega) _⟩, hnew.row _, by omega, by rw [size_setRow, World.size_alloc]; omega⟩
   have HK2 := Lib.hid k0;clear HO HK hP p0 p1 p2 pb hw1 k0;generalize hgr : w1.heap.size = gr at *
   go_wp2_with (refine wpList_store_row rfl 27 _ _ rfl gr rfl (Is (ofd 1)).toArray rfl 27 _ hnew (size_num _ hz1) rfl (Is_one _) ?_)
   clear hgr hnew
   go_loopw [11] (fun i wq => ∃ j : Nat, j ≤ n + 1 ∧ i = .int .i64 ((j : Int) - 1) ∧ ∃ r, NB 65573 r (fpow x (bv (E.drop j))) ∧ RW w wq gr a E r) (fun i _ => (intOf i + 1).toNat)
   case atStart =>
    refine ⟨n + 1, by omega, by congr 1; omega, ofd 1, ?_, HK2.out⟩;rw [List.drop_eq_nil_of_le (by omega)];have h1 := (NB.of (v := 1) (by omega)).mono (C := 65573) (by omega);rw [fof_one] at h1;exact h1
   case round =>
    clear HK2;obtain ⟨j, hj, rfl, r, hr, hR⟩ := hrel
    by_cases hlt : 0 < j
    ·obtain ⟨i, rfl⟩ : ∃ i, j = i + 1 := ⟨j - 1, by omega⟩
     have e0 : (((i + 1 : Nat) : Int) - 1) = (i : Int) := by omega
     rw [e0];have hbd := bv_drop (l := E) (i := i) (by omega)
     have hf2 : fpow x (2 * bv (E.drop (i + 1))) = fpow x (bv (E.drop (i + 1))) * fpow x (bv (E.drop (i + 1))) := by rw [← fpow_add]; congr 1; omega
     have HM := fun w1 => Lib.hid (mul_f (hr.mono (by omega)) (hr.mono (by omega)) w1);rw [← hf2] at HM
     have hzr : (Is r).toArray.size = 16 := by rw [List.size_toArray, Is_len, hr.len]
     have hbr := hR.br;have c1 := (hR.pw.b2.cell i).trans (Bs_at (by omega));have HR := Lib.hid hR;have HB := Lib.hid hbd;clear hR hbd hf2
     go_wp2_with (refine wpList_load_row rfl 27 _ rfl gr rfl 27 (Is r).toArray (0, 0) _ hbr Tryd.underlying27 rfl (size_num _ hzr) ?_)
     refine (HM _).out.mono ?_
     rintro e w2 ⟨r1, hr1, rfl, hw2⟩
     have hz1 : (Is r1).toArray.size = 16 := by rw [List.size_toArray, Is_len, hr1.len]
     have hbr1 := HR.out.br.below hw2 HR.out.br.lt;have R1 := HR.out.next (r' := r1) hw2;have hbr2 := R1.br;have hba2 := R1.pw.b0;have c2 := (R1.pw.b2.cell i).trans (Bs_at (by omega));have HR1 := Lib.hid R1;clear HR HM c1 hbr R1 hw2;have hB := HB.out;clear HB
     by_cases hb : E[i]! = true
     ·rw [hb] at hB c2
      rw [if_pos rfl] at hB
      have hf3 : fpow x (bv (E.drop i)) = fpow x (2 * bv (E.drop (i + 1))) * x := by rw [hB, fpow_add, fpow_one]; grind only
      have HM := fun w1 => Lib.hid (mul_f (hr1.mono (by omega)) HA.out w1);rw [← hf3] at HM
      have hza : (Is a).toArray.size = 16 := by rw [List.size_toArray, Is_len, HA.out.len]
      clear hf3 hB hr1 hr
      go_wp2_with (first
       | (refine wpList_store_row rfl 27 _ _ rfl gr rfl (Is r1).toArray rfl 27 _ hbr1 (size_num _ hz1) (by rw [hz1, hzr]) (Is_one _) ?_)
       | (refine wpList_load_row rfl 27 _ rfl gr rfl 27 (Is r1).toArray (0, 0) _ hbr2 Tryd.underlying27 rfl (size_num _ hz1) ?_)
       | (refine wpList_load_row rfl 27 _ rfl w.heap.size rfl 27 (Is a).toArray (0, 0) _ hba2 Tryd.underlying27 rfl (size_num _ hza) ?_))
      refine (HM _).out.mono ?_
      rintro e w3 ⟨r2, hr2, rfl, hw3⟩
      have hz2 : (Is r2).toArray.size = 16 := by rw [List.size_toArray, Is_len, hr2.len]
      have hbr3 := HR1.out.br.below hw3 HR1.out.br.lt;have R2 := HR1.out.next (r' := r2) hw3;have HR2 := Lib.hid R2;clear R2 HR1 hw3 HM hbr1 hbr2 hba2
      go_wp2_with (refine wpList_store_row rfl 27 _ _ rfl gr rfl (Is r2).toArray rfl 27 _ hbr3 (size_num _ hz2) (by rw [hz2, hz1]) (Is_one _) ?_)
      go_roundw
      case rel => exact ⟨i, by omega, rfl, r2, hr2, HR2.out⟩
      case measure => simp [intOf]
     ·have hb : E[i]! = false := by simpa using hb
      rw [hb] at hB c2;rw [if_neg (by simp), Nat.zero_add] at hB;rw [← hB] at hr1
      go_wp2_with (refine wpList_store_row rfl 27 _ _ rfl gr rfl (Is r1).toArray rfl 27 _ hbr1 (size_num _ hz1) (by rw [hz1, hzr]) (Is_one _) ?_)
      go_roundw
      case rel => exact ⟨i, by omega, rfl, r1, hr1, HR1.out⟩
      case measure => simp [intOf]
    ·obtain rfl : j = 0 := by omega
     have hb0 : bv E = 2 ^ n - k := by omega
     rw [List.drop_zero, hb0] at hr
     have hzr : (Is r).toArray.size = 16 := by rw [List.size_toArray, Is_len, hr.len]
     have hbr := hR.br;have hb1 := hR.pw.b1;have HB := Lib.hid hR.pw.be;clear hR
     go_wp2_with (first
      | (refine wpList_load_row rfl 27 _ rfl gr rfl 27 (Is r).toArray (0, 0) _ hbr Tryd.underlying27 rfl (size_num _ hzr) ?_)
      | (refine wpList_store_row rfl 27 _ _ rfl (w.heap.size + 1) rfl (Is r).toArray rfl 27 _ hb1 (size_num _ hzr) (by rw [hzr]; rfl) (Is_one _) ?_))
     refine bodyPost_ret (results_cell_row rfl _ _ (w.heap.size + 1) 27 (Is r).toArray (0, 0) _ rfl (hb1.row _) Tryd.underlying27 rfl (size_num _ hzr)) rfl ⟨r, hr, rfl, ?_⟩;exact below_setRow HB.out (by omega) _
end Go.Proofs.YtiamoeifaahlfaaDoor
/-
  THE DOCUMENT'S OWN NUMBERS: Inv.
-/
namespace Go.Proofs.YtiamoeifaahlfaaDoor
open Go.RowKit Go.IntWalk Nums

theorem inv_e : 2 ^ 255 - 21 = p - 2 := by decide

set_option maxRecDepth 100000 in
set_option maxHeartbeats 1000000 in
theorem inv_f {a : List Int} {x : F} (ha : NB 1048576 a x) (w : World) :
  Calls Tryd.prog 43 #[.agg (Is a).toArray] w fun e w' => ∃ r, NB 65573 r (finv x) ∧ e = .returned (.agg (Is r).toArray) ∧ Below w.heap.size w w' := by
 have hza : (Is a).toArray.size = 16 := by rw [List.size_toArray, Is_len, ha.len]
 have h0 : ∀ u, Blk ((w.alloc (Obj.cells (Is a).toArray 27)).alloc u) w.heap.size 27 (Is a).toArray := fun u => (Blk.new w _ _).alloc u;have h1 : Blk ((w.alloc (Obj.cells (Is a).toArray 27)).alloc (Obj.cells z16 27)) (w.heap.size + 1) 27 z16 := heap_alloc2_new w _ _;have hbel : Below w.heap.size w ((w.alloc (Obj.cells (Is a).toArray 27)).alloc (Obj.cells z16 27)) := ((Below.refl _ _).alloc (Nat.le_refl _) _).alloc (by simp) _;have HK := Lib.hid (And.intro h1 hbel);have HC := fun w1 => Lib.hid (power_f ha 255 21 (by omega) (by decide) (by omega) w1);rw [inv_e] at HC;clear h1 hbel ha
 go_enter Tryd.func43, Tryd.ntmps43
 go_wp2_with (refine wpList_load_row rfl 27 _ rfl w.heap.size rfl 27 (Is a).toArray (0, 0) _ (h0 _) Tryd.underlying27 rfl (size_num _ hza) ?_)
 refine (HC _).out.mono ?_
 rintro e w1 ⟨r, hr, rfl, hw1⟩
 obtain ⟨h1, hbel⟩ := HK.out
 have hz : (Is r).toArray.size = 16 := by rw [List.size_toArray, Is_len, hr.len]
 have h2 := h1.below hw1 h1.lt;have HB := Lib.hid (hbel.trans (hw1.mono hbel.size));clear HC HK h0 h1 hbel hw1
 go_wp2_with (refine wpList_store_row rfl 27 _ _ rfl (w.heap.size + 1) rfl (Is r).toArray rfl 27 _ h2 (size_num _ hz) (by rw [hz]; rfl) (Is_one _) ?_)
 refine bodyPost_ret (results_cell_row rfl _ _ (w.heap.size + 1) 27 (Is r).toArray (0, 0) _ rfl (h2.row _) Tryd.underlying27 rfl (size_num _ hz)) rfl ⟨r, hr, rfl, ?_⟩;exact below_setRow HB.out (by omega) _

end Go.Proofs.YtiamoeifaahlfaaDoor
/-
TWO ROWS OF NUMBERS IN BLOCKS OF THE CALL'S OWN.
THE DOCUMENT'S OWN NUMBERS: Good.
-/
namespace Go.Proofs.YtiamoeifaahlfaaDoor
open Go.RowKit Go.IntWalk Nums

structure SW (w wr : World) (a b : List Int) : Prop where
  b0 : Blk wr w.heap.size 27 (Is a).toArray
  b1 : Blk wr (w.heap.size + 1) 27 (Is b).toArray
  be : Below w.heap.size w wr
theorem SW.step {w wr w1 : World} {a b : List Int} (h : SW w wr a b) (hw : Below wr.heap.size wr w1) : SW w w1 a b :=
 ⟨h.b0.below hw h.b0.lt, h.b1.below hw h.b1.lt, h.be.trans (hw.mono h.be.size)⟩

end Go.Proofs.YtiamoeifaahlfaaDoor

namespace Go.Proofs.YtiamoeifaahlfaaDoor
open Go.RowKit Go.IntWalk Nums

structure GW (w wr : World) (b : List UInt8) : Prop where
  b0 : Blk wr w.heap.size 22 (By b).toArray
  be : Below w.heap.size w wr
theorem GW.step {w wr w1 : World} {b : List UInt8} (h : GW w wr b) (hw : Below wr.heap.size wr w1) : GW w w1 b :=
 ⟨h.b0.below hw h.b0.lt, h.be.trans (hw.mono h.be.size)⟩

def isGood (b : List UInt8) : Bool := decide ((b[31]!).toNat < 128) && decide (enc (fof (le b % 57896044618658097711785492504343953926634992332820282019728792003956564819968)) = b)

set_option maxRecDepth 100000 in
set_option maxHeartbeats 2000000 in
theorem good_f (b : List UInt8) (hl : b.length = 32) (w : World) :
  Calls Tryd.prog 73 #[.agg (By b).toArray] w fun e w' => e = .returned (.bool (isGood b)) ∧ Below w.heap.size w w' := by
 have h0 : Blk (w.alloc (Obj.cells (By b).toArray 22)).drew w.heap.size 22 (By b).toArray := Blk.new w _ _;have hbel : Below w.heap.size w (w.alloc (Obj.cells (By b).toArray 22)).drew := ((Below.refl _ _).alloc (Nat.le_refl _) _).drew;have HW : Hid (GW w _ b) := Lib.hid ⟨h0, hbel⟩;have HL := fun w1 => Lib.hid (load_any b w1 hl);have HP := fun w1 => Lib.hid (pack_f ((load_f hl).mono (by omega)) w1);have hE := fun w1 => equal32 (enc (fof (le b % 57896044618658097711785492504343953926634992332820282019728792003956564819968))) b (enc_len _) hl w1;have hG : isGood b = (decide ((b[31]!).toNat < 128) && decide (enc (fof (le b % 57896044618658097711785492504343953926634992332820282019728792003956564819968)) = b)) := rfl
 have hz : (By b).toArray.size = 32 := by rw [List.size_toArray, By_len, hl]
 have hc : ∀ w1, GW w w1 b → w1.cell? ⟨w.heap.size, 31, none⟩ = some (.int .u8 ((b[31]!).toNat : Int)) := fun w1 hw1 => (hw1.b0.cell 31).trans (By_get (by omega));clear h0 hbel;generalize isGood b = q at *;generalize enc (fof (le b % 57896044618658097711785492504343953926634992332820282019728792003956564819968)) = u at *;generalize (b[31]!).toNat = x at *
 go_enter Tryd.func73, Tryd.ntmps73
 go_wp2
 refine wp_region_quiet_C (fun w' => GW w w' b) (by kernel_rfl) (by kernel_rfl) HW.out ?_;refine wpQuiet_step (fun K hK => ?_)
 go_simp
 refine ⟨_, fun _ _ => rfl, hK _ ?_⟩;clear hK K;refine q_go rfl (v := .int .u8 (x : Int)) (fun w1 hw1 => by have hc := hc w1 hw1; go_simp) ?_
 by_cases hx : x < 128
 ·have hx2 : (x : Int) < 128 := by omega
  refine wpQuiet_step (fun K hK => ?_)
  go_simp
  refine ⟨_, fun _ _ => rfl, hK _ ?_⟩;clear hK K;refine wpQuiet_step (fun K hK => ?_)
  go_simp
  refine ⟨_, fun _ _ => rfl, hK _ ?_⟩;clear hK K;refine q_want_row (by rfl) 22 _ rfl w.heap.size rfl 22 (By b).toArray (0, 0) _ (fun w1 hw1 => hw1.b0) Tryd.underlying22 rfl (size_hash _ hz) ?_;refine wpQuiet_step (fun K hK => ?_)
  go_simp
  apply Exists.intro
  refine ⟨fun w1 hw1 => (HL w1).out.mono fun e w2 ⟨he, hw2⟩ => ⟨he, hw1.step hw2⟩, hK _ ?_⟩;clear hK K;refine wpQuiet_step (fun K hK => ?_)
  go_simp
  apply Exists.intro
  refine ⟨fun w1 hw1 => (HP w1).out.mono fun e w2 ⟨he, hw2⟩ => ⟨he, hw1.step hw2⟩, hK _ ?_⟩;clear hK K;refine q_want_row (by rfl) 22 _ rfl w.heap.size rfl 22 (By b).toArray (0, 0) _ (fun w1 hw1 => hw1.b0) Tryd.underlying22 rfl (size_hash _ hz) ?_;refine wpQuiet_step (fun K hK => ?_)
  go_simp
  refine ⟨_, fun _ _ => rfl, hK _ ?_⟩;clear hK K;refine wpQuiet_step (fun K hK => ?_)
  go_simp
  refine ⟨_, fun _ _ => rfl, hK _ ?_⟩;clear hK K;refine wpQuiet_step (fun K hK => ?_)
  go_simp
  refine ⟨_, fun _ _ => rfl, hK _ ?_⟩;clear hK K;refine wpQuiet_nil ?_
  intro w1 hw1
  go_wp2
  go_ret
  refine ⟨?_, hw1.be⟩
  simp [hG, hx]
 ·have hx2 : ¬ (x : Int) < 128 := by omega
  refine wpQuiet_step (fun K hK => ?_)
  go_simp
  refine ⟨_, fun _ _ => rfl, hK _ ?_⟩;clear hK K;refine wpQuiet_step (fun K hK => ?_)
  go_simp
  refine ⟨_, fun _ _ => rfl, hK _ ?_⟩;clear hK K;refine q_skip (by rfl) ?_;refine q_skip (by rfl) ?_;refine q_skip (by rfl) ?_;refine q_skip (by rfl) ?_;refine q_skip (by rfl) ?_;refine wpQuiet_step (fun K hK => ?_)
  go_simp
  refine ⟨_, fun _ _ => rfl, hK _ ?_⟩;clear hK K;refine wpQuiet_step (fun K hK => ?_)
  go_simp
  refine ⟨_, fun _ _ => rfl, hK _ ?_⟩;clear hK K;refine wpQuiet_nil ?_
  intro w1 hw1
  go_wp2
  go_ret
  refine ⟨?_, hw1.be⟩
  simp
end Go.Proofs.YtiamoeifaahlfaaDoor
/-
  THE FIELD'S NUMBERS: New: which bytes are a number.
-/
namespace Go.Proofs.YtiamoeifaahlfaaDoor
open Go.RowKit Go.IntWalk Nums

/-! ### Eight words of bytes -/
theorem wd_more (T y q r : Nat) (hr : r < 8) (hT : T < 256 ^ (8 * q + r)) (hy : y < 256) (j : Nat) :
  wd (T + 256 ^ (8 * q + r) * y) j = if j = q then wd T j + 256 ^ r * y else wd T j := by
 have hp : (256 : Nat) ^ (8 * q + r) = 18446744073709551616 ^ q * 256 ^ r := by rw [Nat.pow_add, Nat.pow_mul]
 have hr8 : (256 : Nat) ^ (r + 1) ≤ 18446744073709551616 := Nat.pow_le_pow_right (by omega) (show r + 1 ≤ 8 by omega);have hr9 : (256 : Nat) ^ (r + 1) = 256 ^ r * 256 := Nat.pow_succ ..;have hm : (256 : Nat) ^ r * y ≤ 256 ^ r * 255 := Nat.mul_le_mul (Nat.le_refl _) (by omega);rw [hp] at hT ⊢;have hPq : 0 < (18446744073709551616 : Nat) ^ q := Nat.pow_pos (by omega)
 unfold wd
 by_cases hjq : j = q
 ·subst hjq
  rw [if_pos rfl, Nat.mul_assoc, Nat.add_mul_div_left _ _ hPq];have hz : T / 18446744073709551616 ^ j < 256 ^ r := Nat.div_lt_of_lt_mul hT;rw [Nat.mod_eq_of_lt (by omega), Nat.mod_eq_of_lt (by omega)]
 ·rw [if_neg hjq]
  rcases Nat.lt_or_gt_of_ne hjq with hlt | hgt
  ·obtain ⟨d, rfl⟩ : ∃ d, q = j + 1 + d := ⟨q - j - 1, by omega⟩
   have e : (18446744073709551616 : Nat) ^ (j + 1 + d) * 256 ^ r * y = 18446744073709551616 ^ j * (18446744073709551616 * (18446744073709551616 ^ d * 256 ^ r * y)) := by
    rw [Nat.pow_add, Nat.pow_succ];simp only [Nat.mul_assoc]
   rw [e, Nat.add_mul_div_left _ _ (Nat.pow_pos (by omega)), Nat.add_mul_mod_self_left]
  ·obtain ⟨d, rfl⟩ : ∃ d, j = q + 1 + d := ⟨j - q - 1, by omega⟩
   have e : (18446744073709551616 : Nat) ^ (q + 1 + d) = 18446744073709551616 ^ q * 18446744073709551616 * 18446744073709551616 ^ d := by rw [Nat.pow_add, Nat.pow_succ]
   have hd : 0 < (18446744073709551616 : Nat) ^ d := Nat.pow_pos (by omega)
   have hb : 18446744073709551616 ^ q * 18446744073709551616 ≤ (18446744073709551616 : Nat) ^ (q + 1 + d) := by
    rw [e];exact Nat.le_mul_of_pos_right _ hd
   have h1 : 18446744073709551616 ^ q * 256 ^ r + 18446744073709551616 ^ q * 256 ^ r * y ≤ 18446744073709551616 ^ q * 18446744073709551616 := by
    rw [Nat.mul_assoc, ← Nat.mul_add];exact Nat.mul_le_mul (Nat.le_refl _) (by omega)
   rw [Nat.div_eq_of_lt (by omega), Nat.div_eq_of_lt (by omega)]

theorem le_take {b : List UInt8} {n : Nat} (h : n < b.length) : le (b.take (n + 1)) = le (b.take n) + 256 ^ n * (b[n]!).toNat := by
 rw [List.take_succ_eq_append_getElem h, le_append, List.length_take, Nat.min_eq_left (by omega), getElem!_pos b n h]
 show le (b.take n) + 256 ^ n * ((b[n]).toNat + 256 * 0) = _
 rw [Nat.mul_zero, Nat.add_zero]

def wds (b : List UInt8) (n : Nat) : List Nat := (List.range 5).map fun j => wd (le (b.take n)) j
theorem wds_len (b : List UInt8) (n : Nat) : (wds b n).length = 5 := by simp [wds]
theorem wds_get (b : List UInt8) (n : Nat) {j : Nat} (h : j < 5) : (wds b n)[j]! = wd (le (b.take n)) j := by
 rw [getElem!_pos _ j (by rw [wds_len]; exact h)]
 simp [wds]
theorem wds_zero (b : List UInt8) : wds b 0 = [0, 0, 0, 0, 0] := by
 have e : ∀ j, wd (le (b.take 0)) j = 0 := fun j => by
  show 0 / _ % _ = 0
  rw [Nat.zero_div]
 simp only [wds, e]
 rfl
theorem wd_small {T n : Nat} (hT : T < 256 ^ n) : wd T (n / 8) < 2 ^ (8 * (n % 8)) := by
 have e : (256 : Nat) ^ n = 18446744073709551616 ^ (n / 8) * 2 ^ (8 * (n % 8)) := by
  have h : (256 : Nat) ^ n = 256 ^ (8 * (n / 8) + n % 8) := by congr 1; omega
  rw [h, Nat.pow_add, Nat.pow_mul, Nat.pow_mul]
 rw [e] at hT;have hz := Nat.div_lt_of_lt_mul hT;exact Nat.lt_of_le_of_lt (Nat.mod_le _ _) hz
theorem wds_set {b : List UInt8} {n : Nat} (h : n < b.length) : (wds b n).set (n / 8) (wd (le (b.take n)) (n / 8) + 2 ^ (8 * (n % 8)) * (b[n]!).toNat) = wds b (n + 1) := by
 have hT := le_lt (b.take n);rw [List.length_take, Nat.min_eq_left (by omega)] at hT
 have e2 : (256 : Nat) ^ n = 256 ^ (8 * (n / 8) + n % 8) := by congr 1; omega
 have e3 : (2 : Nat) ^ (8 * (n % 8)) = 256 ^ (n % 8) := by rw [Nat.pow_mul]
 have hy := (b[n]!).toNat_lt
 apply List.ext_getElem (by simp [wds])
 intro j h1 h2
 have hj : j < 5 := by simpa [wds] using h2
 rw [List.getElem_set];simp only [wds, List.getElem_map, List.getElem_range];rw [le_take h, e2, wd_more _ _ _ _ (by omega) (by rw [← e2]; exact hT) hy]
 by_cases hjq : n / 8 = j
 ·subst hjq
  rw [if_pos rfl, if_pos rfl, e3]
 ·rw [if_neg hjq, if_neg (fun e => hjq e.symm)]

theorem or_byte {old y m : Nat} (hm : m ≤ 56) (hold : old < 2 ^ m) (hy : y < 256) :
  bits .or .u64 (old : Int) (IntKind.u64.wrap ((y : Int) * 2 ^ m)) = ((old + 2 ^ m * y : Nat) : Int) := by
 have hp : (2 : Nat) ^ m ≤ 2 ^ 56 := Nat.pow_le_pow_right (by omega) hm
 have h56 : (2 : Nat) ^ 56 = 72057594037927936 := by decide
 have hx : y * 2 ^ m ≤ 255 * 2 ^ 56 := Nat.mul_le_mul (by omega) hp
 have f2 : IntKind.u64.wrap ((y : Int) * 2 ^ m) = ((y * 2 ^ m : Nat) : Int) := by
  have : ((y : Int) * 2 ^ m) = ((y * 2 ^ m : Nat) : Int) := by simp
  rw [this, wrapN _ (by omega)]
 rw [f2, u64_or_nat _ _ (by omega) (by omega), Nat.or_comm, nat_join m _ _ (Nat.mul_mod_left ..) hold, Nat.add_comm, Nat.mul_comm]

/-! ### Five limbs of words -/
def lbs (L : Nat) : List Nat := (List.range 5).map fun i => L / 2251799813685248 ^ i % 2251799813685248
theorem lbs_mx (L : Nat) : lbs L = mx (fun i => L / 2251799813685248 ^ i % 2251799813685248) [0, 0, 0, 0, 0] 5 := rfl
theorem lbs_eb (L : Nat) : EB (lbs L) (fof (L % 57896044618658097711785492504343953926634992332820282019728792003956564819968)) := by
 refine EB.mk5 (a0 := L / 2251799813685248 ^ 0 % 2251799813685248) (a1 := L / 2251799813685248 ^ 1 % 2251799813685248) (a2 := L / 2251799813685248 ^ 2 % 2251799813685248) (a3 := L / 2251799813685248 ^ 3 % 2251799813685248) (a4 := L / 2251799813685248 ^ 4 % 2251799813685248) (by omega) (by omega) (by omega) (by omega) (by omega) ?_
 congr 1
 rw [lv5];simp only [Nat.reducePow]
 omega

theorem lb_words {L : Nat} (hL : L < 115792089237316195423570985008687907853269984665640564039457584007913129639936) {i : Nat} (hi : i < 5) :
  bits .and .u64 (bits .or .u64 ((wd L (51 * i / 64) : Nat) / 2 ^ (51 * i % 64) : Int) (IntKind.u64.wrap ((wd L (51 * i / 64 + 1) : Nat) * 2 ^ (64 - 51 * i % 64) : Int))) 2251799813685247 = ((L / 2251799813685248 ^ i % 2251799813685248 : Nat) : Int) := by
 have key : ∀ (k x y r t R : Nat), y * 2 ^ t % 18446744073709551616 % 2 ^ k = 0 → x / 2 ^ r < 2 ^ k → x / 2 ^ r < 18446744073709551616 → y * 2 ^ t % 18446744073709551616 + x / 2 ^ r < 18446744073709551616 → (y * 2 ^ t % 18446744073709551616 + x / 2 ^ r) % 2251799813685248 = R →
   bits .and .u64 (bits .or .u64 ((x : Nat) / 2 ^ r : Int) (IntKind.u64.wrap ((y : Nat) * 2 ^ t : Int))) 2251799813685247 = (R : Int) := by
  intro k x y r t R e1 e2 e3 e5 e4
  have f1 : ((x : Int) / 2 ^ r) = ((x / 2 ^ r : Nat) : Int) := by simp
  have f2 : IntKind.u64.wrap ((y : Int) * 2 ^ t) = ((y * 2 ^ t % 18446744073709551616 : Nat) : Int) := by
   rw [IntKind.wrap_u64]
   simp
  rw [f1, f2, u64_or_nat _ _ e3 (by omega), Nat.or_comm, nat_join k _ _ e1 e2, maskW _ e5, e4]
 have h5 : i = 0 ∨ i = 1 ∨ i = 2 ∨ i = 3 ∨ i = 4 := by omega
 unfold wd
 rcases h5 with rfl | rfl | rfl | rfl | rfl
 ·exact key 64 (L / 18446744073709551616 ^ 0 % 18446744073709551616) (L / 18446744073709551616 ^ 1 % 18446744073709551616) 0 64 _ (by omega) (by omega) (by omega) (by omega) (by simp only [Nat.reducePow]; omega)
 ·exact key 13 (L / 18446744073709551616 ^ 0 % 18446744073709551616) (L / 18446744073709551616 ^ 1 % 18446744073709551616) 51 13 _ (by omega) (by omega) (by omega) (by omega) (by simp only [Nat.reducePow]; omega)
 ·exact key 26 (L / 18446744073709551616 ^ 1 % 18446744073709551616) (L / 18446744073709551616 ^ 2 % 18446744073709551616) 38 26 _ (by omega) (by omega) (by omega) (by omega) (by simp only [Nat.reducePow]; omega)
 ·exact key 39 (L / 18446744073709551616 ^ 2 % 18446744073709551616) (L / 18446744073709551616 ^ 3 % 18446744073709551616) 25 39 _ (by omega) (by omega) (by omega) (by omega) (by simp only [Nat.reducePow]; omega)
 ·exact key 52 (L / 18446744073709551616 ^ 3 % 18446744073709551616) (L / 18446744073709551616 ^ 4 % 18446744073709551616) 12 52 _ (by omega) (by omega) (by omega) (by omega) (by simp only [Nat.reducePow]; omega)

structure NSt (w wr : World) (b : List UInt8) (n : Nat) : Prop where
  b0 : Blk wr w.heap.size 22 (By b).toArray
  b1 : Blk wr (w.heap.size + 1) 62 z5
  b2 : Blk wr (w.heap.size + 1 + 1) 60 (Us (wds b n)).toArray
  be : Below w.heap.size w wr
set_option maxRecDepth 100000 in
set_option maxHeartbeats 2000000 in
theorem new_f {b : List UInt8} (hbl : b.length = 32) (w : World) :
  Calls Tryd.prog 58 #[.agg (By b).toArray] w fun e w' =>
   ((isGood b = true ∧ ∃ r, EB r (fof (le b % 57896044618658097711785492504343953926634992332820282019728792003956564819968)) ∧ e = .returned (.tuple #[.agg (Us r).toArray, .bool true])) ∨ (isGood b = false ∧ e = .returned (.tuple #[.agg z5, .bool false]))) ∧ Below w.heap.size w w' := by
 have hG : isGood b = decide (enc (fof (le b % 57896044618658097711785492504343953926634992332820282019728792003956564819968)) = b) := by
  unfold isGood
  by_cases he : enc (fof (le b % 57896044618658097711785492504343953926634992332820282019728792003956564819968)) = b
  ·have h128 : (b[31]!).toNat < 128 := by
    have := enc_top (fof (le b % 57896044618658097711785492504343953926634992332820282019728792003956564819968))
    rwa [he] at this
   rw [decide_eq_true h128, Bool.true_and]
  ·rw [decide_eq_false he, Bool.and_false]
 rw [hG];clear hG;have hE := lbs_eb (le b);generalize fof (le b % 57896044618658097711785492504343953926634992332820282019728792003956564819968) = z at *;have hq := fun w1 => equal32 (enc z) b (enc_len _) hbl w1;generalize decide (enc z = b) = ok at *;have HH := fun w1 => hash_f hE w1;have hez := enc_len z;generalize enc z = ez at *;have HE := Lib.hid (And.intro hE (And.intro hq HH));clear hE hq HH
 go_enter Tryd.func58, Tryd.ntmps58
 go_wp2
 go_loopw [9] (fun i wr => ∃ n : Nat, n ≤ 32 ∧ i = .int .i64 n ∧ NSt w wr b n) (fun i _ => 32 - (intOf i).toNat)
 case atStart =>
  refine ⟨0, by omega, rfl, blk3_0 w _ _ _ _, blk3_1 w _ _ _ _, ?_, (((Below.refl _ _).alloc (Nat.le_refl _) _).alloc (by simp) _).alloc (by simp; omega) _⟩;rw [wds_zero];exact blk3_2 w _ _ _ _
 case round =>
  obtain ⟨n, hn, rfl, h0, h1, h2, hbel⟩ := hrel
  by_cases hlt : n < 32
  ·have hT := le_lt (b.take n)
   rw [List.length_take, Nat.min_eq_left (by omega)] at hT;have hsm := wd_small hT;have hN := wds_set (b := b) (n := n) (by omega);have c0 := (h2.drew.cell (n / 8)).trans (Us_at (by rw [wds_len]; omega));rw [wds_get b n (by omega)] at c0;have c1 := (h0.drew.cell n).trans (By_get (by omega));have hf := h2.drew.free (n / 8);have hy := (b[n]!).toNat_lt;have hor := or_byte (m := 8 * (n % 8)) (by omega) hsm hy;generalize (b[n]!).toNat = y at *;generalize wd (le (b.take n)) (n / 8) = old at *;have q1 : ((n : Nat) : Int).tdiv 8 = ((n / 8 : Nat) : Int) := rfl;have q2 : ((n : Nat) : Int).tmod 8 = ((n % 8 : Nat) : Int) := rfl
   have q3 : IntKind.i64.wrap (((n % 8 : Nat) : Int) * 8) = ((8 * (n % 8) : Nat) : Int) := by rw [i64_left, wrap64_in _ (by omega)]; omega
   have q4 : IntKind.u64.wrap (y : Int) = (y : Int) := wrapN y (by omega)
   have q5 : IntKind.i64.wrap ((n / 8 : Nat) : Int) = ((n / 8 : Nat) : Int) := by rw [i64_left, wrap64_in _ (by omega)]
   have q6 : IntKind.i64.wrap ((n % 8 : Nat) : Int) = ((n % 8 : Nat) : Int) := by rw [i64_left, wrap64_in _ (by omega)]
   have g1 : ((n / 8 : Nat) : Int) < 5 := by omega
   have g2 : ((8 * (n % 8) : Nat) : Int) ≤ 64 := by omega
   have g3 : (0 : Int) ≤ (n : Int) := by omega
   generalize old + 2 ^ (8 * (n % 8)) * y = nw at *;generalize 8 * (n % 8) = m at *;generalize hq : n / 8 = q at *;generalize n % 8 = r at *;have HK := Lib.hid (And.intro h0 (And.intro h1 (And.intro h2 (And.intro hbel hN))));clear h0 h1 h2 hbel hN hT hsm hq hy
   go_wp2
   go_still_tail 14, (by kernel_rfl)
   go_wp2
   go_roundw
   case rel =>
    obtain ⟨h0, h1, h2, hbel, hN⟩ := HK.out;have h4 := h2.set q (.int .u64 (nw : Int));rw [Us_set, hN] at h4;exact ⟨n + 1, by omega, by go_num, h0.far (by simp; omega) _, h1.far (by simp) _, h4, (hbel.setCell (by simp; omega) _).drew⟩
   case measure => simp [intOf]; omega
  ·obtain rfl : n = 32 := by omega
   have hT : b.take 32 = b := List.take_of_length_le (by omega);have hL := le_lt b;rw [hbl] at hL
   have hW : ∀ j, j < 5 → (wds b 32)[j]! = wd (le b) j := fun j hj => by rw [wds_get b 32 hj, hT]
   have hwl := wds_len b 32;have hbn := fun o => Blk.new wr 62 o;have k0 : ∀ o, Blk (wr.alloc o) w.heap.size 22 (By b).toArray := fun o => h0.alloc o;have k1 : ∀ o, Blk (wr.alloc o) (w.heap.size + 1) 62 z5 := fun o => h1.alloc o;have k2 : ∀ o, Blk (wr.alloc o) (w.heap.size + 1 + 1) 60 (Us (wds b 32)).toArray := fun o => h2.alloc o;have kb : ∀ o, Below w.heap.size w (wr.alloc o) := fun o => hbel.alloc hbel.size o;have hlt2 := h2.lt;have HK := Lib.hid (And.intro k0 (And.intro k1 (And.intro k2 (And.intro kb hbn))));clear h0 h1 h2 hbel k0 k1 k2 kb hbn hlt hn;generalize hg : wr.heap.size = g at *;generalize wds b 32 = W at *
   go_wp2
   generalize ((32 : Nat) : Int) = s32
   go_loopw [27] (fun i wq => ∃ k : Nat, k ≤ 5 ∧ i = .int .i64 k ∧ Blk wq w.heap.size 22 (By b).toArray ∧ Blk wq (w.heap.size + 1) 62 z5 ∧ Blk wq (w.heap.size + 1 + 1) 60 (Us W).toArray ∧ Blk wq g 62 (Us (mx (fun i => le b / 2251799813685248 ^ i % 2251799813685248) [0, 0, 0, 0, 0] k)).toArray ∧ Below w.heap.size w wq) (fun i _ => 5 - (intOf i).toNat)
   case atStart =>
    obtain ⟨k0, k1, k2, kb, hbn⟩ := HK.out;exact ⟨0, by omega, rfl, k0 _, k1 _, k2 _, hbn _, kb _⟩
   case round =>
    clear HK hg;obtain ⟨k, hk, rfl, h0, h1, h2, h3, hbel⟩ := hrel
    by_cases hlt : k < 5
    ·have hN := mx_set (fun i => le b / 2251799813685248 ^ i % 2251799813685248) [0, 0, 0, 0, 0] (k := k)
     have hlb := lb_words hL hlt;have c0 := (h2.drew.cell (51 * k / 64)).trans (Us_at (by omega));have c1 := (h2.drew.cell (51 * k / 64 + 1)).trans (Us_at (by omega));rw [hW _ (by omega)] at c0 c1;have hc := (h3.drew.cell k).trans (Us_at (by rw [mx_len]; omega));have hf := h3.drew.free k
     have qA : IntKind.i64.wrap (51 * (k : Int)) = ((51 * k : Nat) : Int) := by rw [i64_left, wrap64_in _ (by omega)]; omega
     have qd : ((51 * k : Nat) : Int).tdiv 64 = ((51 * k / 64 : Nat) : Int) := rfl;have qm : ((51 * k : Nat) : Int).tmod 64 = ((51 * k % 64 : Nat) : Int) := rfl
     have qs : IntKind.i64.wrap (((51 * k / 64 : Nat) : Int) + 1) = ((51 * k / 64 + 1 : Nat) : Int) := by rw [i64_left, wrap64_in _ (by omega)]; omega
     have qt : IntKind.i64.wrap (64 - ((51 * k % 64 : Nat) : Int)) = ((64 - 51 * k % 64 : Nat) : Int) := by rw [i64_left, wrap64_in _ (by omega)]; omega
     have q5 : IntKind.i64.wrap ((51 * k / 64 : Nat) : Int) = ((51 * k / 64 : Nat) : Int) := by rw [i64_left, wrap64_in _ (by omega)]
     have q6 : IntKind.i64.wrap ((51 * k % 64 : Nat) : Int) = ((51 * k % 64 : Nat) : Int) := by rw [i64_left, wrap64_in _ (by omega)]
     have g1 : ((51 * k / 64 + 1 : Nat) : Int) < 5 := by omega
     have g2 : ((51 * k / 64 : Nat) : Int) < 5 := by omega
     have g3 : ((51 * k % 64 : Nat) : Int) ≤ 64 := by omega
     have g4 : ((64 - 51 * k % 64 : Nat) : Int) ≤ 64 := by omega
     have g5 : (0 : Int) ≤ (k : Int) := by omega
     have HK := Lib.hid (And.intro h0 (And.intro h1 (And.intro h2 (And.intro h3 (And.intro hbel (And.intro hN hL))))));have HW := Lib.hid hW;clear h0 h1 h2 h3 hbel hN hL hW;generalize le b / 2251799813685248 ^ k % 2251799813685248 = nw at *;generalize wd (le b) (51 * k / 64) = u at *;generalize wd (le b) (51 * k / 64 + 1) = v at *;generalize 64 - 51 * k % 64 = t at *;generalize 51 * k % 64 = r at *;generalize 51 * k / 64 + 1 = q1 at *;generalize 51 * k / 64 = q at *;generalize 51 * k = A at *
     go_wp2
     go_still_tail 21, (by kernel_rfl)
     go_wp2
     go_roundw
     case rel =>
      obtain ⟨h0, h1, h2, h3, hbel, hN, hL⟩ := HK.out;have h4 := h3.set k (.int .u64 (nw : Int));rw [Us_set, hN] at h4;exact ⟨k + 1, by omega, by go_num, h0.far (by simp; omega) _, h1.far (by simp; omega) _, h2.far (by simp; omega) _, h4, (hbel.setCell (by simp; omega) _).drew⟩
     case measure => simp [intOf]; omega
    ·obtain rfl : k = 5 := by omega
     rw [← lbs_mx] at h3;obtain ⟨hE, hq, HH⟩ := HE.out
     have hzb : (By b).toArray.size = 32 := by rw [List.size_toArray, By_len, hbl]
     have hzl := len_us hE.len;clear hW hwl hT hL HE h2;generalize lbs (le b) = l at *;have HK2 := Lib.hid (And.intro hE hbel);clear hE hbel
     go_wp2
     refine reg_q (by kernel_rfl) (tail_ok (by kernel_rfl)) (fun _ _ d _ _ h => by cases d <;> exact h) ?_;refine b_el g (by simpa [Us_len] using hzl) _ rfl rfl rfl (fun _ h => h.blk h3) ?_; simp only [Act.put, List.setIfInBounds_toArray, List.set_cons_zero, List.set_cons_succ];refine b_one rfl own_hash (fun w1 => HH w1) rfl rfl ?_; simp only [Act.put, List.setIfInBounds_toArray, List.set_cons_zero, List.set_cons_succ];refine b_mid rfl 22 _ rfl w.heap.size 0 rfl (By b) _ (fun _ h => (h.blk h0).range) Tryd.underlying22 rfl (size_hash (By b).toArray hzb) ?_; simp only [Act.put, List.setIfInBounds_toArray, List.set_cons_zero, List.set_cons_succ];refine b_neq (By ez).toArray (By b).toArray rfl rfl rfl rfl (by kernel_rfl) hq ?_; simp only [Act.put, List.setIfInBounds_toArray, List.set_cons_zero, List.set_cons_succ];refine wpB_nil ?_
     intro w1 hw1
     have j1 := hw1.blk h1;have j3 := hw1.blk h3;have hsz := hw1.size;have HU := Lib.hid hw1;clear h0 h1 h3 HH hq hw1
     cases ok with
     | true =>
      go_wp2_with (first
       | (refine wpList_load_row rfl 62 _ rfl g rfl 62 (Us l).toArray (0, 0) _ j3 Tryd.underlying62 rfl (size_el _ hzl) ?_)
       | (refine wpList_store_row rfl 62 _ _ rfl (w.heap.size + 1) rfl (Us l).toArray rfl 62 _ j1 (size_el _ hzl) (by rw [hzl]; rfl) (Us_one _) ?_))
      obtain ⟨hE, hbel⟩ := HK2.out;refine bodyPost_ret (results_cell_tmp rfl _ _ (w.heap.size + 1) 62 (Us l).toArray (0, 0) _ (.bool true) rfl rfl (j1.row _) Tryd.underlying62 rfl (size_el _ hzl)) rfl ⟨⟨l, hE, rfl⟩, ?_⟩;exact below_setRow (below_up hbel HU.out) (by omega) _
     | false =>
      go_wp2_with (first
       | (refine wpl_build [] z5 rfl rfl rfl built_zero ?_)
       | (refine wpList_store_row rfl 62 _ _ rfl (w.heap.size + 1) rfl z5 rfl 62 _ j1 (size_el _ rfl) rfl (Us_one _) ?_))
      obtain ⟨hE, hbel⟩ := HK2.out;refine bodyPost_ret (results_cell_tmp rfl _ _ (w.heap.size + 1) 62 z5 (0, 0) _ (.bool false) rfl rfl (j1.row _) Tryd.underlying62 rfl (size_el _ rfl)) rfl ⟨rfl, ?_⟩;exact below_setRow (below_up hbel HU.out) (by omega) _
end Go.Proofs.YtiamoeifaahlfaaDoor
/-
  THE PROGRAM'S POINTS: at, factor, Base.
-/
namespace Go.Proofs.YtiamoeifaahlfaaDoor
open Go.RowKit Go.IntWalk Nums

theorem small1_f (w : World) : Calls Tryd.prog 59 #[.int .u64 1] w fun e w' => ∃ r, EB r 1 ∧ e = .returned (.agg (Us r).toArray) ∧ Below w.heap.size w w' := by
 have h := small_f 1 (by omega) w;rw [fof_one] at h;exact h
def facB : List UInt8 := [163, 120, 89, 19, 202, 77, 235, 117, 171, 216, 65, 65, 77, 10, 112, 0, 152, 232, 121, 119, 121, 64, 199, 140, 115, 254, 111, 43, 238, 108, 3, 82]
def bxB : List UInt8 := [26, 213, 37, 143, 96, 45, 86, 201, 178, 167, 37, 149, 96, 199, 44, 105, 92, 220, 214, 253, 49, 226, 164, 192, 254, 83, 110, 205, 211, 54, 105, 33]
def byB : List UInt8 := [88, 102, 102, 102, 102, 102, 102, 102, 102, 102, 102, 102, 102, 102, 102, 102, 102, 102, 102, 102, 102, 102, 102, 102, 102, 102, 102, 102, 102, 102, 102, 102]
theorem new_const {b : List UInt8} {x : F} (hb : b.length = 32) (hg : isGood b = true) (hx : fof (le b % 57896044618658097711785492504343953926634992332820282019728792003956564819968) = x) (w : World) :
  Calls Tryd.prog 58 #[.agg (By b).toArray] w fun e w' => ∃ r, EB r x ∧ e = .returned (.tuple #[.agg (Us r).toArray, .bool true]) ∧ Below w.heap.size w w' :=
 (new_f hb w).mono fun e w' ⟨h, hw⟩ => by
  rcases h with ⟨_, r, hr, he⟩ | ⟨h, _⟩
  ·exact ⟨r, hx ▸ hr, he, hw⟩
  ·rw [hg] at h
   cases h
theorem good_fac : isGood facB = true := by decide +kernel
theorem good_bx : isGood bxB = true := by decide +kernel
theorem good_by : isGood byB = true := by decide +kernel
theorem le_fac : fof (le facB % 57896044618658097711785492504343953926634992332820282019728792003956564819968) = dd := fof_eq (by decide +kernel)
theorem le_bx : fof (le bxB % 57896044618658097711785492504343953926634992332820282019728792003956564819968) = fof bx := fof_eq (by decide +kernel)
theorem le_by : fof (le byB % 57896044618658097711785492504343953926634992332820282019728792003956564819968) = fof bY := fof_eq (by decide +kernel)

set_option maxRecDepth 100000 in
set_option maxHeartbeats 1000000 in
theorem at_f {X Y : List Nat} {x y : F} (hX : EB X x) (hY : EB Y y) (hon : Ed.On dd ⟨x, y⟩) (w : World) :
  Calls Tryd.prog 66 #[.agg (Us X).toArray, .agg (Us Y).toArray] w fun e w' => ∃ r, QB r ⟨x, y⟩ ∧ e = .returned (.agg (Us r).toArray) ∧ Below w.heap.size w w' := by
 refine calls_F (vs := [.agg (Us X).toArray, .agg (Us Y).toArray]) 12 Tryd.func66 rfl (by rw [Tryd.ntmps66]; rfl) ?_;refine c_seq fun K hK => ?_;refine c_lit ?_;refine l_boxA ((Us X).toArray) rfl rfl rfl rfl rfl fun W1 g1 hw1 hg1 b1 => ?_;clear hg1;have hU : Up w _ := hw1;refine l_boxA ((Us Y).toArray) rfl rfl rfl rfl rfl fun W2 g2 hw2 hg2 b2 => ?_;clear hg2;replace b1 := b1.later hw2;replace hU := hU.step hw2;refine l_allocA ((Us pz).toArray) rfl rfl rfl rfl (by kernel_rfl) fun W3 g3 hw3 hg3 b3 => ?_
 have q3 : w.heap.size ≤ g3 := by rw [hg3]; exact hU.size
 clear hg3;replace b1 := b1.later hw3;replace b2 := b2.later hw3;replace hU := hU.step hw3;refine l_nil ?_;refine hK _ _ ?_;clear hK K;refine c_seq fun K hK => ?_;refine c_t 7 (by decide) (by kernel_rfl) (tail_ok (by kernel_rfl)) (fun _ _ d _ _ h => by cases d <;> exact h) ?_;refine f_el g1 0 hX.len rfl rfl rfl rfl rfl (fun _ h1 => (h1.blk b1).range) ?_;refine f_el g2 0 hY.len rfl rfl rfl rfl rfl (fun _ h1 => (h1.blk b2).range) ?_;refine f_us #[.int .u64 1] (EB · 1) rfl rfl rfl own_small (fun w1 _ => small1_f w1) rfl rfl fun r7 v7 => ?_;refine f_el g1 0 hX.len rfl rfl rfl rfl rfl (fun _ h1 => (h1.blk b1).range) ?_;refine f_el g2 0 hY.len rfl rfl rfl rfl rfl (fun _ h1 => (h1.blk b2).range) ?_;refine f_us #[.agg (Us X).toArray, .agg (Us Y).toArray] (EB · (x * y)) rfl rfl rfl own_elmul (fun w1 h1 => elmul_f hX hY w1) rfl rfl fun r10 v10 => ?_;refine f_build [(0, .agg (Us X).toArray), (1, .agg (Us Y).toArray), (2, .agg (Us r7).toArray), (3, .agg (Us r10).toArray)] (Us (pc X Y r7 r10)).toArray rfl rfl rfl rfl rfl (builtP4 hX.len hY.len v7.len v10.len) ?_;refine f_set g3 _ ((Us (pc X Y r7 r10)).toArray) rfl rfl rfl rfl rfl b3 (size_P (pc_len hX.len hY.len v7.len v10.len)) ((us_size pz_len).trans (us_size (pc_len hX.len hY.len v7.len v10.len)).symm) (Us_oneA _) fun w4 hw4 c4 => ?_;replace b3 := c4;replace hU := up_row (hU.step hw4) q3 ((Us (pc X Y r7 r10)).toArray);clear hw4 c4;generalize w4.setRow g3 ((Us (pc X Y r7 r10)).toArray) = W4 at *;refine l_nil ?_;refine hK _ _ ?_;clear hK K;refine c_ret (k_ret_row g3 _ rfl rfl b3 Tryd.underlying64 rfl (size_P (pc_len hX.len hY.len v7.len v10.len)) ⟨_, ⟨⟨X, Y, r7, r10, x, y, 1, x * y, rfl, hX, hY, v7, v10, Ed.Rep.one prime_p x y, by grind only⟩, hon⟩, rfl, hU⟩)
set_option maxRecDepth 100000 in
set_option maxHeartbeats 1000000 in
theorem factor_f  (w : World) :
  Calls Tryd.prog 63 #[] w fun e w' => ∃ r, EB r dd ∧ e = .returned (.agg (Us r).toArray) ∧ Below w.heap.size w w' := by
 refine calls_F (vs := []) 9 Tryd.func63 rfl (by rw [Tryd.ntmps63]; rfl) ?_;refine c_seq fun K hK => ?_;refine c_lit ?_;refine l_allocA z5 rfl rfl rfl rfl (by kernel_rfl) fun W1 g1 hw1 hg1 b1 => ?_
 have q1 : w.heap.size ≤ g1 := by rw [hg1]; exact Nat.le_refl _
 clear hg1;have hU : Up w _ := hw1;refine l_nil ?_;refine hK _ _ ?_;clear hK K;refine c_seq fun K hK => ?_;refine c_newF 5 [nvE 1] (by decide) ⟨⟨rfl, rfl, rfl, rfl, by kernel_rfl⟩, trivial⟩ ?_;refine f_build [(0, .int .u8 163), (1, .int .u8 120), (2, .int .u8 89), (3, .int .u8 19), (4, .int .u8 202), (5, .int .u8 77), (6, .int .u8 235), (7, .int .u8 117), (8, .int .u8 171), (9, .int .u8 216), (10, .int .u8 65), (11, .int .u8 65), (12, .int .u8 77), (13, .int .u8 10), (14, .int .u8 112), (15, .int .u8 0), (16, .int .u8 152), (17, .int .u8 232), (18, .int .u8 121), (19, .int .u8 119), (20, .int .u8 121), (21, .int .u8 64), (22, .int .u8 199), (23, .int .u8 140), (24, .int .u8 115), (25, .int .u8 254), (26, .int .u8 111), (27, .int .u8 43), (28, .int .u8 238), (29, .int .u8 108), (30, .int .u8 3), (31, .int .u8 82)] (By facB).toArray rfl rfl rfl rfl rfl (by kernel_rfl) ?_;refine f_tup #[.agg (By facB).toArray] dd rfl rfl rfl own_elnew (fun w1 _ => new_const rfl good_fac le_fac w1) rfl rfl fun r5 v5 => ?_;refine f_move (.tuple #[.agg (Us r5).toArray, .bool true]) rfl rfl rfl rfl rfl ?_;refine f_extract (.agg (Us r5).toArray) rfl rfl rfl rfl rfl rfl ?_;refine f_extract (.bool true) rfl rfl rfl rfl rfl rfl ?_;refine f_new [.tmp 6] [(Us r5).toArray] ⟨rfl, trivial⟩ (by decide) ⟨⟨rfl, rfl, rfl⟩, rfl⟩ ⟨⟨rfl, (us_size zl_len).trans (us_size v5.len).symm, size_E v5.len, Us_oneA _⟩, trivial⟩ fun f2 W2 hg2 hd2 hw2 hb2 => ?_;have b200 : Blk W2 (f2 0) 62 ((Us r5).toArray) := hb2.1;clear hb2;replace b1 := b1.later hw2;replace hU := hU.step hw2;clear hg2 hd2 hw2;generalize hf200 : f2 0 = g200 at *;simp only [ptrs, hf200];clear hf200 f2;refine l_assign (.bool true) rfl rfl rfl rfl rfl ?_;refine l_nil ?_;refine k_sub (E' := [(0, .pointer (some ⟨g1, 0, none⟩)), (1, .pointer (some ⟨g200, 0, none⟩))]) ⟨rfl, rfl, trivial⟩ ?_;refine hK _ _ ?_;clear hK K;refine c_seq fun K hK => ?_;refine c_tF 1 ?_;refine f_el g200 0 v5.len rfl rfl rfl rfl rfl (fun _ h1 => (h1.blk b200).range) ?_;refine f_set g1 _ ((Us r5).toArray) rfl rfl rfl rfl rfl b1 (size_E v5.len) ((us_size zl_len).trans (us_size v5.len).symm) (Us_oneA _) fun w3 hw3 c3 => ?_;replace b1 := c3;replace hU := up_row (hU.step hw3) q1 ((Us r5).toArray);clear hw3 c3;generalize w3.setRow g1 ((Us r5).toArray) = W3 at *;refine l_nil ?_;refine hK _ _ ?_;clear hK K;refine c_ret (k_ret_row g1 _ rfl rfl b1 Tryd.underlying62 rfl (size_E v5.len) ⟨_, v5, rfl, hU⟩)
set_option maxRecDepth 100000 in
set_option maxHeartbeats 1000000 in
theorem cbase_f  (w : World) :
  Calls Tryd.prog 46 #[] w fun e w' => ∃ r, QB r base ∧ e = .returned (.agg (Us r).toArray) ∧ Below w.heap.size w w' := by
 refine calls_F (vs := []) 18 Tryd.func46 rfl (by rw [Tryd.ntmps46]; rfl) ?_;refine c_seq fun K hK => ?_;refine c_lit ?_;refine l_allocA ((Us pz).toArray) rfl rfl rfl rfl (by kernel_rfl) fun W1 g1 hw1 hg1 b1 => ?_
 have q1 : w.heap.size ≤ g1 := by rw [hg1]; exact Nat.le_refl _
 clear hg1;have hU : Up w _ := hw1;refine l_nil ?_;refine hK _ _ ?_;clear hK K;refine c_seq fun K hK => ?_;refine c_newF 5 [nvE 1] (by decide) ⟨⟨rfl, rfl, rfl, rfl, by kernel_rfl⟩, trivial⟩ ?_;refine f_build [(0, .int .u8 26), (1, .int .u8 213), (2, .int .u8 37), (3, .int .u8 143), (4, .int .u8 96), (5, .int .u8 45), (6, .int .u8 86), (7, .int .u8 201), (8, .int .u8 178), (9, .int .u8 167), (10, .int .u8 37), (11, .int .u8 149), (12, .int .u8 96), (13, .int .u8 199), (14, .int .u8 44), (15, .int .u8 105), (16, .int .u8 92), (17, .int .u8 220), (18, .int .u8 214), (19, .int .u8 253), (20, .int .u8 49), (21, .int .u8 226), (22, .int .u8 164), (23, .int .u8 192), (24, .int .u8 254), (25, .int .u8 83), (26, .int .u8 110), (27, .int .u8 205), (28, .int .u8 211), (29, .int .u8 54), (30, .int .u8 105), (31, .int .u8 33)] (By bxB).toArray rfl rfl rfl rfl rfl (by kernel_rfl) ?_;refine f_tup #[.agg (By bxB).toArray] (fof bx) rfl rfl rfl own_elnew (fun w1 _ => new_const rfl good_bx le_bx w1) rfl rfl fun r7 v7 => ?_;refine f_move (.tuple #[.agg (Us r7).toArray, .bool true]) rfl rfl rfl rfl rfl ?_;refine f_extract (.agg (Us r7).toArray) rfl rfl rfl rfl rfl rfl ?_;refine f_extract (.bool true) rfl rfl rfl rfl rfl rfl ?_;refine f_new [.tmp 8] [(Us r7).toArray] ⟨rfl, trivial⟩ (by decide) ⟨⟨rfl, rfl, rfl⟩, rfl⟩ ⟨⟨rfl, (us_size zl_len).trans (us_size v7.len).symm, size_E v7.len, Us_oneA _⟩, trivial⟩ fun f2 W2 hg2 hd2 hw2 hb2 => ?_;have b200 : Blk W2 (f2 0) 62 ((Us r7).toArray) := hb2.1;clear hb2;replace b1 := b1.later hw2;replace hU := hU.step hw2;clear hg2 hd2 hw2;generalize hf200 : f2 0 = g200 at *;simp only [ptrs, hf200];clear hf200 f2;refine l_assign (.bool true) rfl rfl rfl rfl rfl ?_;refine l_nil ?_;refine k_sub (E' := [(0, .pointer (some ⟨g1, 0, none⟩)), (1, .pointer (some ⟨g200, 0, none⟩))]) ⟨rfl, rfl, trivial⟩ ?_;refine hK _ _ ?_;clear hK K;refine c_seq fun K hK => ?_;refine c_newF 5 [nvE 3] (by decide) ⟨⟨rfl, rfl, rfl, rfl, by kernel_rfl⟩, trivial⟩ ?_;refine f_build [(0, .int .u8 88), (1, .int .u8 102), (2, .int .u8 102), (3, .int .u8 102), (4, .int .u8 102), (5, .int .u8 102), (6, .int .u8 102), (7, .int .u8 102), (8, .int .u8 102), (9, .int .u8 102), (10, .int .u8 102), (11, .int .u8 102), (12, .int .u8 102), (13, .int .u8 102), (14, .int .u8 102), (15, .int .u8 102), (16, .int .u8 102), (17, .int .u8 102), (18, .int .u8 102), (19, .int .u8 102), (20, .int .u8 102), (21, .int .u8 102), (22, .int .u8 102), (23, .int .u8 102), (24, .int .u8 102), (25, .int .u8 102), (26, .int .u8 102), (27, .int .u8 102), (28, .int .u8 102), (29, .int .u8 102), (30, .int .u8 102), (31, .int .u8 102)] (By byB).toArray rfl rfl rfl rfl rfl (by kernel_rfl) ?_;refine f_tup #[.agg (By byB).toArray] (fof bY) rfl rfl rfl own_elnew (fun w1 _ => new_const rfl good_by le_by w1) rfl rfl fun r12 v12 => ?_;refine f_move (.tuple #[.agg (Us r12).toArray, .bool true]) rfl rfl rfl rfl rfl ?_;refine f_extract (.agg (Us r12).toArray) rfl rfl rfl rfl rfl rfl ?_;refine f_extract (.bool true) rfl rfl rfl rfl rfl rfl ?_
 refine f_new [.tmp 13] [(Us r12).toArray] ⟨rfl, trivial⟩ (by decide) ⟨⟨rfl, rfl, rfl⟩, rfl⟩ ⟨⟨rfl, (us_size zl_len).trans (us_size v12.len).symm, size_E v12.len, Us_oneA _⟩, trivial⟩ fun f3 W3 hg3 hd3 hw3 hb3 => ?_;have b300 : Blk W3 (f3 0) 62 ((Us r12).toArray) := hb3.1;clear hb3;replace b1 := b1.later hw3;replace b200 := b200.later hw3;replace hU := hU.step hw3;clear hg3 hd3 hw3;generalize hf300 : f3 0 = g300 at *;simp only [ptrs, hf300];clear hf300 f3;refine l_assign (.bool true) rfl rfl rfl rfl rfl ?_;refine l_nil ?_;refine k_sub (E' := [(0, .pointer (some ⟨g1, 0, none⟩)), (1, .pointer (some ⟨g200, 0, none⟩)), (3, .pointer (some ⟨g300, 0, none⟩))]) ⟨rfl, rfl, rfl, trivial⟩ ?_;refine hK _ _ ?_;clear hK K;refine c_seq fun K hK => ?_;refine c_tF 3 ?_;refine f_el g200 0 v7.len rfl rfl rfl rfl rfl (fun _ h1 => (h1.blk b200).range) ?_;refine f_el g300 0 v12.len rfl rfl rfl rfl rfl (fun _ h1 => (h1.blk b300).range) ?_;refine f_us #[.agg (Us r7).toArray, .agg (Us r12).toArray] (QB · ⟨fof bx, fof bY⟩) rfl rfl rfl own_at (fun w1 h1 => at_f v7 v12 on_base w1) rfl rfl fun r17 v17 => ?_;refine f_set g1 _ ((Us r17).toArray) rfl rfl rfl rfl rfl b1 (size_P v17.len) ((us_size pz_len).trans (us_size v17.len).symm) (Us_oneA _) fun w4 hw4 c4 => ?_;replace b1 := c4;replace hU := up_row (hU.step hw4) q1 ((Us r17).toArray);clear hw4 c4;generalize w4.setRow g1 ((Us r17).toArray) = W4 at *;refine l_nil ?_;refine hK _ _ ?_;clear hK K;refine c_ret (k_ret_row g1 _ rfl rfl b1 Tryd.underlying64 rfl (size_P v17.len) ⟨_, v17, rfl, hU⟩)
end Go.Proofs.YtiamoeifaahlfaaDoor
