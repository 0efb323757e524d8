/-
  THE DOCUMENT'S OWN SCALARS: Mod.
-/
import Derived.Test.YthejahhhmkkhoaaLessC
import Derived.Test.YthejahhhmkkhoaaModP
import Derived.Deep.OwnRows
import Derived.OwnWalk
namespace Go.Proofs.Ythejahhhmkkhoaa
open Go.RowKit Go.IntWalk Nums

/-- The bytes l lie in block g from its head on. -/
def BL (w : World) (g : Nat) (l : List UInt8) : Prop := g < w.heap.size ∧ ∀ j, j < l.length → w.cell? ⟨g, j, none⟩ = some (.int .u8 ((l[j]!).toNat : Int))
theorem BL.below {w w' : World} {g B : Nat} {l : List UInt8} (h : BL w g l) (hb : Below B w w') (hg : g < B) : BL w' g l :=
  ⟨Nat.lt_of_lt_of_le h.1 hb.size, fun j hj => (hb.cell (p := ⟨g, j, none⟩) hg).trans (h.2 j hj)⟩

/-- The slice r holds the digits of P modulo L. -/
structure MS (w wr : World) (g : Nat) (m : List Int) (P : Nat) : Prop where
  hg : w.heap.size < g
  len : m.length = 33
  sm : Small2 m
  v : V2 m = ((P % LL : Nat) : Int)
  r : RL wr g m
  o : Blk wr w.heap.size 22 z32
  be : Below w.heap.size w wr
theorem MS.up {w wr w1 : World} {g : Nat} {m : List Int} {P : Nat} (h : MS w wr g m P) (hw : Below wr.heap.size wr w1) : MS w w1 g m P :=
  ⟨h.hg, h.len, h.sm, h.v, h.r.later hw, h.o.later hw, h.be.trans (hw.mono h.be.size)⟩

theorem made_ints (n : Nat) : madeCells #[.int .i64 0] n = (Is (List.replicate n 0)).toArray := by
  apply Array.ext
  · simp [size_madeCells, Is]
  · intro i h1 h2
    simp [madeCells, Is, Nat.mod_one]
theorem RL.row {w : World} {g t : Nat} {l : List Int} (h : Blk w g t (Is l).toArray) : RL w g l :=
  ⟨h.lt, fun j hj => (h.cell j).trans (by simp [Is, hj]), fun j _ => h.free j⟩

/-- The first k bytes are there. -/
def filb (u : List UInt8) (k : Nat) : List UInt8 := u.take k ++ List.replicate (32 - k) 0
theorem filb_set {u : List UInt8} {k : Nat} (hk : k < 32) (hu : u.length = 32) : (filb u k).set k u[k]! = filb u (k + 1) := by
  unfold filb
  have e : 32 - k = (32 - (k + 1)) + 1 := by omega
  have hlen : (u.take k).length = k := by rw [List.length_take]; omega
  rw [e, List.replicate_succ, List.take_succ_eq_append_getElem (by omega), List.append_assoc, List.set_append_right _ _ (by omega), hlen, Nat.sub_self, getElem!_pos u k (by omega)]
  rfl
theorem filb_len {u : List UInt8} {k : Nat} (hk : k ≤ 32) (hu : u.length = 32) : (filb u k).length = 32 := by
  unfold filb
  rw [List.length_append, List.length_take, List.length_replicate]
  omega
theorem filb_end {u : List UInt8} (hu : u.length = 32) : filb u 32 = u := by
  unfold filb
  rw [List.take_of_length_le (by omega)]
  simp

set_option maxRecDepth 100000 in
set_option maxHeartbeats 8000000 in
theorem mod_any (l : List UInt8) (gb cb : Nat) (w : World) (hl : l.length < 100000) (h : BL w gb l) :
    Calls Try.prog 11 #[.slice (some ⟨gb, 0, none⟩) l.length cb] w fun e w' => e = .returned (.agg (By (Nums.bytes 32 (le l % LL))).toArray) ∧ Below w.heap.size w w' := by
  obtain ⟨i0, hi0, hz0, hz1, hz2⟩ := info_parts info_i64
  have hM0 : MS w ((w.alloc (.cells z32 22)).alloc (.cells (madeCells #[.int .i64 0] 33) 3)) (w.heap.size + 1) (List.replicate 33 0) 0 := by
    refine ⟨by omega, by simp, ?_, by decide, ?_, heap_alloc2_old w _ _, ((Below.refl _ _).alloc (Nat.le_refl _) _).alloc (by simp) _⟩
    · intro x hx
      obtain rfl := List.eq_of_mem_replicate hx
      omega
    · rw [made_ints]
      exact RL.row (heap_alloc2_new w _ _)
  have HM := Lib.hid hM0
  clear hM0
  go_enter Try.func11, Try.ntmps11
  go_wp2_with (at_make; refine wpList_make_row _ rfl _ _ 44 rfl 3 i0 _ Try.underlying44 hi0 hz0 hz1 rfl .i64 .i64 33 rfl rfl (by rw [hz2]; omega) (by omega) ?_)
  clear hi0 hz0 hz1 hz2 i0
  go_loopw [3, 4] (fun r i wr => ∃ k : Nat, k ≤ l.length ∧ i = .int .i64 ((k : Int) - 1) ∧ ∃ g c m, r = .slice (some ⟨g, 0, none⟩) 33 c ∧ MS w wr g m (le (l.drop k))) (fun _ i _ => (intOf i + 1).toNat)
  case atStart =>
    refine ⟨l.length, Nat.le_refl _, by go_num, w.heap.size + 1, 33, List.replicate 33 0, rfl, ?_⟩
    rw [List.drop_length]
    exact HM.out
  case round =>
    clear HM
    obtain ⟨k, hk, rfl, g, c, m, rfl, hM⟩ := hrel
    by_cases hlt : 0 < k
    · obtain ⟨i, rfl⟩ : ∃ i, k = i + 1 := ⟨k - 1, by omega⟩
      have e0 : (((i + 1 : Nat) : Int) - 1) = (i : Int) := by omega
      rw [e0]
      have HM := Lib.hid hM
      clear hM
      go_wp2
      go_loopw [3, 5] (fun r b wr => ∃ t : Nat, t ≤ 8 ∧ b = .int .i64 ((128 / 2 ^ t : Nat) : Int) ∧ ∃ g c m, r = .slice (some ⟨g, 0, none⟩) 33 c ∧ MS w wr g m (partL l i t)) (fun _ b _ => (intOf b).toNat)
      case atStart => exact ⟨0, by omega, rfl, g, c, m, rfl, by rw [part_zero]; exact HM.out⟩
      case round =>
        clear HM
        obtain ⟨t, ht, rfl, g, c, m, rfl, hM⟩ := hrel
        by_cases h8 : t < 8
        · have hx := h.below hM.be h.1
          have cx := hx.2 i (by omega)
          have hpn := part_next (l := l) (i := i) h8
          have hqe : 128 / 2 ^ t = 2 ^ (7 - t) := by
            rw [show (128 : Nat) = 2 ^ 7 by decide, Nat.pow_div (by omega) (by decide)]
          have hq2 : 128 / 2 ^ t / 2 = 128 / 2 ^ (t + 1) := by rw [Nat.div_div_eq_div_mul, Nat.pow_succ]
          rw [← hqe] at hpn
          have hq0 : 0 < 128 / 2 ^ t := by rw [hqe]; exact Nat.pow_pos (by decide)
          have hq1 : 128 / 2 ^ t ≤ 128 := Nat.div_le_self ..
          have hxl := (l[i]!).toNat_lt
          generalize (l[i]!).toNat = x at *
          generalize hP : partL l i t = P at *
          generalize 128 / 2 ^ t = q at *
          have hdv : (x : Int).tdiv (q : Int) = ((x / q : Nat) : Int) := by rw [Int.tdiv_eq_ediv_of_nonneg (by omega)]; rfl
          have hrm : ((x / q : Nat) : Int).tmod 2 = ((x / q % 2 : Nat) : Int) := by rw [Int.tmod_eq_emod_of_nonneg (Int.natCast_nonneg _)]; rfl
          have hxq : x / q ≤ x := Nat.div_le_self ..
          have hb2 : x / q % 2 < 2 := Nat.mod_lt _ (by decide)
          generalize hbb : x / q % 2 = bb at *
          generalize x / q = xq at *
          have HM := Lib.hid hM
          have HP := Lib.hid hpn
          have HQ := Lib.hid hq2
          have hi2 : (i : Int) < (l.length : Int) := by omega
          clear hM hpn hq2 hqe hx hbb hP
          go_wp2
          go_loopw [6, 7] (fun cv kv wx => ∃ j : Nat, j ≤ 33 ∧ kv = .int .i64 j ∧ ∃ cc out, cv = .int .i64 cc ∧ Db m out (bb : Int) cc j ∧ RL wx g out ∧ Blk wx w.heap.size 22 z32 ∧ Below w.heap.size w wx) (fun _ kv _ => 33 - (intOf kv).toNat)
          case atStart => exact ⟨0, by omega, rfl, (bb : Int), m, rfl, Db.start (by omega), HM.out.r, HM.out.o, HM.out.be⟩
          case round =>
            obtain ⟨j, hj, rfl, cc, out, rfl, hD, hR, hO, hB⟩ := hrel
            have hol := hD.len HM.out.len hj
            by_cases hj3 : j < 33
            · obtain ⟨⟨hy0, hy1⟩, ⟨hc0, hc1⟩, hDn⟩ := hD.next HM.out.len HM.out.sm hj3
              have c0 := hR.2.1 j (by omega)
              have f0 := hR.2.2 j (by omega)
              have hRs := hR.set j ((2 * out[j]! + cc) % 256)
              have hOs := hO.far (p := ⟨g, j, none⟩) (by have := HM.out.hg; simp; omega) (.int .i64 ((2 * out[j]! + cc) % 256))
              have hBs := hB.setCell (p := ⟨g, j, none⟩) (by have := HM.out.hg; simp; omega) (.int .i64 ((2 * out[j]! + cc) % 256))
              generalize out[j]! = y at *
              have hm1 : (2 * y + cc).tmod 256 = (2 * y + cc) % 256 := Int.tmod_eq_emod_of_nonneg (by omega)
              have hd1 : (2 * y + cc).tdiv 256 = (2 * y + cc) / 256 := Int.tdiv_eq_ediv_of_nonneg (by omega)
              have HD := Lib.hid (And.intro hDn (And.intro hRs (And.intro hOs hBs)))
              clear hD hR hO hB hDn hRs hOs hBs
              have hj33 : (j : Int) < 33 := by omega
              go_wp2
              go_roundw
              case rel => exact ⟨j + 1, by omega, by go_num, _, _, rfl, HD.out.1, HD.out.2.1, HD.out.2.2.1, HD.out.2.2.2⟩
              case measure => simp [intOf]; omega
            · obtain rfl : j = 33 := by omega
              have hmv := HM.out.v
              obtain ⟨⟨hmlo, hmge⟩, hm2⟩ := mod_bit (P := P) (v := P % LL) rfl hb2
              have hLL : LL = 7237005577332262213973186563042994240857116359379907606001950938285454250989 := rfl
              obtain ⟨hsm, hv⟩ := hD.last HM.out.len (by rw [hmv, W2_33]; omega)
              have hq3 : (q : Int).tdiv 2 = ((128 / 2 ^ (t + 1) : Nat) : Int) := by rw [Int.tdiv_eq_ediv_of_nonneg (by omega), ← HQ.out]; rfl
              have hqlt : 128 / 2 ^ (t + 1) < q := by rw [← HQ.out]; omega
              have hPn := HP.out
              have hBl := below_any out g c wr hol hsm hR.il
              have hgg := HM.out.hg
              by_cases hlo : 2 * (P % LL) + bb < LL
              · have hlw : lowL out = true := by
                  unfold lowL
                  rw [hv, hmv]
                  exact decide_eq_true (by omega)
                rw [hlw] at hBl
                have hMn : MS w wr g out (partL l i (t + 1)) := ⟨hgg, hol, hsm, by rw [hv, hmv, hPn, ← hmlo hlo]; omega, hR, hO, hB⟩
                have HN := Lib.hid hMn
                have HBl := Lib.hid hBl
                clear hMn hBl hD hR hO hB hv hmv hmlo hmge hm2 hPn hlw hlo HM HP HQ hsm hLL
                generalize hq2 : 128 / 2 ^ (t + 1) = q2 at *
                go_wp2_with (fail)
                refine HBl.out.mono ?_
                rintro e w2 ⟨rfl, hw2⟩
                have HN2 := Lib.hid (HN.out.up hw2)
                clear HN HBl hw2
                go_wp2
                go_roundw
                case rel => exact ⟨t + 1, by omega, by rw [hq2], g, c, out, rfl, HN2.out⟩
                case measure => simp [intOf]; omega
              · have hlw : lowL out = false := by
                  unfold lowL
                  rw [hv, hmv]
                  exact decide_eq_false (by omega)
                have hLs := fun w2 (hw2 : Below wr.heap.size wr w2) => Lib.hid (less_any out g c w2 hol hsm (hR.later hw2).il hlw)
                rw [hlw] at hBl
                have hvv : V2 out - V2 od33 = ((partL l i (t + 1) % LL : Nat) : Int) := by
                  rw [hv, hmv, hPn, ← hmge hlo, V2_od33]
                  omega
                have HBl := Lib.hid hBl
                have HF := Lib.hid (And.intro hO (And.intro hB hvv))
                clear hBl hD hR hO hB hv hmv hmlo hmge hm2 hPn hlw hlo HM HP HQ hsm hLL hvv
                generalize hq2 : 128 / 2 ^ (t + 1) = q2 at *
                go_wp2_with (fail)
                refine HBl.out.mono ?_
                rintro e w2 ⟨rfl, hw2⟩
                have hLs2 := hLs w2 hw2
                clear hLs
                go_wp2_with (fail)
                refine hLs2.out.mono ?_
                rintro e w3 ⟨m3, g3, c3, hm3, hs3, hv3, hg3, hR3, rfl, hw3⟩
                have hMn : MS w w3 g3 m3 (partL l i (t + 1)) := ⟨Nat.lt_of_lt_of_le (Nat.lt_of_lt_of_le HF.out.1.lt hw2.size) hg3, hm3, hs3, hv3.trans HF.out.2.2, hR3, (HF.out.1.later hw2).later hw3, (HF.out.2.1.trans (hw2.mono HF.out.2.1.size)).trans (hw3.mono (Nat.le_trans HF.out.2.1.size hw2.size))⟩
                have HN2 := Lib.hid hMn
                clear hMn HF HBl hLs2 hw2 hw3 hR3 hv3 hg3 hs3
                go_wp2
                go_roundw
                case rel => exact ⟨t + 1, by omega, by rw [hq2], g3, c3, m3, rfl, HN2.out⟩
                case measure => simp [intOf]; omega
        · obtain rfl : t = 8 := by omega
          rw [part_eight (by omega)] at hM
          have HM := Lib.hid hM
          clear hM
          go_wp2
          go_roundw
          case rel => exact ⟨i, by omega, by go_num, g, c, m, rfl, HM.out⟩
          case measure => simp [intOf]
    · obtain rfl : k = 0 := by omega
      rw [List.drop_zero] at hM
      obtain ⟨hm0, hmb⟩ := bytes_of hM.len hM.sm hM.v (Nat.mod_lt _ (by decide))
      have hul : (Nums.bytes 32 (le l % LL)).length = 32 := bytes_len _ _
      have hget : ∀ j, j < 32 → (((Nums.bytes 32 (le l % LL))[j]!).toNat : Int) = m[j]! := fun j hj => by
        have hs := small_get hM.sm (i := j) (by rw [hM.len]; omega)
        rw [← hmb, getElem!_pos _ j (by rw [List.length_map, List.length_take, hM.len]; omega), List.getElem_map, List.getElem_take, ← getElem!_pos m j (by rw [hM.len]; omega), UInt8.toNat_ofNat_of_lt' (by show _ < 256; omega)]
        omega
      generalize hu : Nums.bytes 32 (le l % LL) = u at *
      have HU := Lib.hid hu
      clear hu
      have hso := hM.o
      have hwo := hM.o.lt
      have HM := Lib.hid hM
      have HG := Lib.hid hget
      have hnew : ∀ o, Blk (wr.alloc (.cells o 22)) wr.heap.size 22 o := fun o => Blk.new wr _ _
      have HS : Hid (Blk (wr.alloc (.cells z32 22)) wr.heap.size 22 (By (filb u 0)).toArray ∧ RL (wr.alloc (.cells z32 22)) g m ∧ Blk (wr.alloc (.cells z32 22)) w.heap.size 22 z32 ∧ Below w.heap.size w (wr.alloc (.cells z32 22))) :=
        Lib.hid ⟨hnew _, hM.r.later ((Below.refl _ _).alloc (Nat.le_refl _) _), hM.o.alloc _, hM.be.alloc hM.be.size _⟩
      have hgl := hM.r.1
      clear hM hm0 hmb hget hnew hso
      generalize hgh : wr.heap.size = gh at *
      go_wp2
      clear hgh
      go_loopw [54] (fun iv wx => ∃ k : Nat, k ≤ 32 ∧ iv = .int .i64 k ∧ Blk wx gh 22 (By (filb u k)).toArray ∧ RL wx g m ∧ Blk wx w.heap.size 22 z32 ∧ Below w.heap.size w wx) (fun iv _ => 32 - (intOf iv).toNat)
      case atStart => exact ⟨0, by omega, rfl, HS.out⟩
      case round =>
        clear HS
        obtain ⟨k, hk, rfl, hH, hR, hO, hB⟩ := hrel
        by_cases hlt : k < 32
        · have c0 := hR.2.1 k (by rw [HM.out.len]; omega)
          have hsm := small_get HM.out.sm (i := k) (by rw [HM.out.len]; omega)
          have hgk := HG.out k hlt
          have hgr : g ≠ gh := Nat.ne_of_lt hgl
          have hfl := filb_len (u := u) (k := k) (by omega) hul
          have f0 := hH.free k
          have cH := (hH.cell k).trans (By_get (by omega))
          have hH2 := hH.set k (.int .u8 ((u[k]!).toNat : Int))
          rw [By_set, filb_set hlt hul, hgk] at hH2
          have hR2 := hR.far (p := ⟨gh, k, none⟩) hgr (.int .u8 m[k]!)
          have hO2 := hO.far (p := ⟨gh, k, none⟩) (Nat.ne_of_lt hwo) (.int .u8 m[k]!)
          have hB2 := hB.setCell (p := ⟨gh, k, none⟩) (Nat.le_of_lt hwo) (.int .u8 m[k]!)
          have HD := Lib.hid (And.intro hH2 (And.intro hR2 (And.intro hO2 hB2)))
          clear hH hR hO hB hH2 hR2 hO2 hB2 hgk
          generalize m[k]! = y at *
          go_wp2
          go_roundw
          case rel => exact ⟨k + 1, by omega, by go_num, HD.out⟩
          case measure => simp [intOf]; omega
        · obtain rfl : k = 32 := by omega
          rw [filb_end hul] at hH
          have hz := len_by hul
          have HB := Lib.hid hB
          clear hB hR
          go_wp2_with (first
            | (refine wpList_load_row rfl 22 _ rfl gh rfl 22 (By u).toArray (0, 0) _ hH Try.underlying22 rfl (size_hash _ hz) ?_)
            | (refine wpList_store_row rfl 22 _ _ rfl w.heap.size rfl (By u).toArray rfl 22 _ hO (size_hash _ hz) (by rw [hz]; rfl) (By_one _) ?_))
          refine bodyPost_ret (results_cell_row rfl _ _ w.heap.size 22 (By u).toArray (0, 0) _ rfl (hO.row _) Try.underlying22 rfl (size_hash _ hz)) rfl ⟨by rw [HU.out], ?_⟩
          exact below_setRow HB.out (by omega) _
end Go.Proofs.Ythejahhhmkkhoaa
