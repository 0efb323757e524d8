/-
  SEVERAL TEXTS IN ONE: ModP, Mod, SumP, ScNew, LawR, SgVer, SgHalf, Sc, ScAdd, ProdP, ScMul, SgRef, SgRKey, SgLoop, SgRSign, SgRRight, EncMul, ShaK.
-/
import Derived.Test.YtiamoeifaahlfaaDoorMo
import Derived.Test.YtiamoeifaahlfaaDoorMf
import Derived.Deep.OwnRows
import Derived.OwnWalk
import Derived.Test.YtiamoeifaahlfaaDoorMm
import Derived.Test.YtiamoeifaahlfaaDoorMb
import Derived.StillTailTactics
import Derived.Test.YtiamoeifaahlfaaDoorMc
/-
  PLAIN NUMBERS: a number modulo L, bit by bit. No program is imported.
-/
namespace Nums

def Db (m out : List Int) (c0 c : Int) (k : Nat) : Prop :=
  ∃ dn, dn.length = k ∧ Small2 dn ∧ (c = 0 ∨ c = 1) ∧ V2 dn + c * W2 k = 2 * V2 (m.take k) + c0 ∧ out = dn ++ m.drop k
section
variable {m out : List Int} {c0 c : Int} {k : Nat}
theorem Db.start (h : c0 = 0 ∨ c0 = 1) : Db m m c0 c0 0 := by
 refine ⟨[], rfl, ?_, h, ?_, rfl⟩
 ·intro x hx
  cases hx
 ·show V2 [] + c0 * 1 = 2 * V2 (m.take 0) + c0
  simp [V2]
theorem Db.len (h : Db m out c0 c k) (hm : m.length = 33) (hk : k ≤ 33) : out.length = 33 := by
 obtain ⟨dn, hd, _, _, _, rfl⟩ := h;rw [List.length_append, List.length_drop]
 omega
theorem Db.next (h : Db m out c0 c k) (hm : m.length = 33) (hs : Small2 m) (hk : k < 33) :
  (0 ≤ out[k]! ∧ out[k]! < 256) ∧ (0 ≤ c ∧ c ≤ 1) ∧ Db m (out.set k ((2 * out[k]! + c) % 256)) c0 ((2 * out[k]! + c) / 256) (k + 1) := by
 obtain ⟨dn, hd, hdn, hc, hV, rfl⟩ := h;have hx := small_get hs (i := k) (by omega)
 have hdr : m.drop k = m[k]! :: m.drop (k + 1) := by rw [List.drop_eq_getElem_cons (by omega), getElem!_pos m k (by omega)]
 have hlt := V2_take (l := m) (i := k) (by omega)
 have eo : (dn ++ m.drop k)[k]! = m[k]! := by
  rw [hdr, getElem!_pos _ _ (by simp; omega), List.getElem_append_right (by omega)]
  simp [hd]
 rw [eo];refine ⟨hx, by omega, dn ++ [(2 * m[k]! + c) % 256], by simp [hd], small_snoc hdn (by omega) (by omega), by omega, ?_, ?_⟩
 ·rw [V2_snoc, hd, hlt]
  show _ + _ * (256 * W2 k) = _
  have e := Int.emod_add_mul_ediv (2 * m[k]! + c) 256;generalize (2 * m[k]! + c) % 256 = r at *;generalize (2 * m[k]! + c) / 256 = q at *;generalize m[k]! = x at *;generalize V2 dn = a at *;generalize V2 (List.take k m) = b at *;generalize W2 k = W at *;clear hdr eo hx hc
  have e2 : W * (r + 256 * q) = W * (2 * x + c) := by rw [e]
  grind only
 ·rw [hdr, ← hd, List.set_append_right _ _ (Nat.le_refl _)]
  simp
theorem Db.last (h : Db m out c0 c 33) (hm : m.length = 33) (hlt : 2 * V2 m + c0 < W2 33) : Small2 out ∧ V2 out = 2 * V2 m + c0 := by
 obtain ⟨dn, hd, hdn, hc, hV, rfl⟩ := h;have e33 : m.take 33 = m := List.take_of_length_le (by omega);have d33 : m.drop 33 = [] := List.drop_eq_nil_of_le (by omega);have h1 := V2_small hdn;rw [hd] at h1;rw [e33] at hV;rw [d33, List.append_nil];refine ⟨hdn, ?_⟩;have hW := W2_pos 33
 rcases hc with rfl | rfl
 ·omega
 ·omega
end

theorem W2_33 : W2 33 = 256 * 115792089237316195423570985008687907853269984665640564039457584007913129639936 := by decide
theorem mod_bit {P : Nat} {v b : Nat} (hv : v = P % LL) (hb : b < 2) : ((2 * v + b < LL → 2 * v + b = (2 * P + b) % LL) ∧ (¬ 2 * v + b < LL → 2 * v + b - LL = (2 * P + b) % LL)) ∧ 2 * v + b < 2 * LL := by
 subst hv;have h1 : P % LL < LL := Nat.mod_lt _ (by decide)
 have h2 : (2 * P + b) % LL = (2 * (P % LL) + b) % LL := by
  have e := Nat.div_add_mod P LL
  have e2 : 2 * P + b = 2 * (P % LL) + b + LL * (2 * (P / LL)) := by
   have : LL * (2 * (P / LL)) = 2 * (LL * (P / LL)) := by rw [Nat.mul_left_comm]
   omega
  rw [e2, Nat.add_mul_mod_self_left]
 rw [h2];clear h2;generalize P % LL = r at *;refine ⟨⟨fun h => (Nat.mod_eq_of_lt h).symm, fun h => ?_⟩, by omega⟩;rw [Nat.mod_eq_sub_mod (a := 2 * r + b) (by omega), Nat.mod_eq_of_lt (a := 2 * r + b - LL) (by omega)]

def partL (l : List UInt8) (i t : Nat) : Nat := le (l.drop (i + 1)) * 2 ^ t + (l[i]!).toNat / 2 ^ (8 - t)
theorem partL_zero {l : List UInt8} {i : Nat} : partL l i 0 = le (l.drop (i + 1)) := by
 have h := (l[i]!).toNat_lt
 show le (l.drop (i + 1)) * 1 + (l[i]!).toNat / 256 = _
 omega
theorem part_eight {l : List UInt8} {i : Nat} (hi : i < l.length) : partL l i 8 = le (l.drop i) := by
 rw [List.drop_eq_getElem_cons hi]
 show le (l.drop (i + 1)) * 256 + (l[i]!).toNat / 1 = l[i].toNat + 256 * le (l.drop (i + 1))
 rw [getElem!_pos l i hi]
 omega
theorem part_next {l : List UInt8} {i t : Nat} (ht : t < 8) : partL l i (t + 1) = 2 * partL l i t + (l[i]!).toNat / 2 ^ (7 - t) % 2 := by
 unfold partL
 generalize (l[i]!).toNat = x;generalize le (l.drop (i + 1)) = v
 have e1 : 8 - (t + 1) = 7 - t := by omega
 have e2 : 8 - t = (7 - t) + 1 := by omega
 rw [e1, e2, Nat.pow_succ, Nat.pow_succ, ← Nat.div_div_eq_div_mul]
 have e3 : v * (2 ^ t * 2) = 2 * (v * 2 ^ t) := by rw [← Nat.mul_assoc, Nat.mul_comm]
 rw [e3]
 omega

theorem bytes_of {m : List Int} (hm : m.length = 33) (hs : Small2 m) {v : Nat} (hv : V2 m = (v : Int)) (hlt : v < LL) : m[32]! = 0 ∧ (m.take 32).map (fun x => UInt8.ofNat x.toNat) = bytes 32 v := by
 have h1 := V2_take (l := m) (i := 32) (by omega);rw [show (32 : Nat) + 1 = 33 from rfl, List.take_of_length_le (by omega)] at h1;have hs2 : Small2 (m.take 32) := fun x hx => hs x (List.mem_of_mem_take hx);have h2 := V2_small hs2;rw [List.length_take, hm] at h2;have h3 := small_get hs (i := 32) (by omega)
 have hW : W2 32 = 115792089237316195423570985008687907853269984665640564039457584007913129639936 := by decide
 have hW2 : W2 (min 32 33) = 115792089237316195423570985008687907853269984665640564039457584007913129639936 := by decide
 rw [hW] at h1;rw [hW2] at h2
 have hLL : LL < 115792089237316195423570985008687907853269984665640564039457584007913129639936 := by decide
 have h0 : m[32]! = 0 := by omega
 refine ⟨h0, ?_⟩
 apply le_inj (by simp [bytes_len, hm])
 rw [le_bytes, show (256 : Nat) ^ 32 = 115792089237316195423570985008687907853269984665640564039457584007913129639936 by decide, Nat.mod_eq_of_lt (by omega)]
 have key : ∀ q : List Int, Small2 q → ((le (q.map (fun x => UInt8.ofNat x.toNat)) : Nat) : Int) = V2 q := by
  intro q
  induction q with
  | nil => intro _; rfl
  | cons x q ih =>
   intro hq
   have hx := hq x (List.mem_cons_self ..);have := ih (fun y hy => hq y (List.mem_cons_of_mem _ hy))
   show (((UInt8.ofNat x.toNat).toNat + 256 * le (q.map _) : Nat) : Int) = x + 256 * V2 q
   rw [UInt8.toNat_ofNat_of_lt' (by show _ < 256; omega)]
   omega
 have h5 := key _ hs2
 omega
end Nums
/-
  THE DOCUMENT'S OWN SCALARS: Mod.
-/
namespace Go.Proofs.YtiamoeifaahlfaaDoor
open Go.RowKit Go.IntWalk Nums

def BL (w : World) (g : Nat) (l : List UInt8) : Prop := g < w.heap.size ∧ ∀ j, j < l.length → w.cell? ⟨g, j, none⟩ = some (.int .u8 ((l[j]!).toNat : Int))
theorem BL.below {w w' : World} {g B : Nat} {l : List UInt8} (h : BL w g l) (hb : Below B w w') (hg : g < B) : BL w' g l :=
 ⟨Nat.lt_of_lt_of_le h.1 hb.size, fun j hj => (hb.cell (p := ⟨g, j, none⟩) hg).trans (h.2 j hj)⟩

structure MS (w wr : World) (g : Nat) (m : List Int) (P : Nat) : Prop where
  hg : w.heap.size < g
  len : m.length = 33
  sm : Small2 m
  v : V2 m = ((P % LL : Nat) : Int)
  r : RL wr g m
  o : Blk wr w.heap.size 22 z32
  be : Below w.heap.size w wr
theorem MS.up {w wr w1 : World} {g : Nat} {m : List Int} {P : Nat} (h : MS w wr g m P) (hw : Below wr.heap.size wr w1) : MS w w1 g m P :=
 ⟨h.hg, h.len, h.sm, h.v, h.r.later hw, h.o.later hw, h.be.trans (hw.mono h.be.size)⟩

theorem made_ints (n : Nat) : madeCells #[.int .i64 0] n = (Is (List.replicate n 0)).toArray := by
 apply Array.ext
 ·simp [size_madeCells, Is]
 ·intro i h1 h2
  simp [madeCells, Is, Nat.mod_one]
theorem RL.row {w : World} {g t : Nat} {l : List Int} (h : Blk w g t (Is l).toArray) : RL w g l :=
 ⟨h.lt, fun j hj => (h.cell j).trans (by simp [Is, hj]), fun j _ => h.free j⟩

def filb (u : List UInt8) (k : Nat) : List UInt8 := u.take k ++ List.replicate (32 - k) 0
theorem filb_set {u : List UInt8} {k : Nat} (hk : k < 32) (hu : u.length = 32) : (filb u k).set k u[k]! = filb u (k + 1) := by
 unfold filb
 have e : 32 - k = (32 - (k + 1)) + 1 := by omega
 have hlen : (u.take k).length = k := by rw [List.length_take]; omega
 rw [e, List.replicate_succ, List.take_succ_eq_append_getElem (by omega), List.append_assoc, List.set_append_right _ _ (by omega), hlen, Nat.sub_self, getElem!_pos u k (by omega)]
 rfl
theorem filb_len {u : List UInt8} {k : Nat} (hk : k ≤ 32) (hu : u.length = 32) : (filb u k).length = 32 := by
 unfold filb
 rw [List.length_append, List.length_take, List.length_replicate]
 omega
theorem filb_end {u : List UInt8} (hu : u.length = 32) : filb u 32 = u := by
 unfold filb
 rw [List.take_of_length_le (by omega)]
 simp

set_option maxRecDepth 100000 in
set_option maxHeartbeats 8000000 in
theorem mod_any (l : List UInt8) (gb cb : Nat) (w : World) (hl : l.length < 100000) (h : BL w gb l) :
  Calls Tryd.prog 24 #[.slice (some ⟨gb, 0, none⟩) l.length cb] w fun e w' => e = .returned (.agg (By (Nums.bytes 32 (le l % LL))).toArray) ∧ Below w.heap.size w w' := by
 obtain ⟨i0, hi0, hz0, hz1, hz2⟩ := info_parts info_i64
 have hM0 : MS w ((w.alloc (.cells z32 22)).alloc (.cells (madeCells #[.int .i64 0] 33) 3)) (w.heap.size + 1) (List.replicate 33 0) 0 := by
  refine ⟨by omega, by simp, ?_, by decide, ?_, heap_alloc2_old w _ _, ((Below.refl _ _).alloc (Nat.le_refl _) _).alloc (by simp) _⟩
  ·intro x hx
   obtain rfl := List.eq_of_mem_replicate hx
   omega
  ·rw [made_ints]
   exact RL.row (heap_alloc2_new w _ _)
 have HM := Lib.hid hM0;clear hM0
 go_enter Tryd.func24, Tryd.ntmps24
 go_wp2_with (at_make; refine wpList_make_row _ rfl _ _ 92 rfl 3 i0 _ Tryd.underlying92 hi0 hz0 hz1 rfl .i64 .i64 33 rfl rfl (by rw [hz2]; omega) (by omega) ?_)
 clear hi0 hz0 hz1 hz2 i0
 go_loopw [3, 4] (fun r i wr => ∃ k : Nat, k ≤ l.length ∧ i = .int .i64 ((k : Int) - 1) ∧ ∃ g c m, r = .slice (some ⟨g, 0, none⟩) 33 c ∧ MS w wr g m (le (l.drop k))) (fun _ i _ => (intOf i + 1).toNat)
 case atStart =>
  refine ⟨l.length, Nat.le_refl _, by go_num, w.heap.size + 1, 33, List.replicate 33 0, rfl, ?_⟩;rw [List.drop_length];exact HM.out
 case round =>
  clear HM;obtain ⟨k, hk, rfl, g, c, m, rfl, hM⟩ := hrel
  by_cases hlt : 0 < k
  ·obtain ⟨i, rfl⟩ : ∃ i, k = i + 1 := ⟨k - 1, by omega⟩
   have e0 : (((i + 1 : Nat) : Int) - 1) = (i : Int) := by omega
   rw [e0];have HM := Lib.hid hM;clear hM
   go_wp2
   go_loopw [3, 5] (fun r b wr => ∃ t : Nat, t ≤ 8 ∧ b = .int .i64 ((128 / 2 ^ t : Nat) : Int) ∧ ∃ g c m, r = .slice (some ⟨g, 0, none⟩) 33 c ∧ MS w wr g m (partL l i t)) (fun _ b _ => (intOf b).toNat)
   case atStart => exact ⟨0, by omega, rfl, g, c, m, rfl, by rw [partL_zero]; exact HM.out⟩
   case round =>
    clear HM;obtain ⟨t, ht, rfl, g, c, m, rfl, hM⟩ := hrel
    by_cases h8 : t < 8
    ·have hx := h.below hM.be h.1
     have cx := hx.2 i (by omega);have hpn := part_next (l := l) (i := i) h8
     have hqe : 128 / 2 ^ t = 2 ^ (7 - t) := by
      rw [show (128 : Nat) = 2 ^ 7 by decide, Nat.pow_div (by omega) (by decide)]
     have hq2 : 128 / 2 ^ t / 2 = 128 / 2 ^ (t + 1) := by rw [Nat.div_div_eq_div_mul, Nat.pow_succ]
     rw [← hqe] at hpn
     have hq0 : 0 < 128 / 2 ^ t := by rw [hqe]; exact Nat.pow_pos (by decide)
     have hq1 : 128 / 2 ^ t ≤ 128 := Nat.div_le_self ..;have hxl := (l[i]!).toNat_lt;generalize (l[i]!).toNat = x at *;generalize hP : partL l i t = P at *;generalize 128 / 2 ^ t = q at *
     have hdv : (x : Int).tdiv (q : Int) = ((x / q : Nat) : Int) := by rw [Int.tdiv_eq_ediv_of_nonneg (by omega)]; rfl
     have hrm : ((x / q : Nat) : Int).tmod 2 = ((x / q % 2 : Nat) : Int) := by rw [Int.tmod_eq_emod_of_nonneg (Int.natCast_nonneg _)]; rfl
     have hxq : x / q ≤ x := Nat.div_le_self ..;have hb2 : x / q % 2 < 2 := Nat.mod_lt _ (by decide);generalize hbb : x / q % 2 = bb at *;generalize x / q = xq at *;have HM := Lib.hid hM;have HP := Lib.hid hpn;have HQ := Lib.hid hq2
     have hi2 : (i : Int) < (l.length : Int) := by omega
     clear hM hpn hq2 hqe hx hbb hP
     go_wp2
     go_loopw [6, 7] (fun cv kv wx => ∃ j : Nat, j ≤ 33 ∧ kv = .int .i64 j ∧ ∃ cc out, cv = .int .i64 cc ∧ Db m out (bb : Int) cc j ∧ RL wx g out ∧ Blk wx w.heap.size 22 z32 ∧ Below w.heap.size w wx) (fun _ kv _ => 33 - (intOf kv).toNat)
     case atStart => exact ⟨0, by omega, rfl, (bb : Int), m, rfl, Db.start (by omega), HM.out.r, HM.out.o, HM.out.be⟩
     case round =>
      obtain ⟨j, hj, rfl, cc, out, rfl, hD, hR, hO, hB⟩ := hrel;have hol := hD.len HM.out.len hj
      by_cases hj3 : j < 33
      ·obtain ⟨⟨hy0, hy1⟩, ⟨hc0, hc1⟩, hDn⟩ := hD.next HM.out.len HM.out.sm hj3
       have c0 := hR.2.1 j (by omega);have f0 := hR.2.2 j (by omega);have hRs := hR.set j ((2 * out[j]! + cc) % 256);have hOs := hO.far (p := ⟨g, j, none⟩) (by have := HM.out.hg; simp; omega) (.int .i64 ((2 * out[j]! + cc) % 256));have hBs := hB.setCell (p := ⟨g, j, none⟩) (by have := HM.out.hg; simp; omega) (.int .i64 ((2 * out[j]! + cc) % 256));generalize out[j]! = y at *;have hm1 : (2 * y + cc).tmod 256 = (2 * y + cc) % 256 := Int.tmod_eq_emod_of_nonneg (by omega);have hd1 : (2 * y + cc).tdiv 256 = (2 * y + cc) / 256 := Int.tdiv_eq_ediv_of_nonneg (by omega);have HD := Lib.hid (And.intro hDn (And.intro hRs (And.intro hOs hBs)));clear hD hR hO hB hDn hRs hOs hBs
       have hj33 : (j : Int) < 33 := by omega
       go_wp2
       go_roundw
       case rel => exact ⟨j + 1, by omega, by go_num, _, _, rfl, HD.out.1, HD.out.2.1, HD.out.2.2.1, HD.out.2.2.2⟩
       case measure => simp [intOf]; omega
      ·obtain rfl : j = 33 := by omega
       have hmv := HM.out.v;obtain ⟨⟨hmlo, hmge⟩, hm2⟩ := mod_bit (P := P) (v := P % LL) rfl hb2;have hLL : LL = 7237005577332262213973186563042994240857116359379907606001950938285454250989 := rfl;obtain ⟨hsm, hv⟩ := hD.last HM.out.len (by rw [hmv, W2_33]; omega)
       have hq3 : (q : Int).tdiv 2 = ((128 / 2 ^ (t + 1) : Nat) : Int) := by rw [Int.tdiv_eq_ediv_of_nonneg (by omega), ← HQ.out]; rfl
       have hqlt : 128 / 2 ^ (t + 1) < q := by rw [← HQ.out]; omega
       have hPn := HP.out;have hBl := below_any out g c wr hol hsm hR.il;have hgg := HM.out.hg
       by_cases hlo : 2 * (P % LL) + bb < LL
       ·have hlw : lowL out = true := by
         unfold lowL
         rw [hv, hmv];exact decide_eq_true (by omega)
        rw [hlw] at hBl;have hMn : MS w wr g out (partL l i (t + 1)) := ⟨hgg, hol, hsm, by rw [hv, hmv, hPn, ← hmlo hlo]; omega, hR, hO, hB⟩;have HN := Lib.hid hMn;have HBl := Lib.hid hBl;clear hMn hBl hD hR hO hB hv hmv hmlo hmge hm2 hPn hlw hlo HM HP HQ hsm hLL;generalize hq2 : 128 / 2 ^ (t + 1) = q2 at *
        go_wp2_with (fail)
        refine HBl.out.mono ?_
        rintro e w2 ⟨rfl, hw2⟩
        have HN2 := Lib.hid (HN.out.up hw2);clear HN HBl hw2
        go_wp2
        go_roundw
        case rel => exact ⟨t + 1, by omega, by rw [hq2], g, c, out, rfl, HN2.out⟩
        case measure => simp [intOf]; omega
       ·have hlw : lowL out = false := by
         unfold lowL
         rw [hv, hmv];exact decide_eq_false (by omega)
        have hLs := fun w2 (hw2 : Below wr.heap.size wr w2) => Lib.hid (less_any out g c w2 hol hsm (hR.later hw2).il hlw);rw [hlw] at hBl
        have hvv : V2 out - V2 od33 = ((partL l i (t + 1) % LL : Nat) : Int) := by
         rw [hv, hmv, hPn, ← hmge hlo, V2_od33]
         omega
        have HBl := Lib.hid hBl;have HF := Lib.hid (And.intro hO (And.intro hB hvv));clear hBl hD hR hO hB hv hmv hmlo hmge hm2 hPn hlw hlo HM HP HQ hsm hLL hvv;generalize hq2 : 128 / 2 ^ (t + 1) = q2 at *
        go_wp2_with (fail)
        refine HBl.out.mono ?_
        rintro e w2 ⟨rfl, hw2⟩
        have hLs2 := hLs w2 hw2;clear hLs
        go_wp2_with (fail)
        refine hLs2.out.mono ?_
        rintro e w3 ⟨m3, g3, c3, hm3, hs3, hv3, hg3, hR3, rfl, hw3⟩
        have hMn : MS w w3 g3 m3 (partL l i (t + 1)) := ⟨Nat.lt_of_lt_of_le (Nat.lt_of_lt_of_le HF.out.1.lt hw2.size) hg3, hm3, hs3, hv3.trans HF.out.2.2, hR3, (HF.out.1.later hw2).later hw3, (HF.out.2.1.trans (hw2.mono HF.out.2.1.size)).trans (hw3.mono (Nat.le_trans HF.out.2.1.size hw2.size))⟩;have HN2 := Lib.hid hMn;clear hMn HF HBl hLs2 hw2 hw3 hR3 hv3 hg3 hs3
        go_wp2
        go_roundw
        case rel => exact ⟨t + 1, by omega, by rw [hq2], g3, c3, m3, rfl, HN2.out⟩
        case measure => simp [intOf]; omega
    ·obtain rfl : t = 8 := by omega
     rw [part_eight (by omega)] at hM;have HM := Lib.hid hM;clear hM
     go_wp2
     go_roundw
     case rel => exact ⟨i, by omega, by go_num, g, c, m, rfl, HM.out⟩
     case measure => simp [intOf]
  ·obtain rfl : k = 0 := by omega
   rw [List.drop_zero] at hM;obtain ⟨hm0, hmb⟩ := bytes_of hM.len hM.sm hM.v (Nat.mod_lt _ (by decide));have hul : (Nums.bytes 32 (le l % LL)).length = 32 := bytes_len _ _
   have hget : ∀ j, j < 32 → (((Nums.bytes 32 (le l % LL))[j]!).toNat : Int) = m[j]! := fun j hj => by
    have hs := small_get hM.sm (i := j) (by rw [hM.len]; omega);rw [← hmb, getElem!_pos _ j (by rw [List.length_map, List.length_take, hM.len]; omega), List.getElem_map, List.getElem_take, ← getElem!_pos m j (by rw [hM.len]; omega), UInt8.toNat_ofNat_of_lt' (by show _ < 256; omega)]
    omega
   generalize hu : Nums.bytes 32 (le l % LL) = u at *;have HU := Lib.hid hu;clear hu;have hso := hM.o;have hwo := hM.o.lt;have HM := Lib.hid hM;have HG := Lib.hid hget;have hnew : ∀ o, Blk (wr.alloc (.cells o 22)) wr.heap.size 22 o := fun o => Blk.new wr _ _
   have HS : Hid (Blk (wr.alloc (.cells z32 22)) wr.heap.size 22 (By (filb u 0)).toArray ∧ RL (wr.alloc (.cells z32 22)) g m ∧ Blk (wr.alloc (.cells z32 22)) w.heap.size 22 z32 ∧ Below w.heap.size w (wr.alloc (.cells z32 22))) :=
    Lib.hid ⟨hnew _, hM.r.later ((Below.refl _ _).alloc (Nat.le_refl _) _), hM.o.alloc _, hM.be.alloc hM.be.size _⟩
   have hgl := hM.r.1;clear hM hm0 hmb hget hnew hso;generalize hgh : wr.heap.size = gh at *
   go_wp2
   clear hgh
   go_loopw [54] (fun iv wx => ∃ k : Nat, k ≤ 32 ∧ iv = .int .i64 k ∧ Blk wx gh 22 (By (filb u k)).toArray ∧ RL wx g m ∧ Blk wx w.heap.size 22 z32 ∧ Below w.heap.size w wx) (fun iv _ => 32 - (intOf iv).toNat)
   case atStart => exact ⟨0, by omega, rfl, HS.out⟩
   case round =>
    clear HS;obtain ⟨k, hk, rfl, hH, hR, hO, hB⟩ := hrel
    by_cases hlt : k < 32
    ·have c0 := hR.2.1 k (by rw [HM.out.len]; omega)
     have hsm := small_get HM.out.sm (i := k) (by rw [HM.out.len]; omega);have hgk := HG.out k hlt;have hgr : g ≠ gh := Nat.ne_of_lt hgl;have hfl := filb_len (u := u) (k := k) (by omega) hul;have f0 := hH.free k;have cH := (hH.cell k).trans (By_get (by omega));have hH2 := hH.set k (.int .u8 ((u[k]!).toNat : Int));rw [By_set, filb_set hlt hul, hgk] at hH2;have hR2 := hR.far (p := ⟨gh, k, none⟩) hgr (.int .u8 m[k]!);have hO2 := hO.far (p := ⟨gh, k, none⟩) (Nat.ne_of_lt hwo) (.int .u8 m[k]!);have hB2 := hB.setCell (p := ⟨gh, k, none⟩) (Nat.le_of_lt hwo) (.int .u8 m[k]!);have HD := Lib.hid (And.intro hH2 (And.intro hR2 (And.intro hO2 hB2)));clear hH hR hO hB hH2 hR2 hO2 hB2 hgk;generalize m[k]! = y at *
     go_wp2
     go_roundw
     case rel => exact ⟨k + 1, by omega, by go_num, HD.out⟩
     case measure => simp [intOf]; omega
    ·obtain rfl : k = 32 := by omega
     rw [filb_end hul] at hH;have hz := len_by hul;have HB := Lib.hid hB;clear hB hR
     go_wp2_with (first
      | (refine wpList_load_row rfl 22 _ rfl gh rfl 22 (By u).toArray (0, 0) _ hH Tryd.underlying22 rfl (size_hash _ hz) ?_)
      | (refine wpList_store_row rfl 22 _ _ rfl w.heap.size rfl (By u).toArray rfl 22 _ hO (size_hash _ hz) (by rw [hz]; rfl) (By_one _) ?_))
     refine bodyPost_ret (results_cell_row rfl _ _ w.heap.size 22 (By u).toArray (0, 0) _ rfl (hO.row _) Tryd.underlying22 rfl (size_hash _ hz)) rfl ⟨by rw [HU.out], ?_⟩;exact below_setRow HB.out (by omega) _
end Go.Proofs.YtiamoeifaahlfaaDoor
/-
  PLAIN NUMBERS: sums of bytes. No program is imported.
-/
namespace Nums

theorem le_take {l : List UInt8} {k : Nat} (h : k < l.length) : le (l.take (k + 1)) = le (l.take k) + 256 ^ k * (l[k]!).toNat := by
 rw [List.take_succ_eq_append_getElem h, le_append, List.length_take, Nat.min_eq_left (by omega), getElem!_pos l k h]
 show _ + _ * (l[k].toNat + 256 * 0) = _
 rw [Nat.mul_zero, Nat.add_zero]
theorem good_iff {b : List UInt8} (hb : b.length = 32) : decide (bytes 32 (le b % LL) = b) = decide (le b < LL) := by
 congr 1
 refine propext ⟨fun h => ?_, fun h => ?_⟩
 ·have h1 := congrArg le h
  rw [le_bytes] at h1;have h2 : le b % LL < LL := Nat.mod_lt _ (by decide);have h3 : le b % LL % 256 ^ 32 = le b % LL := Nat.mod_eq_of_lt (Nat.lt_trans h2 (by decide))
  omega
 ·apply le_inj (by rw [bytes_len, hb])
  rw [le_bytes, Nat.mod_eq_of_lt h, Nat.mod_eq_of_lt (Nat.lt_trans h (by decide))]
end Nums
/-
  THE PROGRAM'S SCALARS: New.
-/
namespace Go.Proofs.YtiamoeifaahlfaaDoor
open Go.RowKit Go.IntWalk Nums

theorem own_scnew : Own 30 := fun _ _ => by go_simp

def z64v : Array Value := (By (List.replicate 64 0)).toArray
section
variable {ops : Array Oper} {C0 : World → Prop} {Q : Act → Prop} {a : Act} {o : Oper} {rest : List Oper}
theorem b_by64 {l : List UInt8} (g : Nat) (hl : l.length = 64) (x : Operand) (hg : Region.wanted o (yielded ops a.tmps) = true) (ho : o.op = .load 32 x) (hx : a.eval x = .pointer (some ⟨g, 0, none⟩))
  (hc : ∀ w, C0 w → Blk w g 32 (By l).toArray) (hk : wpB Tryd.prog ops C0 Q rest (a.put o.dst (.agg (By l).toArray))) : wpB Tryd.prog ops C0 Q (o :: rest) a :=
 b_mid hg 32 x ho g 0 hx (By l) _ (fun w h => (hc w h).range) Tryd.underlying32 rfl (size_w64 (By l).toArray (len_b64 hl)) hk
end

theorem le_zero : ∀ n, le (List.replicate n 0) = 0
 | 0 => rfl
 | n + 1 => by
  show (0 : UInt8).toNat + 256 * le (List.replicate n 0) = 0
  rw [le_zero n]
  rfl
theorem cop_half {b : List UInt8} (hb : b.length = 32) : (cop (List.replicate 64 0) 0 b).length = 64 ∧ le (cop (List.replicate 64 0) 0 b) = le b := by
 have e : cop (List.replicate 64 0) 0 b = b ++ List.replicate 32 0 := by
  simp [cop, hb]
 rw [e];refine ⟨by simp [hb], ?_⟩;rw [le_append, le_zero, Nat.mul_zero, Nat.add_zero]

/-! ### New -/
set_option maxRecDepth 100000 in
set_option maxHeartbeats 1000000 in
theorem scnew_f {b : List UInt8} (hb : b.length = 32) (w : World) :
  Calls Tryd.prog 30 #[.agg (By b).toArray] w fun e w' => e = .returned (.tuple #[.agg (Us (ws (if le b < LL then le b else 0))).toArray, .bool (decide (le b < LL))]) ∧ Below w.heap.size w w' := by
 obtain ⟨hl, hle⟩ := cop_half hb;have hE := fun w1 => equal32 (Nums.bytes 32 (le b % LL)) b (bytes_len _ _) hb w1;rw [good_iff hb] at hE;have hW := fun w1 => wide_f hl w1;rw [hle] at hW;clear hle
 go_enter Tryd.func30, Tryd.ntmps30
 refine wp_seq_k fun K hK => ?_;refine wp_region_lit ?_;refine wpl_box (By b).toArray rfl rfl rfl ?_;refine wpl_alloc (zs := z4) rfl rfl (by kernel_rfl) ?_;refine wpl_assign rfl rfl ?_;refine wpl_nil ?_
 go_simp
 refine hK _ _ ?_;clear hK K;refine wp_seq_k fun K hK => ?_;refine wp_region_lit ?_;refine wpl_alloc (zs := z64v) rfl rfl (by kernel_rfl) ?_;refine wpl_nil ?_
 go_simp
 refine hK _ _ ?_;clear hK K;refine wp_at (fun W => Blk W w.heap.size 22 (By b).toArray ∧ Blk W (w.heap.size + 1) 44 z4 ∧ Blk W (w.heap.size + 1 + 1) 32 z64v ∧ Below w.heap.size w W) ⟨blk3_0 w _ _ _ _, blk3_1 w _ _ _ _, blk3_2 w _ _ _ _, (((Below.refl _ _).alloc (Nat.le_refl _) _).alloc (by simp) _).alloc (by simp; omega) _⟩ ?_
 rintro W ⟨h0, h1, h2, hbe⟩
 refine wp_seq_k fun K hK => ?_;refine reg_copy 2 (.tmp 6) (.tmp 7) rfl rfl rfl (tail_ok (by kernel_rfl)) (fun _ _ d _ _ h => by cases d <;> exact h) (by kernel_rfl) ?_;simp only [List.take_succ_cons, List.take_zero];refine b_val (v := .slice (some ⟨w.heap.size + 1 + 1, 0, none⟩) 64 64) rfl (fun w1 h1 => by go_simp) ?_;simp only [Act.put, List.setIfInBounds_toArray, List.set_cons_zero, List.set_cons_succ];refine b_val (v := .slice (some ⟨w.heap.size, 0, none⟩) 32 32) rfl (fun w1 h1 => by go_simp) ?_;simp only [Act.put, List.setIfInBounds_toArray, List.set_cons_zero, List.set_cons_succ];refine wpB_nil ⟨w.heap.size + 1 + 1, 0, 64, 64, w.heap.size, 32, _, _, _, b, rfl, by rw [hb]; rfl, h2, h0, by omega, by rw [hb, List.length_replicate]; omega, fun W1 hw1 => ?_⟩;simp only [Exit.then, Act.put, List.setIfInBounds_toArray, List.set_cons_zero, List.set_cons_succ];refine hK _ _ ?_;clear hK K;have k0 := (hw1.blk h0).rowFar (g' := w.heap.size + 1 + 1) (by omega) (By (cop (List.replicate 64 0) 0 b)).toArray;have k1 := (hw1.blk h1).rowFar (g' := w.heap.size + 1 + 1) (by omega) (By (cop (List.replicate 64 0) 0 b)).toArray;have k2 := (hw1.blk h2).row (By (cop (List.replicate 64 0) 0 b)).toArray;have kbe := below_setRow (below_up hbe hw1) (g := w.heap.size + 1 + 1) (by omega) (By (cop (List.replicate 64 0) 0 b)).toArray;clear hw1 h0 h1 h2 hbe;generalize cop (List.replicate 64 0) 0 b = l at *;generalize W1.setRow (w.heap.size + 1 + 1) (By l).toArray = W2 at *;have hz := len_u4 (ws_len (le b % LL));refine wp_seq_k fun K hK => ?_;refine reg_varF 2 5 44 (.tmp 10) z4 rfl rfl rfl rfl rfl rfl rfl (exec_alloc rfl (by kernel_rfl)) ?_;simp only [List.take_succ_cons, List.take_zero];refine b_by64 (w.heap.size + 1 + 1) hl _ rfl rfl rfl (fun _ h => h.blk k2) ?_;simp only [Act.put, List.setIfInBounds_toArray, List.set_cons_zero, List.set_cons_succ];refine b_one rfl own_wide (fun w1 => hW w1) rfl rfl ?_;simp only [Act.put, List.setIfInBounds_toArray, List.set_cons_zero, List.set_cons_succ];refine wpB_nil ⟨(Us (ws (le b % LL))).toArray, fun _ => rfl, fun _ => rfl, hz.symm, size_sc _ hz, Us_one _, fun gx W3 hgx hw1 hbx => ?_⟩;simp only [Exit.then, Act.put, List.setIfInBounds_toArray, List.set_cons_zero, List.set_cons_succ];refine hK _ _ ?_;clear hK K;have k0 := hw1.blk k0;have k1 := hw1.blk k1;have kbe := below_up kbe hw1;clear hw1 k2 hW hl;refine wp_seq_k fun K hK => ?_;refine wp_seq_k fun K2 hK2 => ?_;refine reg_q (by kernel_rfl) (tail_ok (by kernel_rfl)) (fun _ _ d _ _ h => by cases d <;> exact h) ?_;refine b_sc gx (ws_len _) _ rfl rfl rfl (fun _ h => h.blk hbx) ?_;simp only [Act.put, List.setIfInBounds_toArray, List.set_cons_zero, List.set_cons_succ];refine b_one rfl own_schash (fun w1 => schash_f (le b % LL) w1) rfl rfl ?_;simp only [Act.put, List.setIfInBounds_toArray, List.set_cons_zero, List.set_cons_succ];refine b_by w.heap.size hb _ rfl rfl rfl (fun _ h => h.blk k0) ?_;simp only [Act.put, List.setIfInBounds_toArray, List.set_cons_zero, List.set_cons_succ]
 refine b_neq (By (Nums.bytes 32 (le b % LL))).toArray (By b).toArray rfl rfl rfl rfl (by kernel_rfl) hE ?_;simp only [Act.put, List.setIfInBounds_toArray, List.set_cons_zero, List.set_cons_succ];refine wpB_nil ?_
 intro W1 hw1
 simp only [Exit.then];refine hK2 _ _ ?_;clear hK2 K2;have hbx := hw1.blk hbx;have k1 := hw1.blk k1;have kbe := below_up kbe hw1;clear hw1 k0 hE
 by_cases hq : le b < LL
 ·rw [decide_eq_true hq]
  have hm : le b % LL = le b := Nat.mod_eq_of_lt hq;rw [hm] at hbx hz;refine wp_cond (t := false) rfl ?_;rw [if_neg (by decide)];refine wp_skip ?_;simp only [Exit.then];refine hK _ _ ?_;clear hK K;refine wp_seq_k fun K hK => ?_;refine wp_region_lit ?_;refine wpList_load_row rfl 44 _ rfl gx rfl 44 (Us (ws (le b))).toArray (0, 0) _ hbx Tryd.underlying44 rfl (size_sc _ hz) ?_;simp only [Act.put, List.setIfInBounds_toArray, List.set_cons_zero, List.set_cons_succ];refine wpList_store_row rfl 44 _ _ rfl (w.heap.size + 1) rfl (Us (ws (le b))).toArray rfl 44 _ k1 (size_sc _ hz) (by rw [hz]; rfl) (Us_one _) ?_;refine wpl_assign rfl rfl ?_;refine wpl_nil ?_;simp only [Exit.then, Act.put, List.setIfInBounds_toArray, List.set_cons_zero, List.set_cons_succ];refine hK _ _ ?_;clear hK K;refine wp_ret ?_;refine bodyPost_ret (results_cell_tmp rfl _ _ (w.heap.size + 1) 44 (Us (ws (le b))).toArray (0, 0) _ (.bool true) rfl rfl (k1.row _) Tryd.underlying44 rfl (size_sc _ hz)) rfl ⟨by rw [if_pos hq, decide_eq_true hq], ?_⟩;exact below_setRow kbe (by omega) _
 ·rw [decide_eq_false hq]
  refine wp_cond (t := true) rfl ?_;rw [if_pos rfl];refine wp_seq_k fun K2 hK2 => ?_;refine wp_region_lit ?_;refine wpl_build (t := 44) [] z4 rfl rfl rfl (by kernel_rfl) ?_;simp only [Act.put, List.setIfInBounds_toArray, List.set_cons_zero, List.set_cons_succ];refine wpList_store_row rfl 44 _ _ rfl (w.heap.size + 1) rfl z4 rfl 44 _ k1 (size_sc _ rfl) rfl (Us_one _) ?_;refine wpl_assign rfl rfl ?_;refine wpl_nil ?_;simp only [Exit.then, Act.put, List.setIfInBounds_toArray, List.set_cons_zero, List.set_cons_succ];refine hK2 _ _ ?_;clear hK2 K2 hK;refine wp_ret ?_;simp only [Exit.then];refine bodyPost_ret (results_cell_tmp rfl _ _ (w.heap.size + 1) 44 z4 (0, 0) _ (.bool false) rfl rfl (k1.row _) Tryd.underlying44 rfl (size_sc _ rfl)) rfl ⟨by rw [if_neg hq]; rfl, ?_⟩;exact below_setRow kbe (by omega) _

end Go.Proofs.YtiamoeifaahlfaaDoor
/-
  STEPS AT THE DOCUMENT'S OWN POINTS, over frames by what is known of them.
-/
namespace Go.Proofs.YtiamoeifaahlfaaDoor
open Go.RowKit Go.IntWalk Nums

theorem own_rnew : Own 6 := fun _ _ => by go_simp
theorem own_rbase : Own 22 := fun _ _ => by go_simp
theorem own_rmul5 : Own 21 := fun _ _ => by go_simp
theorem own_radd5 : Own 38 := fun _ _ => by go_simp
theorem own_rneg : Own 39 := fun _ _ => by go_simp
theorem own_rbytes : Own 20 := fun _ _ => by go_simp
theorem own_rsmall : Own 35 := fun _ _ => by go_simp
theorem own_rdecode : Own 34 := fun _ _ => by go_simp
theorem own_cboth : Own 31 := fun _ _ => by go_simp
theorem size_C {l : List Int} (h : l.length = 16) : (Tryd.prog.info? 29).map (·.size) = some (Is l).toArray.size := size_curve _ (by rw [List.size_toArray, Is_len, h])
theorem pr_len {X Y Z T : List Int} {A : Ed.Pt p} (h : PR X Y Z T A) : (pt X Y Z T).toArray.size = 64 := by
 obtain ⟨⟨x, y, z, hx, hy, hz, _⟩, _, ht⟩ := h;exact pt_len hx.len hy.len hz.len ht
theorem pt0_len : (pt n16 n16 n16 n16).toArray.size = 64 := pt_len n16_len n16_len n16_len n16_len
section
variable {ops : Array Oper} {C0 : World → Prop} {Q : Act → Prop} {N : Nat} {E : List (Nat × Value)} {o : Oper} {rest : List Oper} {k : Nat}
theorem f_cu {x : Operand} {l : List Int} (b : Nat) (hl : l.length = 16) (hg : o.guard = none) (hd : o.dst = some k) (hk : Nat.blt k N = true) (ho : o.op = .load 29 x) (hx : ev E x = some (.pointer (some ⟨b, 0, none⟩)))
  (hc : ∀ w, C0 w → w.rangeAt b 0 (Is l)) (hn : bF Tryd.prog ops C0 Q rest N ((k, .agg (Is l).toArray) :: E)) : bF Tryd.prog ops C0 Q (o :: rest) N E :=
 f_row b 0 (Is l) _ hg hd hk ho hx hc Tryd.underlying29 rfl (by have := size_C hl; simpa using this) hn
theorem f_rp {x : Operand} {X Y Z T : List Int} (b : Nat) (hl : (pt X Y Z T).toArray.size = 64) (hg : o.guard = none) (hd : o.dst = some k) (hk : Nat.blt k N = true) (ho : o.op = .load 54 x) (hx : ev E x = some (.pointer (some ⟨b, 0, none⟩)))
  (hc : ∀ w, C0 w → w.rangeAt b 0 (pt X Y Z T)) (hn : bF Tryd.prog ops C0 Q rest N ((k, .agg (pt X Y Z T).toArray) :: E)) : bF Tryd.prog ops C0 Q (o :: rest) N E :=
 f_row b 0 (pt X Y Z T) _ hg hd hk ho hx hc Tryd.underlying54 rfl (by have := size_pt _ hl; simpa using this) hn
theorem f_cur {f : FuncId} {xs : Array Operand} {ats : Array TypeId} (args : Array Value) (hg : o.guard = none) (hd : o.dst = some k) (hk : Nat.blt k N = true)
  (hf : Own f) (hc : ∀ w, C0 w → Calls Tryd.prog f args w (fun e w' => ∃ r, NB 65573 r dd ∧ e = .returned (.agg (Is r).toArray) ∧ Below w.heap.size w w'))
  (ho : o.op = .call { callee := .value (.func f), args := xs, argTypes := ats }) (hx : xs.toList.map (ev E) = args.toList.map some) (hn : ∀ r, NB 65573 r dd → bF Tryd.prog ops C0 Q rest N ((k, .agg (Is r).toArray) :: E)) : bF Tryd.prog ops C0 Q (o :: rest) N E := by
 refine f_callV args (fun v => ∃ r, NB 65573 r dd ∧ v = .agg (Is r).toArray) hg hd hk hf (fun w hw => (hc w hw).mono ?_) ho hx ?_
 ·rintro e w2 ⟨r, hr, rfl, hw2⟩
  exact ⟨_, rfl, ⟨r, hr, rfl⟩, hw2⟩
 ·rintro _ ⟨r, hr, rfl⟩
  exact hn r hr
theorem f_rpt {f : FuncId} {xs : Array Operand} {ats : Array TypeId} (args : Array Value) (A : Ed.Pt p) (hg : o.guard = none) (hd : o.dst = some k) (hk : Nat.blt k N = true)
  (hf : Own f) (hc : ∀ w, C0 w → Calls Tryd.prog f args w (fun e w' => ∃ X Y Z T, PR X Y Z T A ∧ e = .returned (.agg (pt X Y Z T).toArray) ∧ Below w.heap.size w w'))
  (ho : o.op = .call { callee := .value (.func f), args := xs, argTypes := ats }) (hx : xs.toList.map (ev E) = args.toList.map some) (hn : ∀ X Y Z T, PR X Y Z T A → bF Tryd.prog ops C0 Q rest N ((k, .agg (pt X Y Z T).toArray) :: E)) : bF Tryd.prog ops C0 Q (o :: rest) N E := by
 refine f_callV args (fun v => ∃ X Y Z T, PR X Y Z T A ∧ v = .agg (pt X Y Z T).toArray) hg hd hk hf (fun w hw => (hc w hw).mono ?_) ho hx ?_
 ·rintro e w2 ⟨X, Y, Z, T, hr, rfl, hw2⟩
  exact ⟨_, rfl, ⟨X, Y, Z, T, hr, rfl⟩, hw2⟩
 ·rintro _ ⟨X, Y, Z, T, hr, rfl⟩
  exact hn X Y Z T hr
end
theorem rdec_pt {D : List Int} (hD : NB 65573 D dd) {A : Ed.Pt p} (hA : Ed.On dd A) (w : World) : Calls Tryd.prog 34 #[.agg (Is D).toArray, .agg (By (encP A)).toArray] w fun e w' =>
  ∃ v, e = .returned v ∧ (∃ X Y Z T, PR X Y Z T A ∧ v = .tuple #[.agg (pt X Y Z T).toArray, .bool true]) ∧ Below w.heap.size w w' :=
 (decode_f hD (encP_len A) w).mono fun e w' ⟨h, hw⟩ => by
  rcases h with ⟨X, Y, Z, T, B, hl, hB, he⟩ | ⟨h, _⟩
  ·have : B = A := encP_inj hl.on hA hB
   subst this;exact ⟨_, he, ⟨X, Y, Z, T, hl, rfl⟩, hw⟩
  ·exact absurd ⟨A, hA, rfl⟩ h
theorem rdec_no {D : List Int} (hD : NB 65573 D dd) {b : List UInt8} (hb : b.length = 32) (hn : ¬ ∃ A, Ed.On dd A ∧ encP A = b) (w : World) : Calls Tryd.prog 34 #[.agg (Is D).toArray, .agg (By b).toArray] w fun e w' =>
  e = .returned (.tuple #[.agg (pt n16 n16 n16 n16).toArray, .bool false]) ∧ Below w.heap.size w w' :=
 (decode_f hD hb w).mono fun e w' ⟨h, hw⟩ => by
  rcases h with ⟨X, Y, Z, T, B, hl, hB, _⟩ | ⟨_, he⟩
  ·exact absurd ⟨B, hl.on, hB⟩ hn
  ·exact ⟨he, hw⟩
end Go.Proofs.YtiamoeifaahlfaaDoor
/-
  THE PROGRAM'S SIGNATURES: Verify.
-/
namespace Go.Proofs.YtiamoeifaahlfaaDoor
open Go.RowKit Go.IntWalk Nums

theorem own_verify : Own 11 := fun _ _ => by go_simp
open Classical in
noncomputable def rightB (key sig m : List UInt8) : Bool := decide (Right key sig m)
open Classical in
theorem rightB_no {key sig m : List UInt8} (h : ¬ ∃ A, Ed.On dd A ∧ encP A = key) : rightB key sig m = false := decide_eq_false fun ⟨A, h1, h2, _⟩ => h ⟨A, h1, h2⟩
open Classical in
theorem rightB_small {A : Ed.Pt p} {sig m : List UInt8} (hA : Ed.On dd A) (h : Ed.mul dd 8 A = Ed.zero) : rightB (encP A) sig m = false := decide_eq_false fun ⟨B, h1, h2, h3, _⟩ => h3 (by rw [encP_inj h1 hA h2]; exact h)
open Classical in
theorem rightB_great {key sig m : List UInt8} (h : ¬ le (sig.drop 32) < LL) : rightB key sig m = false := decide_eq_false fun ⟨_, _, _, _, h4, _⟩ => h h4
theorem rightB_is {A : Ed.Pt p} {sig m : List UInt8} (hA : Ed.On dd A) (h8 : Ed.mul dd 8 A ≠ Ed.zero) (hS : le (sig.drop 32) < LL) :
  rightB (encP A) sig m = decide (encP (Ed.add dd (Ed.mul dd (le (Nums.bytes 32 (le (sig.drop 32)))) base) (Ed.mul dd (le (Nums.bytes 32 (sgK (sig.take 32) (encP A) m))) (Ed.neg A))) = sig.take 32) := by
 rw [le_bytesL hS, le_bytesL (sgK_lt _ _ _), Ed.mul_neg good hA]
 unfold rightB
 rw [decide_eq_decide]
 constructor
 ·rintro ⟨B, h1, h2, _, _, h5⟩
  obtain rfl := encP_inj h1 hA h2;exact h5
 ·exact fun h => ⟨A, hA, rfl, h8, hS, h⟩
theorem small_dec {A : Ed.Pt p} (hA : Ed.On dd A) : encP (Ed.mul dd 8 A) = encP Ed.zero ↔ Ed.mul dd 8 A = Ed.zero :=
 ⟨fun h => encP_inj (Ed.on_mul good hA 8) Ed.on_zero h, fun h => by rw [h]⟩
section
variable {ops : Array Oper} {C0 : World → Prop} {Q : Act → Prop} {N : Nat} {E : List (Nat × Value)} {o : Oper} {rest : List Oper} {k : Nat}
theorem f_neE {x y : Operand} {t t' : TypeId} (m n : Int) (q : Bool) (hg : o.guard = none) (hd : o.dst = some k) (hk : Nat.blt k N = true) (ho : o.op = .binOp .neq t x y t') (ht : t = 65) (hx : ev E x = some (.int .i64 m)) (hy : ev E y = some (.int .i64 n))
  (hr : decide (m ≠ n) = q) (hn : bF Tryd.prog ops C0 Q rest N ((k, .bool q) :: E)) : bF Tryd.prog ops C0 Q (o :: rest) N E := by
 subst ht
 exact f_val _ hg hd hk (fun a ha w _ => by
  have h1 := ha.eval hx;have h2 := ha.eval hy;subst hr
  unfold execOp
  simp only [ho, h1, h2]
  by_cases e : m = n <;> go_simp) hn
end

set_option maxRecDepth 100000 in
set_option maxHeartbeats 2000000 in
theorem verify_f {key sig : List UInt8} {P : Option Addr} {ls : List (List UInt8)} {pc : Nat} (hk : key.length = 32) (hs : sig.length = 64) (w : World) (hT : Ta w) (hP : PT w P ls) (h0 : P = none → pc = 0) (hls : ls.length ≤ 1000000) :
  Calls Tryd.prog 11 #[.agg (By key).toArray, .agg (By sig).toArray, .slice P ls.length pc] w fun e w' => e = .returned (.bool (rightB key sig ls.flatten)) ∧ Below w.heap.size w w' := by
 refine calls_F (vs := [.agg (By key).toArray, .agg (By sig).toArray, .slice P ls.length pc]) 50 Tryd.func11 rfl (by rw [Tryd.ntmps11]; rfl) ?_;have hU := Up.refl w;refine c_seq fun K hK => ?_;refine c_lit ?_;refine l_boxA ((By key).toArray) rfl rfl rfl rfl rfl fun W1 g1 hw1 hg1 b1 => ?_;replace hU := hU.step hw1;clear hw1 hg1;refine l_boxA ((By sig).toArray) rfl rfl rfl rfl rfl fun W2 g2 hw2 hg2 b2 => ?_;replace b1 := b1.later hw2;replace hU := hU.step hw2;clear hw2 hg2;refine l_assign (.bool false) rfl rfl rfl rfl rfl ?_;refine l_nil ?_;refine hK _ _ ?_;clear hK K
 by_cases hA : ∃ A, Ed.On dd A ∧ encP A = key
 ·obtain ⟨A, hA, rfl⟩ := hA
  refine c_seq fun K hK => ?_;refine c_gF 5 ?_;refine g_op rfl ?_;refine f_by g1 0 hk rfl rfl rfl rfl rfl (fun _ h1 => (h1.1.blk b1).range) ?_;refine g_go ?_;refine g_op rfl ?_;refine f_callV #[.agg (By (encP A)).toArray] (fun v => ∃ l, QB l A ∧ v = .tuple #[.agg (Us l).toArray, .int .i64 0]) rfl rfl rfl own_cdecode (fun w1 h1 => cdec_pt hA w1 (hT.below (hU.step h1.1)).tw) rfl rfl ?_
  rintro _ ⟨l, hl, rfl⟩
  refine g_go ?_;refine g_op rfl ?_;refine f_move (.tuple #[.agg (Us l).toArray, .int .i64 0]) rfl rfl rfl rfl rfl ?_;refine g_go ?_;refine g_op rfl ?_;refine f_extract (.agg (Us l).toArray) rfl rfl rfl rfl rfl rfl ?_;refine g_go ?_;refine g_op rfl ?_;refine f_extract (.int .i64 0) rfl rfl rfl rfl rfl rfl ?_;refine g_go ?_;refine g_end fun W3 hw3 hF3 => ?_;clear hF3;replace b1 := b1.later hw3;replace b2 := b2.later hw3;replace hU := hU.step hw3;clear hw3;refine l_allocA ((Us pz).toArray) rfl rfl rfl rfl (by kernel_rfl) fun W4 g4 hw4 hg4 b4 => ?_
  have n1_4 : g1 ≠ g4 := by have := b1.lt; omega
  have n2_4 : g2 ≠ g4 := by have := b2.lt; omega
  have q4 : w.heap.size ≤ g4 := by rw [hg4]; exact hU.size
  replace b1 := b1.later hw4;replace b2 := b2.later hw4;replace hU := hU.step hw4;clear hw4 hg4;refine l_set g4 _ ((Us l).toArray) rfl rfl rfl rfl rfl b4 (size_P hl.len) ((us_size pz_len).trans (us_size hl.len).symm) (Us_oneA _) ?_;replace b1 := b1.rowFar n1_4 ((Us l).toArray);replace b2 := b2.rowFar n2_4 ((Us l).toArray);replace b4 := b4.row ((Us l).toArray);replace hU := up_row hU q4 ((Us l).toArray);generalize World.setRow _ g4 ((Us l).toArray) = W5 at *;refine l_assign (.int .i64 0) rfl rfl rfl rfl rfl ?_;refine l_nil ?_;refine hK _ _ ?_;clear hK K;have hsm := small_dec hA;refine c_seq fun K0 hK0 => ?_;refine c_seq fun K hK => ?_;refine c_gF 6 ?_;refine g_op rfl ?_;refine f_move (.int .i64 0) rfl rfl rfl rfl rfl ?_;refine g_go ?_;refine g_op rfl ?_;refine f_neE _ 0 false rfl rfl rfl rfl rfl rfl rfl (by decide) ?_;refine g_go ?_;refine g_op rfl ?_;refine f_move (.bool false) rfl rfl rfl rfl rfl ?_;refine g_go ?_;refine g_guard rfl rfl rfl rfl ?_;refine g_op rfl ?_;refine f_pt g4 0 hl.len rfl rfl rfl rfl rfl (fun _ h1 => (h1.1.blk b4).range) ?_;refine g_go ?_;refine g_guard rfl rfl rfl rfl ?_;refine g_op rfl ?_;refine f_call #[.agg (Us l).toArray] (.bool (decide (encP (Ed.mul dd 8 A) = encP Ed.zero))) rfl rfl rfl own_csmall (fun w1 h1 => csmall_f (.inr hl) w1 (hT.below (hU.step h1.1)).tw) rfl rfl ?_;refine g_go ?_;refine g_op rfl ?_;refine f_pickF (.bool ((decide (encP (Ed.mul dd 8 A) = encP Ed.zero)))) rfl rfl rfl rfl rfl rfl ?_;refine g_go ?_;refine g_end fun W6 hw6 hF6 => ?_;clear hF6;replace b1 := b1.later hw6;replace b2 := b2.later hw6;replace b4 := b4.later hw6;replace hU := hU.step hw6;clear hw6;refine l_nil ?_;refine hK _ _ ?_;clear hK K
  by_cases h8 : Ed.mul dd 8 A = Ed.zero
  ·rw [decide_eq_true (hsm.2 h8)]
   refine c_cond true rfl ?_;rw [if_pos rfl];refine c_seq fun K hK => ?_;refine c_lit ?_;refine l_assign (.bool false) rfl rfl rfl rfl rfl ?_;refine l_nil ?_;refine hK _ _ ?_;clear hK K;rw [rightB_small hA h8];exact c_ret (k_then_ret (fun a ha => bodyPost_ret (results_tmp rfl _ _ _) ha.defers ⟨congrArg Ending.returned (ha.get 6 _ rfl), hU⟩))
  ·rw [decide_eq_false fun h => h8 (hsm.1 h)]
   refine c_cond false rfl ?_;rw [if_neg (by decide)];refine c_skip ?_;refine hK0 _ _ ?_;clear hK0 K0;clear hsm;refine c_seq fun K hK => ?_;refine c_gF 7 ?_;refine g_op rfl ?_;refine f_slice64h g2 rfl rfl rfl rfl rfl ?_;refine g_go ?_;refine g_op rfl ?_;refine f_arrp (some ⟨g2, 32, none⟩) 32 rfl rfl rfl rfl rfl ?_;refine g_go ?_;refine g_op rfl ?_;refine f_by g2 32 (drop32 hs) rfl rfl rfl rfl rfl (fun _ h1 => rng_drop (h1.1.blk b2) hs) ?_;refine g_go ?_;refine g_op rfl ?_;refine f_call #[.agg (By (sig.drop 32)).toArray] (.tuple #[.agg (Us (ws ((if le (sig.drop 32) < LL then le (sig.drop 32) else 0)))).toArray, .bool ((decide (le (sig.drop 32) < LL)))]) rfl rfl rfl own_scnew (fun w1 h1 => scnew_f (drop32 hs) w1) rfl rfl ?_;refine g_go ?_;refine g_op rfl ?_;refine f_move (.tuple #[.agg (Us (ws ((if le (sig.drop 32) < LL then le (sig.drop 32) else 0)))).toArray, .bool ((decide (le (sig.drop 32) < LL)))]) rfl rfl rfl rfl rfl ?_;refine g_go ?_;refine g_op rfl ?_;refine f_extract (.agg (Us (ws ((if le (sig.drop 32) < LL then le (sig.drop 32) else 0)))).toArray) rfl rfl rfl rfl rfl rfl ?_;refine g_go ?_;refine g_op rfl ?_;refine f_extract (.bool ((decide (le (sig.drop 32) < LL)))) rfl rfl rfl rfl rfl rfl ?_;refine g_go ?_;refine g_end fun W7 hw7 hF7 => ?_;clear hF7;replace b1 := b1.later hw7;replace b2 := b2.later hw7;replace b4 := b4.later hw7;replace hU := hU.step hw7;clear hw7;refine l_allocA z4 rfl rfl rfl rfl (by kernel_rfl) fun W8 g8 hw8 hg8 b8 => ?_
   have n1_8 : g1 ≠ g8 := by have := b1.lt; omega
   have n2_8 : g2 ≠ g8 := by have := b2.lt; omega
   have n4_8 : g4 ≠ g8 := by have := b4.lt; omega
   have q8 : w.heap.size ≤ g8 := by rw [hg8]; exact hU.size
   replace b1 := b1.later hw8;replace b2 := b2.later hw8;replace b4 := b4.later hw8;replace hU := hU.step hw8;clear hw8 hg8;refine l_set g8 _ ((Us (ws ((if le (sig.drop 32) < LL then le (sig.drop 32) else 0)))).toArray) rfl rfl rfl rfl rfl b8 (size_S _) (by rw [us_size (ws_len _)]; rfl) (Us_oneA _) ?_;replace b1 := b1.rowFar n1_8 ((Us (ws ((if le (sig.drop 32) < LL then le (sig.drop 32) else 0)))).toArray);replace b2 := b2.rowFar n2_8 ((Us (ws ((if le (sig.drop 32) < LL then le (sig.drop 32) else 0)))).toArray);replace b4 := b4.rowFar n4_8 ((Us (ws ((if le (sig.drop 32) < LL then le (sig.drop 32) else 0)))).toArray);replace b8 := b8.row ((Us (ws ((if le (sig.drop 32) < LL then le (sig.drop 32) else 0)))).toArray);replace hU := up_row hU q8 ((Us (ws ((if le (sig.drop 32) < LL then le (sig.drop 32) else 0)))).toArray);generalize World.setRow _ g8 ((Us (ws ((if le (sig.drop 32) < LL then le (sig.drop 32) else 0)))).toArray) = W9 at *;refine l_assign (.bool ((decide (le (sig.drop 32) < LL)))) rfl rfl rfl rfl rfl ?_;refine l_nil ?_;refine hK _ _ ?_;clear hK K
   by_cases hS : le (sig.drop 32) < LL
   ·rw [decide_eq_true hS]
    refine c_seq fun K0 hK0 => ?_;refine c_seq fun K hK => ?_;refine c_gF 2 ?_;refine g_op rfl ?_;refine f_move (.bool true) rfl rfl rfl rfl rfl ?_;refine g_go ?_;refine g_op rfl ?_;refine f_not true false rfl rfl rfl rfl rfl rfl ?_;refine g_go ?_;refine g_end fun W10 hw10 hF10 => ?_;clear hF10;replace b1 := b1.later hw10;replace b2 := b2.later hw10;replace b4 := b4.later hw10;replace b8 := b8.later hw10;replace hU := hU.step hw10;clear hw10;refine l_nil ?_;refine hK _ _ ?_;clear hK K;refine c_cond false rfl ?_;rw [if_neg (by decide)];refine c_skip ?_;refine hK0 _ _ ?_;clear hK0 K0;rw [if_pos hS] at b8;refine c_seq fun K hK => ?_;refine c_gF 3 ?_;refine g_op rfl ?_;refine f_slice64l g2 rfl rfl rfl rfl rfl ?_;refine g_go ?_;refine g_op rfl ?_;refine f_arrp (some ⟨g2, 0, none⟩) 64 rfl rfl rfl rfl rfl ?_;refine g_go ?_;refine g_op rfl ?_;refine f_by g2 0 (take32 hs) rfl rfl rfl rfl rfl (fun _ h1 => rng_take (h1.1.blk b2) hs) ?_;refine g_go ?_;refine g_end fun W11 hw11 hF11 => ?_;clear hF11;replace b1 := b1.later hw11;replace b4 := b4.later hw11;replace b8 := b8.later hw11;replace hU := hU.step hw11;clear hw11;refine l_allocA z32 rfl rfl rfl rfl (by kernel_rfl) fun W12 g12 hw12 hg12 b12 => ?_
    have n1_12 : g1 ≠ g12 := by have := b1.lt; omega
    have n4_12 : g4 ≠ g12 := by have := b4.lt; omega
    have n8_12 : g8 ≠ g12 := by have := b8.lt; omega
    have q12 : w.heap.size ≤ g12 := by rw [hg12]; exact hU.size
    replace b1 := b1.later hw12;replace b4 := b4.later hw12;replace b8 := b8.later hw12;replace hU := hU.step hw12;clear hw12 hg12;refine l_set g12 _ ((By (sig.take 32)).toArray) rfl rfl rfl rfl rfl b12 (size_H (take32 hs)) (by rw [len_by (take32 hs)]; rfl) (By_oneA _) ?_;replace b1 := b1.rowFar n1_12 ((By (sig.take 32)).toArray);replace b4 := b4.rowFar n4_12 ((By (sig.take 32)).toArray);replace b8 := b8.rowFar n8_12 ((By (sig.take 32)).toArray);replace b12 := b12.row ((By (sig.take 32)).toArray);replace hU := up_row hU q12 ((By (sig.take 32)).toArray);generalize World.setRow _ g12 ((By (sig.take 32)).toArray) = W13 at *;refine l_nil ?_;refine hK _ _ ?_;clear hK K;refine c_seq fun K hK => ?_;refine c_g 5 (by decide) (by kernel_rfl) (by kernel_rfl) ?_;refine g_op rfl ?_;refine f_slice32 g12 rfl rfl rfl rfl rfl ?_;refine g_go ?_;refine g_op rfl ?_;refine f_slice32 g1 rfl rfl rfl rfl rfl ?_;refine g_go ?_;refine g_op rfl ?_;refine f_move (.slice P ls.length pc) rfl rfl rfl rfl rfl ?_;refine g_go ?_;refine g_op rfl ?_
    refine f_call #[.slice (some ⟨g12, 0, none⟩) 32 32, .slice (some ⟨g1, 0, none⟩) 32 32, .slice P ls.length pc] (.agg (Us (ws ((sgK (sig.take 32) (encP A) ls.flatten)))).toArray) rfl rfl rfl own_number (fun w1 h1 => by
      have := number_f (P := P) (ls := ls) (pc := pc) w1 (hT.below (hU.step h1.1)).sh (SB.all (b12.later h1.1) (take32 hs) (by decide)) (SB.all (b1.later h1.1) hk (by decide)) (hP.later (hU.step h1.1)) h0 hls
      rwa [sgK_eq] at this) rfl rfl ?_
    refine g_go ?_;refine g_alloc z4 (W13).heap.size rfl rfl rfl rfl rfl (by kernel_rfl) (fun _ h => h.size) (fun g w w' h hr => ⟨h.1, h.2.later hr⟩) fun g14 _ _ _ _ => ?_;refine g_end fun W15 hw15 hF15 => ?_;have b14 := (hF15 4 _ rfl).2;have ge14 := (hF15 4 _ rfl).1
    have n1_14 : g1 ≠ g14 := by have := b1.lt; omega
    have n4_14 : g4 ≠ g14 := by have := b4.lt; omega
    have n8_14 : g8 ≠ g14 := by have := b8.lt; omega
    have n12_14 : g12 ≠ g14 := by have := b12.lt; omega
    have q14 : w.heap.size ≤ g14 := Nat.le_trans hU.size ge14;clear ge14;clear hF15;replace b1 := b1.later hw15;replace b4 := b4.later hw15;replace b8 := b8.later hw15;replace b12 := b12.later hw15;replace hU := hU.step hw15;clear hw15;refine l_set g14 _ ((Us (ws ((sgK (sig.take 32) (encP A) ls.flatten)))).toArray) rfl rfl rfl rfl rfl b14 (size_S _) (by rw [us_size (ws_len _)]; rfl) (Us_oneA _) ?_;replace b1 := b1.rowFar n1_14 ((Us (ws ((sgK (sig.take 32) (encP A) ls.flatten)))).toArray);replace b4 := b4.rowFar n4_14 ((Us (ws ((sgK (sig.take 32) (encP A) ls.flatten)))).toArray);replace b8 := b8.rowFar n8_14 ((Us (ws ((sgK (sig.take 32) (encP A) ls.flatten)))).toArray);replace b12 := b12.rowFar n12_14 ((Us (ws ((sgK (sig.take 32) (encP A) ls.flatten)))).toArray);replace b14 := b14.row ((Us (ws ((sgK (sig.take 32) (encP A) ls.flatten)))).toArray);replace hU := up_row hU q14 ((Us (ws ((sgK (sig.take 32) (encP A) ls.flatten)))).toArray);generalize World.setRow _ g14 ((Us (ws ((sgK (sig.take 32) (encP A) ls.flatten)))).toArray) = W16 at *;refine l_nil ?_;refine hK _ _ ?_;clear hK K;refine c_seq fun K hK => ?_;refine c_g 11 (by decide) (by kernel_rfl) (by kernel_rfl) ?_;refine g_op rfl ?_;refine f_sc g8 ((le (sig.drop 32))) rfl rfl rfl rfl rfl (fun _ h1 => (h1.1.blk b8).range) ?_;refine g_go ?_;refine g_op rfl ?_;refine f_call #[.agg (Us (ws ((le (sig.drop 32))))).toArray] (.agg (By (Nums.bytes 32 ((le (sig.drop 32))))).toArray) rfl rfl rfl own_schash (fun w1 h1 => schash_f ((le (sig.drop 32))) w1) rfl rfl ?_;refine g_go ?_;refine g_op rfl ?_;refine f_pt g4 0 hl.len rfl rfl rfl rfl rfl (fun _ h1 => (h1.1.blk b4).range) ?_;refine g_go ?_;refine g_op rfl ?_;refine f_us #[.agg (Us l).toArray] (QB · (Ed.neg A)) rfl rfl rfl own_cneg (fun w1 h1 => cneg_f (.inr hl) w1 (hT.below (hU.step h1.1)).tw) rfl rfl fun r43 v43 => ?_;refine g_go ?_;refine g_op rfl ?_;refine f_sc g14 ((sgK (sig.take 32) (encP A) ls.flatten)) rfl rfl rfl rfl rfl (fun _ h1 => (h1.1.blk b14).range) ?_;refine g_go ?_;refine g_op rfl ?_;refine f_call #[.agg (Us (ws ((sgK (sig.take 32) (encP A) ls.flatten)))).toArray] (.agg (By (Nums.bytes 32 ((sgK (sig.take 32) (encP A) ls.flatten)))).toArray) rfl rfl rfl own_schash (fun w1 h1 => schash_f ((sgK (sig.take 32) (encP A) ls.flatten)) w1) rfl rfl ?_;refine g_go ?_;refine g_op rfl ?_;refine f_us #[.agg (By (Nums.bytes 32 ((le (sig.drop 32))))).toArray, .agg (Us r43).toArray, .agg (By (Nums.bytes 32 ((sgK (sig.take 32) (encP A) ls.flatten)))).toArray] (PB · (Ed.add dd (Ed.mul dd (le (Nums.bytes 32 ((le (sig.drop 32))))) base) (Ed.mul dd (le (Nums.bytes 32 ((sgK (sig.take 32) (encP A) ls.flatten)))) (Ed.neg A)))) rfl rfl rfl own_cboth (fun w1 h1 => cboth_f (bytes_len _ _) (.inr v43) (bytes_len _ _) w1 (hT.below (hU.step h1.1)).tw) rfl rfl fun r46 v46 => ?_;refine g_go ?_;refine g_op rfl ?_;refine f_call #[.agg (Us r46).toArray] (.agg (By (encP (Ed.add dd (Ed.mul dd (le (Nums.bytes 32 ((le (sig.drop 32))))) base) (Ed.mul dd (le (Nums.bytes 32 ((sgK (sig.take 32) (encP A) ls.flatten)))) (Ed.neg A))))).toArray) rfl rfl rfl own_chash (fun w1 h1 => chash_f v46 w1 (hT.below (hU.step h1.1)).tw) rfl rfl ?_
    refine g_go ?_;refine g_op rfl ?_;refine f_by g12 0 (take32 hs) rfl rfl rfl rfl rfl (fun _ h1 => (h1.1.blk b12).range) ?_;refine g_go ?_;refine g_op rfl ?_;refine f_eqd (encP (Ed.add dd (Ed.mul dd (le (Nums.bytes 32 ((le (sig.drop 32))))) base) (Ed.mul dd (le (Nums.bytes 32 ((sgK (sig.take 32) (encP A) ls.flatten)))) (Ed.neg A)))) (sig.take 32) rfl rfl rfl rfl rfl rfl rfl ((encP_len _)) (take32 hs) ?_;refine g_go ?_;refine g_op rfl ?_;refine f_assign (.bool ((decide (encP (Ed.add dd (Ed.mul dd (le (Nums.bytes 32 ((le (sig.drop 32))))) base) (Ed.mul dd (le (Nums.bytes 32 ((sgK (sig.take 32) (encP A) ls.flatten)))) (Ed.neg A))) = sig.take 32)))) rfl rfl rfl rfl rfl ?_;refine g_go ?_;refine g_end fun W17 hw17 hF17 => ?_;clear hF17;replace b1 := b1.later hw17;replace b4 := b4.later hw17;replace hU := hU.step hw17;clear hw17;refine l_nil ?_;refine hK _ _ ?_;clear hK K;rw [rightB_is hA h8 hS];exact c_ret (fun a ha => bodyPost_ret (results_tmp rfl _ _ _) ha.defers ⟨congrArg Ending.returned (ha.get 6 _ rfl), hU⟩)
   ·rw [decide_eq_false hS]
    refine c_seq fun K0 hK0 => ?_;refine c_seq fun K hK => ?_;refine c_gF 2 ?_;refine g_op rfl ?_;refine f_move (.bool false) rfl rfl rfl rfl rfl ?_;refine g_go ?_;refine g_op rfl ?_;refine f_not false true rfl rfl rfl rfl rfl rfl ?_;refine g_go ?_;refine g_end fun W10 hw10 hF10 => ?_;clear hF10;replace b1 := b1.later hw10;replace b4 := b4.later hw10;replace hU := hU.step hw10;clear hw10;refine l_nil ?_;refine hK _ _ ?_;clear hK K;refine c_cond true rfl ?_;rw [if_pos rfl];refine c_seq fun K hK => ?_;refine c_lit ?_;refine l_assign (.bool false) rfl rfl rfl rfl rfl ?_;refine l_nil ?_;refine hK _ _ ?_;clear hK K;rw [rightB_great hS];exact c_ret (k_then_ret (fun a ha => bodyPost_ret (results_tmp rfl _ _ _) ha.defers ⟨congrArg Ending.returned (ha.get 6 _ rfl), hU⟩))
 ·refine c_seq fun K hK => ?_
  refine c_gF 5 ?_;refine g_op rfl ?_;refine f_by g1 0 hk rfl rfl rfl rfl rfl (fun _ h1 => (h1.1.blk b1).range) ?_;refine g_go ?_;refine g_op rfl ?_;refine f_call #[.agg (By key).toArray] (.tuple #[.agg (Us pz).toArray, .int .i64 50]) rfl rfl rfl own_cdecode (fun w1 h1 => cdec_no hk hA w1 (hT.below (hU.step h1.1)).tw) rfl rfl ?_;refine g_go ?_;refine g_op rfl ?_;refine f_move (.tuple #[.agg (Us pz).toArray, .int .i64 50]) rfl rfl rfl rfl rfl ?_;refine g_go ?_;refine g_op rfl ?_;refine f_extract (.agg (Us pz).toArray) rfl rfl rfl rfl rfl rfl ?_;refine g_go ?_;refine g_op rfl ?_;refine f_extract (.int .i64 50) rfl rfl rfl rfl rfl rfl ?_;refine g_go ?_;refine g_end fun W3 hw3 hF3 => ?_;clear hF3;replace hU := hU.step hw3;clear hw3;refine l_allocA ((Us pz).toArray) rfl rfl rfl rfl (by kernel_rfl) fun W4 g4 hw4 hg4 b4 => ?_
  have q4 : w.heap.size ≤ g4 := by rw [hg4]; exact hU.size
  replace hU := hU.step hw4;clear hw4 hg4;refine l_set g4 _ ((Us pz).toArray) rfl rfl rfl rfl rfl b4 (size_P pz_len) ((us_size pz_len).trans (us_size pz_len).symm) (Us_oneA _) ?_;replace hU := up_row hU q4 ((Us pz).toArray);generalize World.setRow _ g4 ((Us pz).toArray) = W5 at *;refine l_assign (.int .i64 50) rfl rfl rfl rfl rfl ?_;refine l_nil ?_;refine hK _ _ ?_;clear hK K;refine c_seq fun K0 hK0 => ?_;refine c_seq fun K hK => ?_;refine c_gF 6 ?_;refine g_op rfl ?_;refine f_move (.int .i64 50) rfl rfl rfl rfl rfl ?_;refine g_go ?_;refine g_op rfl ?_;refine f_neE _ 0 true rfl rfl rfl rfl rfl rfl rfl (by decide) ?_;refine g_go ?_;refine g_op rfl ?_;refine f_move (.bool true) rfl rfl rfl rfl rfl ?_;refine g_go ?_;refine g_skip rfl rfl rfl rfl rfl rfl rfl ?_;refine g_skip rfl rfl rfl rfl rfl rfl rfl ?_;refine g_op rfl ?_;refine f_pick (.bool true) rfl rfl rfl rfl rfl rfl ?_;refine g_go ?_;refine g_end fun W6 hw6 hF6 => ?_;clear hF6;replace hU := hU.step hw6;clear hw6;refine l_nil ?_;refine hK _ _ ?_;clear hK K;refine c_cond true rfl ?_;rw [if_pos rfl];refine c_seq fun K hK => ?_;refine c_lit ?_;refine l_assign (.bool false) rfl rfl rfl rfl rfl ?_;refine l_nil ?_;refine hK _ _ ?_;clear hK K;rw [rightB_no hA];exact c_ret (k_then_ret (fun a ha => bodyPost_ret (results_tmp rfl _ _ _) ha.defers ⟨congrArg Ending.returned (ha.get 6 _ rfl), hU⟩))
end Go.Proofs.YtiamoeifaahlfaaDoor
/-
  THE DOCUMENT'S SIGNATURES: half.
-/
namespace Go.Proofs.YtiamoeifaahlfaaDoor
open Go.RowKit Go.IntWalk Nums

theorem own_rhalf : Own 36 := fun _ _ => by go_simp
section
variable {ops : Array Oper} {C0 : World → Prop} {Q : Act → Prop} {N : Nat} {E : List (Nat × Value)} {o : Oper} {rest : List Oper} {k : Nat}
theorem f_idxB {x y : Operand} (ad : Addr) (n c i : Nat) (hi : i < n) (hg : o.guard = none) (hd : o.dst = some k) (hk : Nat.blt k N = true) (ho : o.op = .indexAddr 23 x y)
  (hx : ev E x = some (.slice (some ad) n c)) (hy : ev E y = some (.int .i64 (i : Int))) (hn : bF Tryd.prog ops C0 Q rest N ((k, .pointer (some (ad.add i))) :: E)) : bF Tryd.prog ops C0 Q (o :: rest) N E :=
 f_val _ hg hd hk (fun a ha w _ => by
  have h1 := ha.eval hx;have h2 := ha.eval hy
  have h3 : (i : Int) < (n : Int) := by omega
  have h4 : (0 : Int) ≤ (i : Int) := by omega
  unfold execOp
  simp only [ho, h1, h2]
  go_simp) hn
end
def hb (l : List UInt8) (i : Nat) : List UInt8 := l.take i ++ List.replicate (32 - i) 0
theorem hb_len {l : List UInt8} (hl : l.length = 32) {i : Nat} (hi : i ≤ 32) : (hb l i).length = 32 := by
 rw [hb, List.length_append, List.length_take, List.length_replicate]
 omega
theorem hb_set {l : List UInt8} (hl : l.length = 32) {i : Nat} (hi : i < 32) : (hb l i).set i l[i]! = hb l (i + 1) := by
 have h1 : (l.take i).length = i := by rw [List.length_take]; omega
 rw [hb, hb, List.set_append_right _ _ (by omega), h1, Nat.sub_self, List.take_succ_eq_append_getElem (by omega), List.append_assoc]
 congr 1
 rw [show 32 - i = 32 - (i + 1) + 1 by omega, List.replicate_succ, List.set_cons_zero, getElem!_pos l i (by omega)]
 rfl
noncomputable def hl6 (k : Nat) : Code := ((Tryd.f36.body.map loopsOf).getD [])[k]?.getD .skip
def FHa (v : Value) (at' g4 g5 i : Nat) : List (Nat × Value) := [(7, .int .i64 (i : Int)), (5, .pointer (some ⟨g5, 0, none⟩)), (4, .pointer (some ⟨g4, 0, none⟩)), (0, v), (1, .int .i64 (at' : Int))]
set_option maxRecDepth 100000 in
set_option maxHeartbeats 4000000 in
theorem half_l {Q : Exit → Act → World → Prop} {w0 w : World} {v : Value} {l : List UInt8} {at' g4 g5 : Nat} (hv : SB w0 v l) (ha : at' + 32 ≤ l.length) (hU : Up w0 w) (b4 : Blk w g4 22 z32) (b5 : Blk w g5 22 z32) (n45 : g4 ≠ g5) (q5 : w0.heap.size ≤ g5)
  (hend : ∀ w', Up w0 w' → Blk w' g4 22 z32 → Blk w' g5 22 (By ((l.drop at').take 32)).toArray → kF (Q .normal) 20 (FHa v at' g4 g5 32) w') :
  cF Tryd.prog (.loop (hl6 0)) (Exit.inBlock 0 Q) 20 (FHa v at' g4 g5 0) w := by
 have hsl : ((l.drop at').take 32).length = 32 := by rw [List.length_take, List.length_drop]; omega
 obtain ⟨A, c, rfl, hS⟩ := hv;obtain ⟨ad, rfl, _, hlt, hc⟩ := hS.2.2.2 (by omega);have hmax := hS.1;have hmax2 := hS.2.1;obtain ⟨s, hs⟩ : ∃ s, s = (l.drop at').take 32 := ⟨_, rfl⟩;rw [← hs] at hsl hend
 have hcell : ∀ i, i < 32 → w0.cell? (ad.add (at' + i)) = some (.int .u8 ((s[i]!).toNat : Int)) := fun i hi => by
  refine hc _ _ ?_;rw [hs, getElem!_pos _ i (by rw [← hs, hsl]; exact hi), List.getElem_take, List.getElem_drop];exact List.getElem?_eq_getElem (by omega)
 clear hc hS
 have hstart : cF Tryd.prog (.loop (hl6 0)) (Exit.inBlock 0 Q) 20 ((fun i : Nat => FHa (.slice (some ad) l.length c) at' g4 g5 i) 0) w := by
  refine c_loop (m := fun i : Nat => 32 - i) (F := fun i : Nat => FHa (.slice (some ad) l.length c) at' g4 g5 i) (R := fun i w => i ≤ 32 ∧ Up w0 w ∧ Blk w g4 22 z32 ∧ Blk w g5 22 (By (hb s i)).toArray) ?_ 0 ⟨by omega, hU, b4, b5⟩
  rintro i w ⟨hi, hU, b4, b5⟩
  conv => arg 2; whnf
  refine c_seq fun K1 hK1 => ?_;refine c_qF ?_
  by_cases hil : i < 32
  ·refine f_lssI (i : Int) 32 true rfl rfl rfl rfl rfl rfl (decide_eq_true (by omega)) ?_
   refine f_end fun w1 hw1 => hK1 _ _ ?_;refine c_seq fun K2 hK2 => ?_;refine c_cond true rfl ?_;refine c_skip ?_;refine hK2 _ _ ?_;refine c_seq fun K3 hK3 => ?_;refine c_block ?_;refine c_seq fun K4 hK4 => ?_;refine c_qF ?_;refine f_move (.int .i64 (i : Int)) rfl rfl rfl rfl rfl ?_;refine f_assign (.int .i64 (i : Int)) rfl rfl rfl rfl rfl ?_;refine f_end fun w2 hw2 => hK4 _ _ ?_;have hU2 : Up w0 w2 := (hU.step hw1).step hw2;have d4 := (b4.later hw1).later hw2;have d5 := (b5.later hw1).later hw2;have c5 := (d5.cell i).trans (By_get (l := hb s i) (j := i) (by rw [hb_len hsl hi]; exact hil));have cs := hcell i hil;refine c_tF 8 ?_;refine f_move (.int .i64 (i : Int)) rfl rfl rfl rfl rfl ?_;refine f_move (.slice (some ad) l.length c) rfl rfl rfl rfl rfl ?_;refine f_move (.int .i64 (at' : Int)) rfl rfl rfl rfl rfl ?_;refine f_move (.int .i64 (i : Int)) rfl rfl rfl rfl rfl ?_;refine f_addI (at' : Int) (i : Int) ((at' + i : Nat) : Int) rfl rfl rfl rfl rfl rfl (addI at' i (by omega)) ?_;refine f_idxB ad l.length c (at' + i) (by omega) rfl rfl rfl rfl rfl rfl ?_;refine f_load (ad.add (at' + i)) (.int .u8 ((s[i]!).toNat : Int)) (by decide) rfl rfl rfl rfl rfl (fun w3 h3 => ((hU2.step h3).cell (by rw [block_add]; exact hlt)).trans cs) ?_;refine f_ix _ (i : Int) ⟨g5, i, none⟩ rfl rfl rfl rfl rfl rfl (ixH _ i hil) ?_;refine f_store ⟨g5, i, none⟩ ((s[i]!).toNat : Int) _ (.inr ⟨rfl, rfl⟩) rfl rfl rfl rfl rfl c5 (d5.free i) d5.lt fun w3 hw3 => ?_;have e4 := (d4.later hw3).far (p := ⟨g5, i, none⟩) n45 (.int .u8 ((s[i]!).toNat : Int));have e5 := (d5.later hw3).set i (.int .u8 ((s[i]!).toNat : Int));have hU3 : Up w0 _ := (hU2.step hw3).setCell (p := ⟨g5, i, none⟩) q5 (.int .u8 ((s[i]!).toNat : Int));rw [By_set, hb_set hsl hil] at e5;generalize w3.setCell ⟨g5, i, none⟩ (.int .u8 ((s[i]!).toNat : Int)) = W3 at *;refine hK3 _ _ ?_;refine c_qF ?_;refine f_addI (i : Int) 1 ((i + 1 : Nat) : Int) rfl rfl rfl rfl rfl rfl (addI i 1 (by omega)) ?_;refine f_move (.int .i64 ((i + 1 : Nat) : Int)) rfl rfl rfl rfl rfl ?_;refine f_end fun w5 hw5 => ?_;exact k_round (F := fun i : Nat => FHa (.slice (some ad) l.length c) at' g4 g5 i) (m := fun i : Nat => 32 - i) (R := fun i w => i ≤ 32 ∧ Up w0 w ∧ Blk w g4 22 z32 ∧ Blk w g5 22 (By (hb s i)).toArray) (s := i) (i + 1) ⟨rfl, rfl, rfl, rfl, rfl, trivial⟩ ⟨hil, hU3.step hw5, e4.later hw5, e5.later hw5⟩ (by omega)
  ·refine f_lssI (i : Int) 32 false rfl rfl rfl rfl rfl rfl (decide_eq_false (by omega)) ?_
   refine f_end fun w1 hw1 => hK1 _ _ ?_;refine c_seq fun K2 hK2 => ?_;refine c_cond false rfl ?_;refine c_exit ?_;refine k_exit (id := 0) (Q := Q) ?_
   obtain rfl : i = 32 := by omega
   have e : hb s 32 = s := by
    rw [hb, Nat.sub_self, List.replicate_zero, List.append_nil, List.take_of_length_le (by omega)]
   rw [e] at b5;exact k_sub (E' := FHa (.slice (some ad) l.length c) at' g4 g5 32) ⟨rfl, rfl, rfl, rfl, rfl, trivial⟩ (hend w1 (hU.step hw1) (b4.later hw1) (b5.later hw1))
 exact hstart

set_option maxRecDepth 100000 in
set_option maxHeartbeats 1000000 in
theorem rhalf_f {v : Value} {l : List UInt8} {at' : Nat} (w : World) (hv : SB w v l) (ha : at' + 32 ≤ l.length) :
  Calls Tryd.prog 36 #[v, .int .i64 (at' : Int)] w fun e w' => e = .returned (.agg (By ((l.drop at').take 32)).toArray) ∧ Below w.heap.size w w' := by
 have hsl : ((l.drop at').take 32).length = 32 := by rw [List.length_take, List.length_drop]; omega
 refine calls_F (vs := [v, .int .i64 (at' : Int)]) 20 Tryd.func36 rfl (by rw [Tryd.ntmps36]; rfl) ?_;refine c_seq fun K hK => ?_;refine c_lit ?_;refine l_allocA z32 rfl rfl rfl rfl (by kernel_rfl) fun W1 g4 hw1 hg4 b4 => ?_;refine l_nil ?_;refine hK _ _ ?_;clear hK K;refine c_seq fun K hK => ?_;refine c_lit ?_;refine l_allocA z32 rfl rfl rfl rfl (by kernel_rfl) fun W2 g5 hw2 hg5 b5 => ?_;refine l_nil ?_;refine hK _ _ ?_;clear hK K
 have n45 : g4 ≠ g5 := by have := b4.lt; omega
 have q4 : w.heap.size ≤ g4 := by omega
 have q5 : w.heap.size ≤ g5 := by have := hw1.size; omega
 have hU : Up w W2 := hw1.step hw2;replace b4 := b4.later hw2;clear hw1 hw2 hg4 hg5;refine c_seq fun K hK => ?_;refine c_seq fun K2 hK2 => ?_;refine c_qF ?_;refine f_move (.int .i64 0) rfl rfl rfl rfl rfl ?_;refine f_end fun W3 hw3 => ?_;refine k_sub (E' := FHa v at' g4 g5 0) ⟨rfl, rfl, rfl, rfl, rfl, trivial⟩ ?_;refine hK2 _ _ ?_;refine c_block ?_;refine half_l (w0 := w) hv ha (hU.step hw3) (b4.later hw3) (b5.later hw3) n45 q5 fun W4 hU b4 b5 => ?_;refine hK _ _ ?_;clear hK2 K2 hK K;refine c_seq fun K hK => ?_;refine c_tF 1 ?_;refine f_by g5 0 hsl rfl rfl rfl rfl rfl (fun _ h1 => (h1.blk b5).range) ?_;refine f_set g4 _ (By ((l.drop at').take 32)).toArray rfl rfl rfl rfl rfl b4 (size_H hsl) (by rw [len_by hsl]; rfl) (By_oneA _) fun w4 hw4 c4 => ?_;refine l_nil ?_;refine hK _ _ ?_;clear hK K;exact c_ret (k_ret_row g4 _ rfl rfl c4 Tryd.underlying22 rfl (size_H hsl) ⟨rfl, up_row (hU.step hw4) q4 _⟩)
end Go.Proofs.YtiamoeifaahlfaaDoor
/-
  THE DOCUMENT'S OWN SCALARS: Good, Add.
-/
namespace Go.Proofs.YtiamoeifaahlfaaDoor
open Go.RowKit Go.IntWalk Nums

theorem own_mod : Own 24 := fun _ _ => by go_simp

def WL (w : World) (g : Nat) (l : List UInt8) : Prop := BL w g l ∧ ∀ j, j < l.length → w.frozen? ⟨g, j, none⟩ = false
section
variable {w w' : World} {g B : Nat} {l : List UInt8}
theorem WL.row {t : Nat} (h : Blk w g t (By l).toArray) : WL w g l :=
 ⟨⟨h.lt, fun j hj => (h.cell j).trans (By_get hj)⟩, fun j _ => h.free j⟩
end
set_option maxRecDepth 100000 in
set_option maxHeartbeats 2000000 in
theorem good4_f (b : List UInt8) (hb : b.length = 32) (w : World) :
  Calls Tryd.prog 37 #[.agg (By b).toArray] w fun e w' => e = .returned (.bool (decide (le b < LL))) ∧ Below w.heap.size w w' := by
 have hE := fun w1 => equal32 (Nums.bytes 32 (le b % LL)) b (bytes_len _ _) hb w1;rw [good_iff hb] at hE;have hz := len_by hb;have HM := fun (w1 : World) (h : Blk w1 w.heap.size 22 (By b).toArray) => Lib.hid (mod_any b w.heap.size 32 w1 (by omega) (WL.row h).1);rw [hb] at HM;generalize decide (le b < LL) = q at *;generalize Nums.bytes 32 (le b % LL) = u at *
 go_enter Tryd.func37, Tryd.ntmps37
 refine wp_seq_k fun K hK => ?_;refine wp_region_lit ?_;refine wpl_box (By b).toArray rfl rfl rfl ?_;refine wpl_assign rfl rfl ?_;refine wpl_nil ?_
 go_simp
 refine hK _ _ ?_;clear hK K;refine wp_at (fun W => Blk W w.heap.size 22 (By b).toArray ∧ Below w.heap.size w W) ⟨Blk.new w _ _, (Below.refl _ _).alloc (Nat.le_refl _) _⟩ ?_
 rintro W ⟨hbb, hbe⟩
 refine wp_seq_k fun K hK => ?_;refine reg_q (by kernel_rfl) (by kernel_rfl) (fun _ _ d _ _ h => by cases d <;> exact h) ?_;refine b_val (v := .slice (some ⟨w.heap.size, 0, none⟩) 32 32) rfl (fun w1 h1 => by go_simp) ?_;refine b_call1 (f := 24) (args := #[.slice (some ⟨w.heap.size, 0, none⟩) 32 32]) rfl (fun w1 h1 => (HM w1 (h1.blk hbb)).out) (fun w1 => by rw [run_call_fn own_mod rfl, map_eval (args := #[.slice (some ⟨w.heap.size, 0, none⟩) 32 32]) rfl]) ?_;refine b_mid rfl 22 _ rfl w.heap.size 0 rfl (By b) _ (fun _ h => (h.blk hbb).range) Tryd.underlying22 rfl (size_hash (By b).toArray hz) ?_;refine b_eq (By u).toArray (By b).toArray rfl rfl rfl rfl (by kernel_rfl) hE ?_;refine b_assign rfl rfl ?_;refine wpB_nil ?_
 intro W1 hw1
 simp only [Exit.then, Act.put, List.setIfInBounds_toArray, List.set_cons_zero, List.set_cons_succ];refine hK _ _ ?_;have HB := Lib.hid (below_up hbe hw1);clear hK K hw1 hbe;refine wp_ret ?_
 go_ret
 refine ⟨?_, HB.out⟩
 simp [Act.eval]
end Go.Proofs.YtiamoeifaahlfaaDoor
/-
  THE DOCUMENT'S OWN SCALARS: Add.
-/
namespace Go.Proofs.YtiamoeifaahlfaaDoor
open Go.RowKit Go.IntWalk Nums

end Go.Proofs.YtiamoeifaahlfaaDoor
/-
  PLAIN NUMBERS: products of bytes. No program is imported.
-/
namespace Nums


end Nums
/-
  THE DOCUMENT'S OWN SCALARS: Mul.
-/
namespace Go.Proofs.YtiamoeifaahlfaaDoor
open Go.RowKit Go.IntWalk Nums

end Go.Proofs.YtiamoeifaahlfaaDoor
/-
  THE DOCUMENT'S SIGNATURES: steps.
-/
namespace Go.Proofs.YtiamoeifaahlfaaDoor
open Go.RowKit Go.IntWalk Nums

theorem own_rlong : Own 25 := fun _ _ => by go_simp
theorem own_rmod4 : Own 24 := fun _ _ => by go_simp
theorem own_rgood4 : Own 37 := fun _ _ => by go_simp

def DG (v : Value) (D : List UInt8) (w : World) : Prop := ∃ g c, v = .slice (some ⟨g, 0, none⟩) D.length c ∧ BL w g D ∧ SB w v D
theorem BL.later {w w' : World} {g : Nat} {l : List UInt8} (h : BL w g l) (hb : Below w.heap.size w w') : BL w' g l := h.below hb h.1
theorem DG.later {w w' : World} {v : Value} {D : List UInt8} (h : DG v D w) (hb : Below w.heap.size w w') : DG v D w' := by
 obtain ⟨g, c, e, h1, h2⟩ := h;exact ⟨g, c, e, h1.later hb, h2.later hb⟩
theorem DG.bl {w : World} {g n c : Nat} {D : List UInt8} (h : DG (.slice (some ⟨g, 0, none⟩) n c) D w) : BL w g D := by
 obtain ⟨g', c', e, h, _⟩ := h
 injection e with e
 injection e with e
 injection e with e
 rw [e];exact h
theorem digest_pos (m : List UInt8) : 0 < (digest s512 m).length := by rw [digest512_len]; decide
theorem rlong_g {P : Option Addr} {ls : List (List UInt8)} {pc : Nat} (hn : ls.length ≤ 1000000) (hl : ls.flatten.length ≤ 70368744177664) (w : World) (hP : PT w P ls) :
  Calls Tryd.prog 25 #[.slice P ls.length pc] w fun e w' => ∃ v, e = .returned v ∧ DG v (digest s512 ls.flatten) w' ∧ Below w.heap.size w w' :=
 (rlong_f P ls pc (by omega) hl w hP).mono fun e w' ⟨A, c, he, hG, hb⟩ => by
  rw [By_len] at he;refine ⟨_, he, ?_, hb⟩;have hsb := hG.sb
  rcases hG.cut with ⟨h1, _, h3⟩ | ⟨g, h1, _, h3⟩
  ·have h4 := congrArg List.length h3
   rw [By_len] at h4;have := digest_pos ls.flatten;simp only [List.length_nil] at h4
   omega
  ·subst h1
   refine ⟨g, c, rfl, ⟨h3.lt, fun j hj => h3.cell j _ ?_⟩, hsb⟩;have := By_get (l := digest s512 ls.flatten) hj
   simpa using this
theorem pt_oneA {X Y Z T : List Int} {A : Ed.Pt p} (_ : PR X Y Z T A) : ∀ v ∈ (pt X Y Z T).toArray.toList, v.oneCell' = true := fun v hv => pt_one X Y Z T v (by simpa using hv)
end Go.Proofs.YtiamoeifaahlfaaDoor
/-
  THE DOCUMENT'S SIGNATURES: number, Key.
-/
namespace Go.Proofs.YtiamoeifaahlfaaDoor
open Go.RowKit Go.IntWalk Nums

end Go.Proofs.YtiamoeifaahlfaaDoor
/-
  THE DOCUMENT'S SIGNATURES: the two halves are laid into one.
-/
namespace Go.Proofs.YtiamoeifaahlfaaDoor
open Go.RowKit Go.IntWalk Nums

end Go.Proofs.YtiamoeifaahlfaaDoor
/-
  THE DOCUMENT'S SIGNATURES: Sign.
-/
namespace Go.Proofs.YtiamoeifaahlfaaDoor
open Go.RowKit Go.IntWalk Nums

end Go.Proofs.YtiamoeifaahlfaaDoor
/-
  THE DOCUMENT'S SIGNATURES: Right.
-/
namespace Go.Proofs.YtiamoeifaahlfaaDoor
open Go.RowKit Go.IntWalk Nums

theorem own_rright6 : Own 12 := fun _ _ => by go_simp
theorem pt0_oneA : ∀ v ∈ (pt n16 n16 n16 n16).toArray.toList, v.oneCell' = true := fun v hv => pt_one n16 n16 n16 n16 v (by simpa using hv)
theorem rightB_is2 {A : Ed.Pt p} {sig m : List UInt8} (hA : Ed.On dd A) (h8 : Ed.mul dd 8 A ≠ Ed.zero) (hS : le (sig.drop 32) < LL) :
  rightB (encP A) sig m = decide (encP (Ed.add dd (Ed.mul dd (le (sig.drop 32)) base) (Ed.neg (Ed.mul dd (le (Nums.bytes 32 (sgK (sig.take 32) (encP A) m))) A))) = sig.take 32) := by
 rw [rightB_is hA h8 hS, le_bytesL hS, le_bytesL (sgK_lt _ _ _), Ed.mul_neg good hA]

set_option maxRecDepth 100000 in
set_option maxHeartbeats 2000000 in
theorem rright6_f {D : List Int} {key sig m : List UInt8} {v : Value} (hD : NB 65573 D dd) (hk : key.length = 32) (hs : sig.length = 64) (hml : m.length ≤ 1000000) (w : World) (hm : SB w v m) :
  Calls Tryd.prog 12 #[.agg (Is D).toArray, .agg (By key).toArray, .agg (By sig).toArray, v] w fun e w' => e = .returned (.bool (rightB key sig m)) ∧ Below w.heap.size w w' := by
 refine calls_F (vs := [.agg (Is D).toArray, .agg (By key).toArray, .agg (By sig).toArray, v]) 53 Tryd.func12 rfl (by rw [Tryd.ntmps12]; rfl) ?_;have hU := Up.refl w;refine c_seq fun K hK => ?_;refine c_lit ?_;refine l_boxA ((Is D).toArray) rfl rfl rfl rfl rfl fun W1 g1 hw1 hg1 b1 => ?_;replace hU := hU.step hw1;clear hw1 hg1;refine l_boxA ((By key).toArray) rfl rfl rfl rfl rfl fun W2 g2 hw2 hg2 b2 => ?_;replace b1 := b1.later hw2;replace hU := hU.step hw2;clear hw2 hg2;refine l_boxA ((By sig).toArray) rfl rfl rfl rfl rfl fun W3 g3 hw3 hg3 b3 => ?_;replace b1 := b1.later hw3;replace b2 := b2.later hw3;replace hU := hU.step hw3;clear hw3 hg3;refine l_assign (.bool false) rfl rfl rfl rfl rfl ?_;refine l_nil ?_;refine hK _ _ ?_;clear hK K
 by_cases hA : ∃ A, Ed.On dd A ∧ encP A = key
 ·obtain ⟨A, hA, rfl⟩ := hA
  refine c_seq fun K hK => ?_;refine c_gF 6 ?_;refine g_op rfl ?_;refine f_cu g1 hD.len rfl rfl rfl rfl rfl (fun _ h1 => (h1.1.blk b1).range) ?_;refine g_go ?_;refine g_op rfl ?_;refine f_by g2 0 hk rfl rfl rfl rfl rfl (fun _ h1 => (h1.1.blk b2).range) ?_;refine g_go ?_;refine g_op rfl ?_;refine f_callV #[.agg (Is D).toArray, .agg (By (encP A)).toArray] (fun v => ∃ X Y Z T, PR X Y Z T A ∧ v = .tuple #[.agg (pt X Y Z T).toArray, .bool true]) rfl rfl rfl own_rdecode (fun w1 h1 => rdec_pt hD hA w1) rfl rfl ?_
  rintro _ ⟨X, Y, Z, T, hl, rfl⟩
  refine g_go ?_;refine g_op rfl ?_;refine f_move (.tuple #[.agg (pt X Y Z T).toArray, .bool true]) rfl rfl rfl rfl rfl ?_;refine g_go ?_;refine g_op rfl ?_;refine f_extract (.agg (pt X Y Z T).toArray) rfl rfl rfl rfl rfl rfl ?_;refine g_go ?_;refine g_op rfl ?_;refine f_extract (.bool true) rfl rfl rfl rfl rfl rfl ?_;refine g_go ?_;refine g_end fun W4 hw4 hF4 => ?_;clear hF4;replace b1 := b1.later hw4;replace b2 := b2.later hw4;replace b3 := b3.later hw4;replace hU := hU.step hw4;clear hw4;refine l_allocA ((pt n16 n16 n16 n16).toArray) rfl rfl rfl rfl (by kernel_rfl) fun W5 g5 hw5 hg5 b5 => ?_
  have n1_5 : g1 ≠ g5 := by have := b1.lt; omega
  have n2_5 : g2 ≠ g5 := by have := b2.lt; omega
  have n3_5 : g3 ≠ g5 := by have := b3.lt; omega
  have q5 : w.heap.size ≤ g5 := by rw [hg5]; exact hU.size
  replace b1 := b1.later hw5;replace b2 := b2.later hw5;replace b3 := b3.later hw5;replace hU := hU.step hw5;clear hw5 hg5;refine l_set g5 _ ((pt X Y Z T).toArray) rfl rfl rfl rfl rfl b5 (size_pt _ (pr_len hl)) (pt0_len.trans (pr_len hl).symm) (pt_oneA hl) ?_;replace b1 := b1.rowFar n1_5 ((pt X Y Z T).toArray);replace b2 := b2.rowFar n2_5 ((pt X Y Z T).toArray);replace b3 := b3.rowFar n3_5 ((pt X Y Z T).toArray);replace b5 := b5.row ((pt X Y Z T).toArray);replace hU := up_row hU q5 ((pt X Y Z T).toArray);generalize World.setRow _ g5 ((pt X Y Z T).toArray) = W6 at *;refine l_assign (.bool true) rfl rfl rfl rfl rfl ?_;refine l_nil ?_;refine hK _ _ ?_;clear hK K;have hsm := small_dec hA;refine c_seq fun K0 hK0 => ?_;refine c_seq fun K hK => ?_;refine c_gF 7 ?_;refine g_op rfl ?_;refine f_move (.bool true) rfl rfl rfl rfl rfl ?_;refine g_go ?_;refine g_op rfl ?_;refine f_not true false rfl rfl rfl rfl rfl rfl ?_;refine g_go ?_;refine g_op rfl ?_;refine f_move (.bool false) rfl rfl rfl rfl rfl ?_;refine g_go ?_;refine g_guard rfl rfl rfl rfl ?_;refine g_op rfl ?_;refine f_cu g1 hD.len rfl rfl rfl rfl rfl (fun _ h1 => (h1.1.blk b1).range) ?_;refine g_go ?_;refine g_guard rfl rfl rfl rfl ?_;refine g_op rfl ?_;refine f_rp g5 (pr_len hl) rfl rfl rfl rfl rfl (fun _ h1 => (h1.1.blk b5).range) ?_;refine g_go ?_;refine g_guard rfl rfl rfl rfl ?_;refine g_op rfl ?_;refine f_call #[.agg (Is D).toArray, .agg (pt X Y Z T).toArray] (.bool (decide (encP (Ed.mul dd 8 A) = encP Ed.zero))) rfl rfl rfl own_rsmall (fun w1 h1 => rsmall_f hD hl w1) rfl rfl ?_;refine g_go ?_;refine g_op rfl ?_;refine f_pickF (.bool ((decide (encP (Ed.mul dd 8 A) = encP Ed.zero)))) rfl rfl rfl rfl rfl rfl ?_;refine g_go ?_;refine g_end fun W7 hw7 hF7 => ?_;clear hF7;replace b1 := b1.later hw7;replace b2 := b2.later hw7;replace b3 := b3.later hw7;replace b5 := b5.later hw7;replace hU := hU.step hw7;clear hw7;refine l_nil ?_;refine hK _ _ ?_;clear hK K
  by_cases h8 : Ed.mul dd 8 A = Ed.zero
  ·rw [decide_eq_true (hsm.2 h8)]
   refine c_cond true rfl ?_;rw [if_pos rfl];refine c_seq fun K hK => ?_;refine c_lit ?_;refine l_assign (.bool false) rfl rfl rfl rfl rfl ?_;refine l_nil ?_;refine hK _ _ ?_;clear hK K;rw [rightB_small hA h8];exact c_ret (k_then_ret (fun a ha => bodyPost_ret (results_tmp rfl _ _ _) ha.defers ⟨congrArg Ending.returned (ha.get 8 _ rfl), hU⟩))
  ·rw [decide_eq_false fun h => h8 (hsm.1 h)]
   refine c_cond false rfl ?_;rw [if_neg (by decide)];refine c_skip ?_;refine hK0 _ _ ?_;clear hK0 K0;clear hsm;refine c_seq fun K hK => ?_;refine c_gF 2 ?_;refine g_op rfl ?_;refine f_slice64 g3 rfl rfl rfl rfl rfl ?_;refine g_go ?_;refine g_op rfl ?_
   refine f_call #[.slice (some ⟨g3, 0, none⟩) 64 64, .int .i64 32] (.agg (By (sig.drop 32)).toArray) rfl rfl rfl own_rhalf (fun w1 h1 => by
     have := rhalf_f (at' := 32) w1 (SB.all (b3.later h1.1) hs (by decide)) (by omega)
     rwa [take_drop32 hs] at this) rfl rfl ?_
   refine g_go ?_;refine g_end fun W8 hw8 hF8 => ?_;clear hF8;replace b1 := b1.later hw8;replace b2 := b2.later hw8;replace b3 := b3.later hw8;replace b5 := b5.later hw8;replace hU := hU.step hw8;clear hw8;refine l_allocA z32 rfl rfl rfl rfl (by kernel_rfl) fun W9 g9 hw9 hg9 b9 => ?_
   have n1_9 : g1 ≠ g9 := by have := b1.lt; omega
   have n2_9 : g2 ≠ g9 := by have := b2.lt; omega
   have n3_9 : g3 ≠ g9 := by have := b3.lt; omega
   have n5_9 : g5 ≠ g9 := by have := b5.lt; omega
   have q9 : w.heap.size ≤ g9 := by rw [hg9]; exact hU.size
   replace b1 := b1.later hw9;replace b2 := b2.later hw9;replace b3 := b3.later hw9;replace b5 := b5.later hw9;replace hU := hU.step hw9;clear hw9 hg9;refine l_set g9 _ ((By (sig.drop 32)).toArray) rfl rfl rfl rfl rfl b9 (size_H ((drop32 hs))) (by rw [len_by ((drop32 hs))]; rfl) (By_oneA _) ?_;replace b1 := b1.rowFar n1_9 ((By (sig.drop 32)).toArray);replace b2 := b2.rowFar n2_9 ((By (sig.drop 32)).toArray);replace b3 := b3.rowFar n3_9 ((By (sig.drop 32)).toArray);replace b5 := b5.rowFar n5_9 ((By (sig.drop 32)).toArray);replace b9 := b9.row ((By (sig.drop 32)).toArray);replace hU := up_row hU q9 ((By (sig.drop 32)).toArray);generalize World.setRow _ g9 ((By (sig.drop 32)).toArray) = W10 at *;refine l_nil ?_;refine hK _ _ ?_;clear hK K
   by_cases hS : le (sig.drop 32) < LL
   ·refine c_seq fun K0 hK0 => ?_
    refine c_seq fun K hK => ?_;refine c_gF 3 ?_;refine g_op rfl ?_;refine f_by g9 0 ((drop32 hs)) rfl rfl rfl rfl rfl (fun _ h1 => (h1.1.blk b9).range) ?_;refine g_go ?_;refine g_op rfl ?_
    refine f_call #[.agg (By (sig.drop 32)).toArray] (.bool true) rfl rfl rfl own_rgood4 (fun w1 h1 => by
      have := good4_f (sig.drop 32) (drop32 hs) w1
      rwa [decide_eq_true hS] at this) rfl rfl ?_
    refine g_go ?_;refine g_op rfl ?_;refine f_not true false rfl rfl rfl rfl rfl rfl ?_;refine g_go ?_;refine g_end fun W11 hw11 hF11 => ?_;clear hF11;replace b1 := b1.later hw11;replace b2 := b2.later hw11;replace b3 := b3.later hw11;replace b5 := b5.later hw11;replace b9 := b9.later hw11;replace hU := hU.step hw11;clear hw11;refine l_nil ?_;refine hK _ _ ?_;clear hK K;refine c_cond false rfl ?_;rw [if_neg (by decide)];refine c_skip ?_;refine hK0 _ _ ?_;clear hK0 K0;refine c_seq fun K hK => ?_;refine c_g 7 (by decide) (by kernel_rfl) (by kernel_rfl) ?_;refine g_op rfl ?_;refine f_slice64l g3 rfl rfl rfl rfl rfl ?_;refine g_go ?_;refine g_op rfl ?_;refine f_slice32 g2 rfl rfl rfl rfl rfl ?_;refine g_go ?_;refine g_op rfl ?_;refine f_move (v) rfl rfl rfl rfl rfl ?_;refine g_go ?_;refine g_slices [.slice (some ⟨g3, 0, none⟩) 32 64, .slice (some ⟨g2, 0, none⟩) 32 32, v] [sig.take 32, encP A, m] (W11).heap.size rfl rfl rfl rfl rfl rfl rfl (by decide) (by decide) (fun _ h => h.size) (fun _ h hu => ⟨SB.arr (b3.later h) (by rw [List.drop_zero]) (take32 hs) (by decide) (by decide), SB.all (b2.later h) hk (by decide), hm.later (hU.step h), trivial⟩) fun gs12 _ _ _ => ?_
    refine g_call #[.slice (some ⟨gs12, 0, none⟩) 3 3] (DG · (digest s512 (sig.take 32 ++ (encP A ++ m)))) rfl rfl rfl rfl (fun _ _ _ h hr => h.later hr) own_rlong (fun w1 h1 hu => by
      have := rlong_g (P := some ⟨gs12, 0, none⟩) (ls := [sig.take 32, encP A, m]) (pc := 3) (by simp only [List.length_cons, List.length_nil]; omega) (by simp only [List.flatten_cons, List.flatten_nil, List.length_append, List.append_nil, take32 hs, encP_len]; omega) w1 (hu 3 _ rfl (by kernel_rfl) : NewS _ _ _ _ _).pt
      rwa [show [sig.take 32, encP A, m].flatten = sig.take 32 ++ (encP A ++ m) from by simp] at this) rfl rfl fun _ _ _ hv13 => ?_
    obtain ⟨gd13, cd13, rfl, _, hsb13⟩ := hv13;refine g_op rfl ?_
    refine f_call #[.slice (some ⟨gd13, 0, none⟩) (digest s512 (sig.take 32 ++ (encP A ++ m))).length cd13] (.agg (By (Nums.bytes 32 (sgK (sig.take 32) (encP A) m))).toArray) rfl rfl rfl own_rmod4 (fun w1 h1 => by
      have := mod_any (digest s512 (sig.take 32 ++ (encP A ++ m))) gd13 cd13 w1 (by rw [digest512_len]; decide) (h1.2 4 _ rfl (by kernel_rfl) : DG _ _ _).bl
      rwa [sgK_eq] at this) rfl rfl ?_
    refine g_go ?_;refine g_alloc z32 (W11).heap.size rfl rfl rfl rfl rfl (by kernel_rfl) (fun _ h => h.size) (fun g w w' h hr => ⟨h.1, h.2.later hr⟩) fun g14 _ _ _ _ => ?_;refine g_end fun W15 hw15 hF15 => ?_;have b14 := (hF15 6 _ rfl).2;have ge14 := (hF15 6 _ rfl).1
    have n1_14 : g1 ≠ g14 := by have := b1.lt; omega
    have n2_14 : g2 ≠ g14 := by have := b2.lt; omega
    have n3_14 : g3 ≠ g14 := by have := b3.lt; omega
    have n5_14 : g5 ≠ g14 := by have := b5.lt; omega
    have n9_14 : g9 ≠ g14 := by have := b9.lt; omega
    have q14 : w.heap.size ≤ g14 := Nat.le_trans hU.size ge14;clear ge14;clear hF15;replace b1 := b1.later hw15;replace b2 := b2.later hw15;replace b3 := b3.later hw15;replace b5 := b5.later hw15;replace b9 := b9.later hw15;replace hU := hU.step hw15;clear hw15;refine l_set g14 _ ((By (Nums.bytes 32 (sgK (sig.take 32) (encP A) m))).toArray) rfl rfl rfl rfl rfl b14 (size_H ((bytes_len _ _))) (by rw [len_by ((bytes_len _ _))]; rfl) (By_oneA _) ?_;replace b1 := b1.rowFar n1_14 ((By (Nums.bytes 32 (sgK (sig.take 32) (encP A) m))).toArray);replace b2 := b2.rowFar n2_14 ((By (Nums.bytes 32 (sgK (sig.take 32) (encP A) m))).toArray);replace b3 := b3.rowFar n3_14 ((By (Nums.bytes 32 (sgK (sig.take 32) (encP A) m))).toArray);replace b5 := b5.rowFar n5_14 ((By (Nums.bytes 32 (sgK (sig.take 32) (encP A) m))).toArray);replace b9 := b9.rowFar n9_14 ((By (Nums.bytes 32 (sgK (sig.take 32) (encP A) m))).toArray);replace b14 := b14.row ((By (Nums.bytes 32 (sgK (sig.take 32) (encP A) m))).toArray);replace hU := up_row hU q14 ((By (Nums.bytes 32 (sgK (sig.take 32) (encP A) m))).toArray);generalize World.setRow _ g14 ((By (Nums.bytes 32 (sgK (sig.take 32) (encP A) m))).toArray) = W16 at *;refine l_nil ?_;refine hK _ _ ?_;clear hK K;refine c_seq fun K hK => ?_;refine c_g 17 (by decide) (by kernel_rfl) (by kernel_rfl) ?_;refine g_op rfl ?_;refine f_cu g1 hD.len rfl rfl rfl rfl rfl (fun _ h1 => (h1.1.blk b1).range) ?_;refine g_go ?_;refine g_op rfl ?_;refine f_cu g1 hD.len rfl rfl rfl rfl rfl (fun _ h1 => (h1.1.blk b1).range) ?_;refine g_go ?_;refine g_op rfl ?_;refine f_cu g1 hD.len rfl rfl rfl rfl rfl (fun _ h1 => (h1.1.blk b1).range) ?_;refine g_go ?_;refine g_op rfl ?_;refine f_rpt #[.agg (Is D).toArray] base rfl rfl rfl own_rbase (fun w1 h1 => base_f hD w1) rfl rfl fun X40 Y40 Z40 T40 v40 => ?_;refine g_go ?_;refine g_op rfl ?_;refine f_by g9 0 ((drop32 hs)) rfl rfl rfl rfl rfl (fun _ h1 => (h1.1.blk b9).range) ?_;refine g_go ?_;refine g_op rfl ?_;refine f_rpt #[.agg (Is D).toArray, .agg (pt X40 Y40 Z40 T40).toArray, .agg (By (sig.drop 32)).toArray] (Ed.mul dd (le (sig.drop 32)) base) rfl rfl rfl own_rmul5 (fun w1 h1 => pmul_f hD v40 ((drop32 hs)) w1) rfl rfl fun X42 Y42 Z42 T42 v42 => ?_;refine g_go ?_;refine g_op rfl ?_;refine f_cu g1 hD.len rfl rfl rfl rfl rfl (fun _ h1 => (h1.1.blk b1).range) ?_;refine g_go ?_;refine g_op rfl ?_;refine f_rp g5 (pr_len hl) rfl rfl rfl rfl rfl (fun _ h1 => (h1.1.blk b5).range) ?_;refine g_go ?_;refine g_op rfl ?_;refine f_by g14 0 ((bytes_len _ _)) rfl rfl rfl rfl rfl (fun _ h1 => (h1.1.blk b14).range) ?_;refine g_go ?_;refine g_op rfl ?_;refine f_rpt #[.agg (Is D).toArray, .agg (pt X Y Z T).toArray, .agg (By (Nums.bytes 32 (sgK (sig.take 32) (encP A) m))).toArray] (Ed.mul dd (le (Nums.bytes 32 (sgK (sig.take 32) (encP A) m))) A) rfl rfl rfl own_rmul5 (fun w1 h1 => pmul_f hD hl ((bytes_len _ _)) w1) rfl rfl fun X46 Y46 Z46 T46 v46 => ?_;refine g_go ?_;refine g_op rfl ?_;refine f_rpt #[.agg (pt X46 Y46 Z46 T46).toArray] (Ed.neg (Ed.mul dd (le (Nums.bytes 32 (sgK (sig.take 32) (encP A) m))) A)) rfl rfl rfl own_rneg (fun w1 h1 => pneg_f v46 w1) rfl rfl fun X47 Y47 Z47 T47 v47 => ?_
    refine g_go ?_;refine g_op rfl ?_;refine f_rpt #[.agg (Is D).toArray, .agg (pt X42 Y42 Z42 T42).toArray, .agg (pt X47 Y47 Z47 T47).toArray] (Ed.add dd (Ed.mul dd (le (sig.drop 32)) base) (Ed.neg (Ed.mul dd (le (Nums.bytes 32 (sgK (sig.take 32) (encP A) m))) A))) rfl rfl rfl own_radd5 (fun w1 h1 => padd_f hD v42 v47 w1) rfl rfl fun X48 Y48 Z48 T48 v48 => ?_;refine g_go ?_;refine g_op rfl ?_;refine f_call #[.agg (pt X48 Y48 Z48 T48).toArray] (.agg (By (encP (Ed.add dd (Ed.mul dd (le (sig.drop 32)) base) (Ed.neg (Ed.mul dd (le (Nums.bytes 32 (sgK (sig.take 32) (encP A) m))) A))))).toArray) rfl rfl rfl own_rbytes (fun w1 h1 => pbytes_f v48 w1) rfl rfl ?_;refine g_go ?_;refine g_op rfl ?_;refine f_slice64 g3 rfl rfl rfl rfl rfl ?_;refine g_go ?_;refine g_op rfl ?_
    refine f_call #[.slice (some ⟨g3, 0, none⟩) 64 64, .int .i64 0] (.agg (By (sig.take 32)).toArray) rfl rfl rfl own_rhalf (fun w1 h1 => by
      have := rhalf_f (at' := 0) w1 (SB.all (b3.later h1.1) hs (by decide)) (by omega)
      rwa [List.drop_zero] at this) rfl rfl ?_
    refine g_go ?_;refine g_op rfl ?_;refine f_eqd (encP (Ed.add dd (Ed.mul dd (le (sig.drop 32)) base) (Ed.neg (Ed.mul dd (le (Nums.bytes 32 (sgK (sig.take 32) (encP A) m))) A)))) (sig.take 32) rfl rfl rfl rfl rfl rfl rfl ((encP_len _)) ((take32 hs)) ?_;refine g_go ?_;refine g_op rfl ?_;refine f_assign (.bool ((decide (encP (Ed.add dd (Ed.mul dd (le (sig.drop 32)) base) (Ed.neg (Ed.mul dd (le (Nums.bytes 32 (sgK (sig.take 32) (encP A) m))) A))) = sig.take 32)))) rfl rfl rfl rfl rfl ?_;refine g_go ?_;refine g_end fun W17 hw17 hF17 => ?_;clear hF17;replace b1 := b1.later hw17;replace b2 := b2.later hw17;replace b5 := b5.later hw17;replace b9 := b9.later hw17;replace hU := hU.step hw17;clear hw17;refine l_nil ?_;refine hK _ _ ?_;clear hK K;rw [rightB_is2 hA h8 hS];exact c_ret (fun a ha => bodyPost_ret (results_tmp rfl _ _ _) ha.defers ⟨congrArg Ending.returned (ha.get 8 _ rfl), hU⟩)
   ·refine c_seq fun K0 hK0 => ?_
    refine c_seq fun K hK => ?_;refine c_gF 3 ?_;refine g_op rfl ?_;refine f_by g9 0 ((drop32 hs)) rfl rfl rfl rfl rfl (fun _ h1 => (h1.1.blk b9).range) ?_;refine g_go ?_;refine g_op rfl ?_
    refine f_call #[.agg (By (sig.drop 32)).toArray] (.bool false) rfl rfl rfl own_rgood4 (fun w1 h1 => by
      have := good4_f (sig.drop 32) (drop32 hs) w1
      rwa [decide_eq_false hS] at this) rfl rfl ?_
    refine g_go ?_;refine g_op rfl ?_;refine f_not false true rfl rfl rfl rfl rfl rfl ?_;refine g_go ?_;refine g_end fun W11 hw11 hF11 => ?_;clear hF11;replace b1 := b1.later hw11;replace b2 := b2.later hw11;replace b5 := b5.later hw11;replace hU := hU.step hw11;clear hw11;refine l_nil ?_;refine hK _ _ ?_;clear hK K;refine c_cond true rfl ?_;rw [if_pos rfl];refine c_seq fun K hK => ?_;refine c_lit ?_;refine l_assign (.bool false) rfl rfl rfl rfl rfl ?_;refine l_nil ?_;refine hK _ _ ?_;clear hK K;rw [rightB_great hS];exact c_ret (k_then_ret (fun a ha => bodyPost_ret (results_tmp rfl _ _ _) ha.defers ⟨congrArg Ending.returned (ha.get 8 _ rfl), hU⟩))
 ·refine c_seq fun K hK => ?_
  refine c_gF 6 ?_;refine g_op rfl ?_;refine f_cu g1 hD.len rfl rfl rfl rfl rfl (fun _ h1 => (h1.1.blk b1).range) ?_;refine g_go ?_;refine g_op rfl ?_;refine f_by g2 0 hk rfl rfl rfl rfl rfl (fun _ h1 => (h1.1.blk b2).range) ?_;refine g_go ?_;refine g_op rfl ?_;refine f_call #[.agg (Is D).toArray, .agg (By key).toArray] (.tuple #[.agg (pt n16 n16 n16 n16).toArray, .bool false]) rfl rfl rfl own_rdecode (fun w1 h1 => rdec_no hD hk hA w1) rfl rfl ?_;refine g_go ?_;refine g_op rfl ?_;refine f_move (.tuple #[.agg (pt n16 n16 n16 n16).toArray, .bool false]) rfl rfl rfl rfl rfl ?_;refine g_go ?_;refine g_op rfl ?_;refine f_extract (.agg (pt n16 n16 n16 n16).toArray) rfl rfl rfl rfl rfl rfl ?_;refine g_go ?_;refine g_op rfl ?_;refine f_extract (.bool false) rfl rfl rfl rfl rfl rfl ?_;refine g_go ?_;refine g_end fun W4 hw4 hF4 => ?_;clear hF4;replace hU := hU.step hw4;clear hw4;refine l_allocA ((pt n16 n16 n16 n16).toArray) rfl rfl rfl rfl (by kernel_rfl) fun W5 g5 hw5 hg5 b5 => ?_
  have q5 : w.heap.size ≤ g5 := by rw [hg5]; exact hU.size
  replace hU := hU.step hw5;clear hw5 hg5;refine l_set g5 _ ((pt n16 n16 n16 n16).toArray) rfl rfl rfl rfl rfl b5 (size_pt _ pt0_len) rfl (pt0_oneA) ?_;replace hU := up_row hU q5 ((pt n16 n16 n16 n16).toArray);generalize World.setRow _ g5 ((pt n16 n16 n16 n16).toArray) = W6 at *;refine l_assign (.bool false) rfl rfl rfl rfl rfl ?_;refine l_nil ?_;refine hK _ _ ?_;clear hK K;refine c_seq fun K0 hK0 => ?_;refine c_seq fun K hK => ?_;refine c_gF 7 ?_;refine g_op rfl ?_;refine f_move (.bool false) rfl rfl rfl rfl rfl ?_;refine g_go ?_;refine g_op rfl ?_;refine f_not false true rfl rfl rfl rfl rfl rfl ?_;refine g_go ?_;refine g_op rfl ?_;refine f_move (.bool true) rfl rfl rfl rfl rfl ?_;refine g_go ?_;refine g_skip rfl rfl rfl rfl rfl rfl rfl ?_;refine g_skip rfl rfl rfl rfl rfl rfl rfl ?_;refine g_skip rfl rfl rfl rfl rfl rfl rfl ?_;refine g_op rfl ?_;refine f_pick (.bool true) rfl rfl rfl rfl rfl rfl ?_;refine g_go ?_;refine g_end fun W7 hw7 hF7 => ?_;clear hF7;replace hU := hU.step hw7;clear hw7;refine l_nil ?_;refine hK _ _ ?_;clear hK K;refine c_cond true rfl ?_;rw [if_pos rfl];refine c_seq fun K hK => ?_;refine c_lit ?_;refine l_assign (.bool false) rfl rfl rfl rfl rfl ?_;refine l_nil ?_;refine hK _ _ ?_;clear hK K;rw [rightB_no hA];exact c_ret (k_then_ret (fun a ha => bodyPost_ret (results_tmp rfl _ _ _) ha.defers ⟨congrArg Ending.returned (ha.get 8 _ rfl), hU⟩))
end Go.Proofs.YtiamoeifaahlfaaDoor
/-
  PLAIN NUMBERS: the bytes of a known multiple of the base point, reckoned by the kernel. No program is imported.
-/
namespace Nums
def triZ : Tri := ⟨0, 1, 1⟩
def triB : Tri := ⟨bx, bY, 1⟩
theorem triZ_rep : TriRep triZ Ed.zero := by
 unfold TriRep triZ
 rw [fof_zero, fof_one];exact Ed.Rep.zero prime_p
theorem triB_rep : TriRep triB base := by
 unfold TriRep triB
 rw [fof_one]
 have e : ∀ u : F, u = u * 1 := fun u => by grind only
 exact ⟨fun h => ne_one prime_p h.symm, e _, e _⟩
theorem tri_mul (n : Nat) (hn : n < 2 ^ 256) : TriRep (triMul 256 n triZ triB) (Ed.mul dd n base) := by
 have h := triMul_rep 256 n triZ triB Ed.zero base hn Ed.on_zero on_base triZ_rep triB_rep
 rwa [Ed.zero_add good] at h
def encTri (t : Tri) (zi : Nat) : List UInt8 := forced (t.y * zi % p) fun y => forced (t.x * zi % p % 2) fun o => bytes 32 (y + 57896044618658097711785492504343953926634992332820282019728792003956564819968 * o)
theorem enc_tri {t : Tri} {A : Ed.Pt p} (h : TriRep t A) {zi : Nat} (hz : t.z * zi % p = 1) : encP A = encTri t zi := by
 have h1 : fof t.z * fof zi = 1 := by
  rw [← fof_mul, ← fof_one];exact fof_eq (by rw [hz]; decide)
 have hf : finv (fof t.z) = fof zi := finv_of prime_p h1;have ha := h.aff prime_p;rw [hf, ← fof_mul, ← fof_mul] at ha
 unfold encTri
 simp only [forced_eq];rw [encP, encN, ← ha.1, ← ha.2, fof_val, fof_val]
theorem enc_mul (n zi : Nat) (b : List UInt8) (hn : n < 2 ^ 256) (h : (forced (triMul 256 n triZ triB).z fun z => decide (z * zi % p = 1)) = true) (hb : encTri (triMul 256 n triZ triB) zi = b) : encP (Ed.mul dd n base) = b := by
 rw [forced_eq] at h;rw [enc_tri (tri_mul n hn) (of_decide_eq_true h), hb]
end Nums
/-
  PLAIN NUMBERS: digests reckoned by the kernel: each word once. No program is imported.
-/
namespace Nums

def xsl (s : Sha) (b : List UInt8) : Nat → List Nat
  | 0 => []
  | t + 1 => sx s b t :: xsl s b t
theorem xsl_len (s : Sha) (b : List UInt8) : ∀ t, (xsl s b t).length = t
 | 0 => rfl
 | t + 1 => by rw [xsl, List.length_cons, xsl_len]
theorem xsl_at (s : Sha) (b : List UInt8) : ∀ t j, j < t → (xsl s b t)[j]! = sx s b (t - 1 - j)
 | 0, _, h => absurd h (by omega)
 | t + 1, 0, _ => by
  show (sx s b t :: xsl s b t)[0]! = _
  rw [Nat.add_sub_cancel, Nat.sub_zero]
  rfl
 | t + 1, j + 1, h => by
  show (sx s b t :: xsl s b t)[j + 1]! = _
  have e : (sx s b t :: xsl s b t)[j + 1]! = (xsl s b t)[j]! := by simp
  rw [e, xsl_at s b t j (by omega)]
  congr 1
  omega
def firstF (s : Sha) (b : List UInt8) : Nat → List Nat
  | 0 => []
  | t + 1 => forced (bword s b t) fun v => v :: firstF s b t
theorem firstF_eq (s : Sha) (b : List UInt8) : ∀ t, t ≤ 16 → firstF s b t = xsl s b t
 | 0, _ => rfl
 | t + 1, h => by
  have e : sx s b t = bword s b t := by rw [sx, dif_pos (by omega)]
  rw [firstF, forced_eq, xsl, firstF_eq s b t (by omega), e]
def grow (s : Sha) : Nat → List Nat → List Nat
  | 0, L => L
  | k + 1, L => forced ((loww s.w s.low1 L[1]! + L[6]! + loww s.w s.low0 L[14]! + L[15]!) % 2 ^ s.w) fun v => grow s k (v :: L)
theorem grow_eq (s : Sha) (b : List UInt8) : ∀ k t, 16 ≤ t → grow s k (xsl s b t) = xsl s b (t + k)
 | 0, _, _ => rfl
 | k + 1, t, h => by
  have e : (loww s.w s.low1 (xsl s b t)[1]! + (xsl s b t)[6]! + loww s.w s.low0 (xsl s b t)[14]! + (xsl s b t)[15]!) % 2 ^ s.w = sx s b t := by
   rw [xsl_at s b t 1 (by omega), xsl_at s b t 6 (by omega), xsl_at s b t 14 (by omega), xsl_at s b t 15 (by omega)]
   conv => rhs; rw [sx, dif_neg (by omega)]
   rw [show t - 1 - 1 = t - 2 from by omega, show t - 1 - 6 = t - 7 from by omega, show t - 1 - 14 = t - 15 from by omega, show t - 1 - 15 = t - 16 from by omega]
  rw [grow, forced_eq, e];have h2 := grow_eq s b k (t + 1) (by omega);rw [xsl] at h2;rw [h2]
  congr 1
  omega
def rndF (s : Sha) : List Nat → Nat → Oct → Oct
  | [], _, o => o
  | x :: r, t, o => forced (t1w s (s.k t) x o) fun T => forced ((T + t2w s o) % 2 ^ s.w) fun A => forced ((o.d + T) % 2 ^ s.w) fun E => rndF s r (t + 1) ⟨A, o.a, o.b, o.c, E, o.e, o.f, o.g⟩
theorem rndF_eq (s : Sha) (b : List UInt8) (o : Oct) : ∀ (l : List Nat) (t : Nat), (∀ j x, l[j]? = some x → x = sx s b (t + j)) → rndF s l t (rnds s b o t) = rnds s b o (t + l.length)
 | [], _, _ => rfl
 | x :: r, t, h => by
  have hx := h 0 x rfl;rw [Nat.add_zero] at hx;subst hx;rw [rndF];simp only [forced_eq];have h2 := rndF_eq s b o r (t + 1) (fun j x hj => by rw [h (j + 1) x (by simpa using hj)]; congr 1; omega);rw [show rnds s b o (t + 1) = rnd s (s.k t) (sx s b t) (rnds s b o t) from rfl] at h2;rw [show t + (sx s b t :: r).length = t + 1 + r.length from by rw [List.length_cons]; omega, ← h2]
  rfl
def add8F (w : Nat) (o q : Oct) : Oct :=
  forced ((o.a + q.a) % 2 ^ w) fun a => forced ((o.b + q.b) % 2 ^ w) fun b => forced ((o.c + q.c) % 2 ^ w) fun c => forced ((o.d + q.d) % 2 ^ w) fun d =>
  forced ((o.e + q.e) % 2 ^ w) fun e => forced ((o.f + q.f) % 2 ^ w) fun f => forced ((o.g + q.g) % 2 ^ w) fun g => forced ((o.h + q.h) % 2 ^ w) fun h => ⟨a, b, c, d, e, f, g, h⟩
theorem add8F_eq (w : Nat) (o q : Oct) : add8F w o q = add8 w o q := by
 unfold add8F
 simp only [forced_eq]
 rfl
def turnF (s : Sha) (o : Oct) (b : List UInt8) : Oct := add8F s.w o (rndF s (grow s (s.n - 16) (firstF s b 16)).reverse 0 o)
theorem turnF_eq {s : Sha} (hn : 16 ≤ s.n) (o : Oct) (b : List UInt8) : turnF s o b = turnw s o b := by
 rw [turnF, add8F_eq, turnw, firstF_eq s b 16 (Nat.le_refl _), grow_eq s b _ 16 (Nat.le_refl _), show 16 + (s.n - 16) = s.n from by omega]
 congr 1
 have h := rndF_eq s b o (xsl s b s.n).reverse 0 (fun j x hj => by
  have hl : j < (xsl s b s.n).reverse.length := (List.getElem?_eq_some_iff.1 hj).1;rw [List.length_reverse, xsl_len] at hl;rw [List.getElem?_reverse (by rw [xsl_len]; exact hl), xsl_len] at hj;have h1 := xsl_at s b s.n (s.n - 1 - j) (by omega);rw [List.getElem!_eq_getElem?_getD, hj] at h1;rw [show 0 + j = s.n - 1 - (s.n - 1 - j) from by omega, ← h1]
  rfl)
 rw [List.length_reverse, xsl_len, Nat.zero_add] at h;exact h
def runF (s : Sha) (B : Nat) : Nat → Oct → List UInt8 → Oct
  | 0, o, _ => o
  | k + 1, o, l => runF s B k (turnF s o (l.take B)) (l.drop B)
theorem runF_eq {s : Sha} {B : Nat} (hB : 0 < B) (hn : 16 ≤ s.n) : ∀ k o l, l.length = k * B → runF s B k o l = runw s B o l
 | 0, o, l, h => by
  have h0 : l = [] := List.eq_nil_of_length_eq_zero (by omega);subst h0;rw [runF, runw_short (by simpa using hB)]
 | k + 1, o, l, h => by
  have hl : (l.take B).length = B := by rw [List.length_take, h, Nat.add_mul]; omega
  have hd : (l.drop B).length = k * B := by rw [List.length_drop, h, Nat.add_mul]; omega
  rw [runF, turnF_eq hn, runF_eq hB hn k _ _ hd]
  conv => rhs; rw [← List.take_append_drop B l, runw_block hB hl]
def digestF (s : Sha) (n : Nat) (m : List UInt8) : List UInt8 :=
  ((runF s (2 * s.w) n ⟨s.start[0]!, s.start[1]!, s.start[2]!, s.start[3]!, s.start[4]!, s.start[5]!, s.start[6]!, s.start[7]!⟩ (m ++ tailw (2 * s.w) (m.length % (2 * s.w)) (8 * m.length))).list.map (layw s)).flatten
theorem digest_eq {s : Sha} (n : Nat) (m : List UInt8) (hw : 0 < 2 * s.w) (hn : 16 ≤ s.n) (h : (m ++ tailw (2 * s.w) (m.length % (2 * s.w)) (8 * m.length)).length = n * (2 * s.w)) : digest s m = digestF s n m := by
 rw [digest, sumw, digestF, runF_eq hw hn n _ _ h]
end Nums
