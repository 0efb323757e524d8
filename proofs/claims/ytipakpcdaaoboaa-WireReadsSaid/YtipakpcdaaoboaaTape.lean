/-
  THE CONTRACTS OF THE DOCUMENT'S OWN READER (witanref01.Tape).
-/
import Derived.Test.YtipakpcdaaoboaaHash
import Derived.Deep.QuietTactic
import Derived.BigQuiet
namespace Go.Proofs.Ytipakpcdaaoboaa
open Go.RowKit

/-- The tape in block τ: the bytes that are left, the error's number. -/
def Tap (w : World) (hi τ : Nat) (l : List UInt8) (f : Nat) : Prop :=
  ∃ A L c p, Blk w τ 49 #[.slice A (L : List UInt8).length c, .int .i64 ((p : Nat) : Int), .int .i64 (f : Int)] ∧ SL w 0 hi A L c ∧ p ≤ L.length ∧ hi ≤ τ ∧ l = L.drop p

theorem Tap.lt {w : World} {hi τ f : Nat} {l : List UInt8} (h : Tap w hi τ l f) : τ < w.heap.size := by
  obtain ⟨A, L, c, p, hb, _⟩ := h
  exact hb.lt
theorem Tap.below {w w' : World} {hi τ f B : Nat} {l : List UInt8} (h : Tap w hi τ l f) (hb : Below B w w') (hB : τ < B) : Tap w' hi τ l f := by
  obtain ⟨A, L, c, p, hk, h1, h2, h3, h4⟩ := h
  exact ⟨A, L, c, p, hk.below hb hB, h1.below hb (by omega), h2, h3, h4⟩
theorem Tap.grown {w w' : World} {hi τ f r : Nat} {l : List UInt8} (h : Tap w hi τ l f) (hg : w.grownBy w' (some r)) (hr : hi ≤ r) (hne : τ ≠ r) : Tap w' hi τ l f := by
  have hlt := h.lt
  obtain ⟨A, L, c, p, hk, h1, h2, h3, h4⟩ := h
  exact ⟨A, L, c, p, hk.grown hg (fun e => by injection e with e; omega), h1.grown hg (by omega) (.inr hr), h2, h3, h4⟩

theorem only_drewN {a b : World} {r : Nat} (h : a.grownBy b (some r)) (n : Nat) : a.grownBy (b.drewN n) (some r) := ⟨h.os, h.tape, h.output, h.size, h.block⟩

def TTakePost (w : World) (hi τ : Nat) (t : List UInt8 × List UInt8 × Nat) (e : Ending) (w' : World) : Prop :=
  ∃ A c, e = .returned (.slice A t.1.length c) ∧ SL w' 0 hi A t.1 c ∧ Tap w' hi τ t.2.1 t.2.2 ∧ w.grownBy w' (some τ)

set_option maxHeartbeats 1000000 in
theorem ttake_any (hi τ : Nat) (l : List UInt8) (f k : Nat) (w : World) (h : Tap w hi τ l f) (hk : k ≤ 4611686018427387904) :
    Calls Try.prog 32 #[.pointer (some ⟨τ, 0, none⟩), .int .i64 k] w (TTakePost w hi τ (tk l f k)) := by
  obtain ⟨A, L, c, p, hb, hs, hp, hhi, rfl⟩ := h
  have c0 := hb.cell 0
  have c1 := hb.cell 1
  have c2 := hb.cell 2
  have f0 := hb.free 0
  have f1 := hb.free 1
  have f2 := hb.free 2
  have l1 := hs.1
  have l2 := hs.2.1
  simp at c0 c1 c2
  by_cases hf : f = 0
  · subst hf
    have q1 : (0 : Int) ≤ (L.length : Int) - (p : Int) := by omega
    have q2 : IntKind.i64.wrap ((L.length : Int) - (p : Int)) = (L.length : Int) - (p : Int) := IntWalk.i64_in _ ⟨by omega, by omega⟩
    by_cases hlt : L.length - p < k
    · have q3 : (L.length : Int) - (p : Int) < (k : Int) := by omega
      go_enter Try.func32, Try.ntmps32
      go_wp2_with (fail)
      go_quiet (fail)
      go_wp2
      go_ret
      rw [tk_short (by rw [List.length_drop]; exact hlt)]
      have hs2 := (hs.drewN nq).setCell (p := ⟨τ, 2, none⟩) (.inr hhi) (.int .i64 10)
      have hb2 := (hb.drewN nq).set 2 (.int .i64 10)
      exact ⟨none, 0, rfl, SL.nil _ _ _, ⟨A, L, c, p, by simpa using hb2, hs2, hp, hhi, rfl⟩, only_set (only_drewN (only_refl _ _) nq) 2 _⟩
    · have q3 : ¬ (L.length : Int) - (p : Int) < (k : Int) := by omega
      go_enter Try.func32, Try.ntmps32
      go_wp2_with (fail)
      go_quiet (fail)
      go_wp2_with (fail)
      have hs2 := (hs.drewN nq).setCell (p := ⟨τ, 1, none⟩) (.inr hhi) (.int .i64 ((p : Int) + (k : Int)))
      have hb2 := (hb.drewN nq).set 1 (.int .i64 ((p : Int) + (k : Int)))
      have hg2 := only_set (only_drewN (only_refl w τ) nq) 1 (.int .i64 ((p : Int) + (k : Int)))
      simp at hb2
      clear c0 c1 c2 f0 f1 f2 hb hs
      generalize (w.drewN nq).setCell ⟨τ, 1, none⟩ (.int .i64 ((p : Int) + (k : Int))) = w2 at *
      have c0 := hb2.cell 0
      have c1 := hb2.cell 1
      simp at c0 c1
      have r1 : IntKind.i64.wrap ((p : Int) + (k : Int) - (k : Int)) = (p : Int) := by rw [Int.add_sub_cancel]; exact IntWalk.i64_in _ ⟨by omega, by omega⟩
      have r1' : IntKind.i64.wrap (p : Int) = (p : Int) := IntWalk.i64_in _ ⟨by omega, by omega⟩
      have r2 : (0 : Int) ≤ (p : Int) := by omega
      have r3 : (p : Int) ≤ (p : Int) + (k : Int) := by omega
      have r4 : (p : Int) + (k : Int) ≤ (c : Int) := by omega
      have r5 : ((p : Int) + (k : Int)).toNat = p + k := by omega
      have r6 : p + k - p = k := by omega
      have hcut := (hs2.cut hp).take k
      have htl : ((L.drop p).take k).length = k := by rw [List.length_take, List.length_drop]; omega
      have hb3 : Blk w2 τ 49 #[.slice A L.length c, .int .i64 ((p + k : Nat) : Int), .int .i64 ((0 : Nat) : Int)] := by
        rw [show ((p + k : Nat) : Int) = (p : Int) + (k : Int) by omega]
        exact hb2
      have HB := Lib.hid hb3
      clear hb3 hb2
      by_cases hcp : c = p
      · rw [if_pos hcp] at hcut
        go_quiet (fail)
        go_wp2
        go_ret
        rw [tk_ok (by rw [List.length_drop]; omega)]
        exact ⟨A, c - p, by rw [htl, hcp, Nat.sub_self]; rfl, hcut.drewN nq, ⟨A, L, c, p + k, HB.out.drewN nq, hs2.drewN nq, by omega, hhi, by rw [List.drop_drop]⟩, only_drewN hg2 nq⟩
      · rw [if_neg hcp] at hcut
        go_quiet (fail)
        go_wp2
        go_ret
        rw [tk_ok (by rw [List.length_drop]; omega)]
        exact ⟨_, c - p, by rw [htl]; rfl, hcut.drewN nq, ⟨A, L, c, p + k, HB.out.drewN nq, hs2.drewN nq, by omega, hhi, by rw [List.drop_drop]⟩, only_drewN hg2 nq⟩
  · have hf' : ((f : Int) != 0) = true := by rw [bne_iff_ne]; omega
    go_enter Try.func32, Try.ntmps32
    go_wp2
    go_ret
    rw [tk_fail hf]
    exact ⟨none, 0, rfl, SL.nil _ _ _, ⟨A, L, c, p, hb, hs, hp, hhi, rfl⟩, only_refl _ _⟩

/-- What a method of the tape that answers one value ends in. -/
def TValPost (w : World) (hi τ : Nat) (v : Value) (l' : List UInt8) (f' : Nat) (e : Ending) (w' : World) : Prop :=
  e = .returned v ∧ Tap w' hi τ l' f' ∧ w.grownBy w' (some τ)

theorem tape_step (a : Nat) (x : UInt8) : IntKind.u64.wrap (IntKind.u64.wrap (256 * (a : Int)) + IntKind.u64.wrap (x.toNat : Int)) = (step a x : Int) := by
  have hx : x.toNat < 256 := x.toNat_lt
  simp only [IntKind.wrap, IntKind.bits, IntKind.signed, step]
  simp
  omega

set_option maxHeartbeats 1000000 in
theorem tnum_any (hi τ : Nat) (l : List UInt8) (f : Nat) (w : World) (h : Tap w hi τ l f) :
    Calls Try.prog 22 #[.pointer (some ⟨τ, 0, none⟩)] w (TValPost w hi τ (.int .u64 (num l f).1) (num l f).2.1 (num l f).2.2) := by
  have HT := Lib.hid (ttake_any hi τ l f 8 w h (by omega))
  clear h
  have hnum : num l f = (val (tk l f 8).1, (tk l f 8).2) := rfl
  rw [hnum]
  clear hnum
  go_enter Try.func22, Try.ntmps22
  go_wp2_with (fail)
  refine HT.out.mono ?_
  rintro e w1 ⟨A, c, rfl, hs, hr, hg⟩
  have l1 := hs.1
  have l2 := hs.2.1
  have hbv := hs.2.2.2
  generalize tk l f 8 = t at *
  clear HT
  go_wp2_with (fail)
  go_loop [3, 5, 9] (fun v _ i => ∃ k : Nat, k ≤ t.1.length ∧ i = .int .i64 k ∧ v = .int .u64 (val (t.1.take k))) (fun _ _ i => t.1.length - (intOf i).toNat)
  case atStart => exact ⟨0, Nat.zero_le _, rfl, rfl⟩
  case round =>
    obtain ⟨k, hk, rfl, rfl⟩ := hrel
    by_cases hlt : k < t.1.length
    · obtain ⟨ad, rfl, _, _, hcell⟩ := hbv (by omega)
      have hx := hcell k t.1[k] (List.getElem?_eq_getElem hlt)
      clear hcell
      go_wp2
      go_round
      case rel => exact ⟨k + 1, by omega, by go_num, by rw [tape_step, take_snoc t.1 k hlt, val_snoc]⟩
      case measure => simp [intOf]; omega
    · go_wp2
      go_ret
      exact ⟨ret_u64 (by rw [List.take_of_length_le (by omega)]), hr, hg⟩

set_option maxHeartbeats 1000000 in
theorem tupto_any (hi τ : Nat) (l : List UInt8) (f lim : Nat) (w : World) (h : Tap w hi τ l f) (hlim : lim ≤ 1048576) :
    Calls Try.prog 26 #[.pointer (some ⟨τ, 0, none⟩), .int .u64 lim] w (TValPost w hi τ (.int .i64 (most l f lim).1) (most l f lim).2.1 (most l f lim).2.2) := by
  have HT := Lib.hid (tnum_any hi τ l f w h)
  by_cases hbig : lim < (num l f).1
  · have e : most l f lim = (0, (num l f).2.1, 12) := by unfold most; rw [if_pos hbig]
    go_enter Try.func26, Try.ntmps26
    go_wp2_with (fail)
    refine HT.out.mono ?_
    rintro e w1 ⟨rfl, ⟨A, L, c, p, hb, hs, hp, hhi, hl⟩, hg⟩
    have c2 := hb.cell 2
    have f2 := hb.free 2
    simp at c2
    have HL := Lib.hid hl
    clear hl h
    go_wp2
    go_ret
    rw [e]
    exact ⟨rfl, ⟨A, L, c, p, by simpa using hb.set 2 (.int .i64 12), hs.setCell (.inr hhi) _, hp, hhi, HL.out⟩, only_set hg 2 _⟩
  · have e : most l f lim = num l f := by unfold most; rw [if_neg hbig]
    go_enter Try.func26, Try.ntmps26
    go_wp2_with (fail)
    refine HT.out.mono ?_
    rintro e w1 ⟨rfl, hr, hg⟩
    go_wp2
    go_ret
    rw [e]
    exact ⟨rfl, hr, hg⟩

set_option maxHeartbeats 1000000 in
theorem tnext_any (hi τ : Nat) (l : List UInt8) (f : Nat) (w : World) (h : Tap w hi τ l f) :
    Calls Try.prog 23 #[.pointer (some ⟨τ, 0, none⟩)] w (TTakePost w hi τ (byts l f)) := by
  have HT := Lib.hid (tupto_any hi τ l f 1048576 w h (by omega))
  have hle := most_le l f 1048576
  go_enter Try.func23, Try.ntmps23
  go_wp2_with (fail)
  refine HT.out.mono ?_
  rintro e w1 ⟨rfl, hr1, hg1⟩
  have HT2 := Lib.hid (ttake_any hi τ (most l f 1048576).2.1 (most l f 1048576).2.2 (most l f 1048576).1 w1 hr1 (by omega))
  go_wp2_with (fail)
  refine HT2.out.mono ?_
  rintro e w2 ⟨A, c, rfl, hs, hr, hg⟩
  go_wp2
  go_ret
  exact ⟨A, c, rfl, hs, hr, only_trans hg1 hg⟩

set_option maxHeartbeats 1000000 in
theorem tend_any (hi τ : Nat) (l : List UInt8) (f : Nat) (w : World) (h : Tap w hi τ l f) :
    Calls Try.prog 27 #[.pointer (some ⟨τ, 0, none⟩)] w fun e w' => e = .returned (.int .i64 (don l f)) ∧ Below w.heap.size w w' := by
  obtain ⟨A, L, c, p, hb, hs, hp, hhi, rfl⟩ := h
  have c0 := hb.cell 0
  have c1 := hb.cell 1
  have c2 := hb.cell 2
  simp at c0 c1 c2
  by_cases hf : f = 0
  · subst hf
    have hf' : (((0 : Nat) : Int) == 0) = true := rfl
    by_cases hl : p < L.length
    · have e : don (L.drop p) 0 = 11 := by
        simp only [don, if_pos, List.length_drop]
        rw [if_neg (by omega)]
      have hl' : (p : Int) < (L.length : Int) := by omega
      clear hl
      go_enter Try.func27, Try.ntmps27
      go_wp2_with (fail)
      go_quiet (fail)
      go_wp2
      go_ret
      exact ⟨ret_i64 (by rw [e]; rfl), below_drewN (Below.refl _ _) _⟩
    · have e : don (L.drop p) 0 = 0 := by
        simp only [don, if_pos, List.length_drop]
        rw [if_pos (by omega)]
      have hl' : ¬ (p : Int) < (L.length : Int) := by omega
      clear hl
      go_enter Try.func27, Try.ntmps27
      go_wp2_with (fail)
      go_quiet (fail)
      go_wp2
      go_ret
      exact ⟨ret_i64 (by rw [e]; rfl), below_drewN (Below.refl _ _) _⟩
  · have e : don (L.drop p) f = f := by simp [don, hf]
    have hf' : ((f : Int) == 0) = false := by rw [beq_eq_false_iff_ne]; omega
    go_enter Try.func27, Try.ntmps27
    go_wp2_with (fail)
    go_quiet (fail)
    go_wp2
    go_ret
    exact ⟨ret_i64 (by rw [e]), below_drewN (Below.refl _ _) _⟩

end Go.Proofs.Ytipakpcdaaoboaa
