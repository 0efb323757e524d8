/-
  THE WALK OF WireJoins.
-/
import Derived.Test.YtipakpcdaaoboaaBounds
import Derived.StillTailTactics
namespace Go.Proofs.Ytipakpcdaaoboaa
open Go.RowKit

/-- The numbers N lie at A. -/
def NV (w : World) (hi : Nat) (A : Option Addr) (N : List Nat) : Prop :=
  0 < N.length → ∃ ad, A = some ad ∧ ad.block < hi ∧ ∀ (j x : Nat), N[j]? = some x → w.cell? (ad.add j) = some (.int .u64 (x : Int)) ∧ x < 18446744073709551616

theorem NV.below {w w' : World} {hi B : Nat} {A : Option Addr} {N : List Nat} (h : NV w hi A N) (hb : Below B w w') (hB : hi ≤ B) : NV w' hi A N := fun hl => by
  obtain ⟨ad, rfl, ha, hc⟩ := h hl
  refine ⟨ad, rfl, ha, fun j x hx => ?_⟩
  obtain ⟨h1, h2⟩ := hc j x hx
  exact ⟨by rw [hb.cell (by rw [block_add]; omega)]; exact h1, h2⟩
theorem NV.take {w : World} {hi : Nat} {A : Option Addr} {N : List Nat} (h : NV w hi A N) (k : Nat) : NV w hi A (N.take k) := fun hl => by
  obtain ⟨ad, rfl, ha, hc⟩ := h (by simp at hl; omega)
  refine ⟨ad, rfl, ha, fun j x hx => hc j x ?_⟩
  rw [List.getElem?_take] at hx
  split at hx
  · exact hx
  · cases hx

/-- All numbers, one behind the other. -/
def enc (N : List Nat) : List UInt8 := (N.map be8).flatten
theorem enc_len (N : List Nat) : (enc N).length = 8 * N.length := by
  induction N with
  | nil => rfl
  | cons x N ih => simp only [enc, List.map_cons, List.flatten_cons, List.length_append, List.length_cons, be8_len] at ih ⊢; omega
theorem enc_succ (N : List Nat) (k : Nat) (h : k < N.length) : enc (N.take (k + 1)) = enc (N.take k) ++ be8 N[k] := by
  rw [List.take_succ_eq_append_getElem h]
  simp only [enc, List.map_append, List.map_cons, List.map_nil, List.flatten_append, List.flatten_cons, List.flatten_nil, List.append_nil]
theorem enc_drop (N : List Nat) (k : Nat) (h : k < N.length) : enc (N.drop k) = be8 N[k] ++ enc (N.drop (k + 1)) := by
  rw [List.drop_eq_getElem_cons h]
  simp only [enc, List.map_cons, List.flatten_cons]

/-- uint(t) % uint(L+1). -/
def kat (t : Int) (L : Nat) : Nat := (t % 18446744073709551616 % ((L : Int) + 1)).toNat
theorem kat_le (t : Int) (L : Nat) : kat t L ≤ L := by
  unfold kat
  have h1 := Int.emod_lt_of_pos (t % 18446744073709551616) (show (0 : Int) < (L : Int) + 1 by omega)
  omega
theorem kat_eq (t : Int) (L : Nat) (hL : L ≤ 400) : wrap64 ((IntKind.u64.wrap t).tmod ((L : Int) + 1)) = (kat t L : Int) := by
  have e : IntKind.u64.wrap t = t % 18446744073709551616 := by simp [IntKind.wrap, IntKind.bits, IntKind.signed]
  have h0 : 0 ≤ t % 18446744073709551616 := by omega
  rw [e, Int.tmod_eq_emod_of_nonneg h0]
  have h1 := Int.emod_lt_of_pos (t % 18446744073709551616) (show (0 : Int) < (L : Int) + 1 by omega)
  have h2 := Int.emod_nonneg (t % 18446744073709551616) (show ((L : Int) + 1) ≠ 0 by omega)
  unfold kat
  rw [IntWalk.wrap64_in _ ⟨by omega, by omega⟩]
  omega

/-- Join(L[:k], nil, L[k:]). -/
theorem join3 (w2 : World) (B C : Option Addr) (L : List UInt8) (k d x : Nat) (hs : SL w2 0 w2.heap.size B L d) (hkl : k ≤ L.length) (hl : L.length ≤ 400)
    (hC : (d = k ∧ C = B ∧ x = 0) ∨ (¬ d = k ∧ C = B.map (·.add k) ∧ x = d - k)) :
    Calls Try.prog 13 #[.slice (some ⟨w2.heap.size, 0, none⟩) 3 3] (w2.alloc (.cells #[.slice B k d, .slice none 0 0, .slice C (L.length - k) x] 24)) (Made w2 L) := by
  have hcut := hs.cut hkl
  have hc2 : SL w2 0 w2.heap.size C (L.drop k) x := by
    rcases hC with ⟨h1, rfl, rfl⟩ | ⟨h1, rfl, rfl⟩
    · rw [if_pos h1, h1, Nat.sub_self] at hcut
      exact hcut
    · rw [if_neg h1] at hcut
      exact hcut
  have htl : (L.take k).length = k := by rw [List.length_take]; omega
  have hdl : (L.drop k).length = L.length - k := List.length_drop
  have hfl : [L.take k, [], L.drop k].flatten = L := by simp
  have hp := parts_new (w := w2) (hi := w2.heap.size) (ls := [L.take k, [], L.drop k]) (vs := [.slice B k d, .slice none 0 0, .slice C (L.length - k) x]) (Nat.le_refl _) (by
    intro i y hy
    match i, hy with
    | 0, hy => injection hy with hy; subst hy; exact ⟨_, _, by rw [htl]; rfl, hs.take k⟩
    | 1, hy => injection hy with hy; subst hy; exact ⟨_, _, rfl, SL.nil _ _ _⟩
    | 2, hy => injection hy with hy; subst hy; exact ⟨_, _, by rw [hdl]; rfl, hc2⟩)
  have hbq := (Below.refl w2.heap.size w2).alloc (Nat.le_refl _) (Obj.cells #[.slice B k d, .slice none 0 0, .slice C (L.length - k) x] 24)
  have hJ := join_made w2 _ _ 3 _ _ rfl hp (by simp) (by omega) (by unfold tot; rw [hfl]; omega) hbq
  rw [hfl] at hJ
  exact hJ

set_option maxHeartbeats 1000000 in
theorem joins_walk (A : Option Addr) (N : List Nat) (c hi : Nat) (t : Int) (w : World) (h : NV w hi A N) (hhi : hi ≤ w.heap.size) (hc : N.length ≤ c) (hm : c ≤ 9223372036854775807) :
    Calls Try.prog 6 #[.slice A N.length c, .int .i64 t] w fun e w' => e = .returned (.bool true) ∧ Below w.heap.size w w' := by
  go_enter Try.func6, Try.ntmps6
  go_wp2_with (fail)
  refine (first_any w).mono ?_
  rintro e w0 ⟨rfl, hb0⟩
  have hbase : ∀ M : List Nat, M = N.take 50 → M.length ≤ 50 ∧ NV w0 hi A M ∧ M.length ≤ c := fun M e => by
    subst e
    exact ⟨by simp; omega, (h.below hb0 hhi).take 50, by simp; omega⟩
  have hz0 := hb0.size
  by_cases h50 : N.length ≤ 50
  all_goals go_wp2_with (fail)
  all_goals
    obtain ⟨M, hM⟩ : ∃ M : List Nat, M = N.take 50 := ⟨_, rfl⟩
    obtain ⟨hm50, hnv, hmc⟩ := hbase M hM
    first
      | (have hE : M.length = 50 := by (rw [hM]; simp; omega)
         rw [show Value.slice A 50 c = Value.slice A M.length c by rw [hE], show Value.int .i64 50 = Value.int .i64 (M.length : Int) by (rw [hE]; rfl)]
         clear hE)
      | (have hE : M.length = N.length := by (rw [hM]; simp; omega)
         rw [show Value.slice A N.length c = Value.slice A M.length c by rw [hE], show Value.int .i64 (N.length : Int) = Value.int .i64 (M.length : Int) by rw [hE]]
         clear hE)
    clear hbase hM h h50 hc
    go_loopw [5, 8, 22] (fun v _ i wr => ∃ k : Nat, k ≤ M.length ∧ i = .int .i64 k ∧ Below w.heap.size w wr ∧ Below w0.heap.size w0 wr ∧ ∃ B d, v = .slice B (enc (M.take k)).length d ∧ SL wr 0 wr.heap.size B (enc (M.take k)) d) (fun _ _ i _ => M.length - (intOf i).toNat)
    case atStart => exact ⟨0, Nat.zero_le _, rfl, hb0, Below.refl _ _, none, 0, rfl, SL.nil _ _ _⟩
    case round =>
      obtain ⟨k, hk, rfl, hb, hb', B, d, rfl, hs⟩ := hrel
      by_cases hlt : k < M.length
      · obtain ⟨ad, rfl, ha, hcell⟩ := hnv (by omega)
        obtain ⟨hx, hx2⟩ := hcell k M[k] (List.getElem?_eq_getElem hlt)
        have hx' := (hb'.cell (p := ad.add k) (by rw [block_add]; omega)).trans hx
        have hN := number_any B _ d M[k] wr.heap.size wr hs (Nat.le_refl _) hx2 (by rw [enc_len, List.length_take]; omega)
        rw [← enc_succ M k hlt] at hN
        have HN := Lib.hid hN
        clear hcell hx hN
        go_wp2_with (fail)
        refine HN.out.mono ?_
        rintro e w1 ⟨g, rfl, ho, hb1⟩
        have hbw := hb.trans (hb1.mono hb.size)
        have hbw' := hb'.trans (hb1.mono hb'.size)
        have hs1 := (SL.own ho).more (Nat.zero_le _) (Nat.le_refl _)
        clear ho hb1 hb HN hx'
        go_wp2
        go_roundw
        case rel => exact ⟨k + 1, by omega, by go_num, hbw, hbw', _, _, rfl, hs1⟩
        case measure => simp [intOf]; omega
      · obtain rfl : k = M.length := by omega
        rw [List.take_length] at hs ⊢
        have hl : (enc M).length ≤ 400 := by rw [enc_len]; omega
        go_wp2_with (fail)
        rw [kat_eq t _ hl]
        have hkl := kat_le t (enc M).length
        generalize kat t (enc M).length = k at *
        have hs1 := hs.1
        have hs2 := hs.2.1
        have q1 : k ≤ d := by omega
        have q2 : (k : Int) ≤ (d : Int) := by omega
        have q3 : (0 : Int) ≤ (k : Int) := by omega
        have q4 : (k : Int) ≤ ((enc M).length : Int) := by omega
        have q5 : ((enc M).length : Int) ≤ (d : Int) := by omega
        have hsd : SL wr.drew 0 wr.drew.heap.size B (enc M) d := hs
        have hbd := hb.drew
        have hbd' := hb'.drew
        by_cases hdk : d = k
        all_goals
          go_still_tail 6, (by kernel_rfl)
          change wpList _ _ _ _ _ wr.drew
          clear hs hb hb'
          generalize wr.drew = w2 at *
          have HJ := fun C x hC => Lib.hid (join3 w2 B C (enc M) k d x hsd hkl hl hC)
          clear hsd
          go_wp2_with (fail)
          first
            | (subst d
               refine (HJ B 0 (.inl ⟨rfl, rfl, rfl⟩)).out.mono ?_)
            | refine (HJ _ _ (.inr ⟨hdk, rfl, rfl⟩)).out.mono ?_
          rintro e w3 ⟨g, rfl, ho, hb3⟩
          have hbw3 := hbd.trans (hb3.mono hbd.size)
          have hbw3' := hbd'.trans (hb3.mono hbd'.size)
          have hN := new_any (some ⟨g, 0, none⟩) (enc M) (enc M).length w3.heap.size w3 ((SL.own ho).more (Nat.zero_le _) (Nat.le_refl _)) (Nat.le_refl _) (by omega)
          have HN := Lib.hid hN
          clear hN ho hb3 HJ hbd hbd'
          go_wp2_with (fail)
          refine HN.out.mono ?_
          rintro e w4 ⟨r, rfl, hr, hrw, hb4⟩
          have hbw4 := hbw3.trans (hb4.mono hbw3.size)
          have hbw4' := hbw3'.trans (hb4.mono hbw3'.size)
          have hwr : w.heap.size ≤ r := Nat.le_trans hbw3.size hrw
          have hwr' : w0.heap.size ≤ r := Nat.le_trans hbw3'.size hrw
          clear hb4 HN hbw3 hbw3'
          go_wp2_with (fail)
          go_loopw [12, 49] (fun _ i wr => ∃ j : Nat, j ≤ M.length ∧ i = .int .i64 j ∧ Below w.heap.size w wr ∧ Below w0.heap.size w0 wr ∧ Rdr wr w3.heap.size r (enc (M.drop j)) 0) (fun _ i _ => M.length - (intOf i).toNat)
          case atStart => exact ⟨0, Nat.zero_le _, rfl, hbw4, hbw4', hr⟩
          case round =>
            obtain ⟨j, hj, rfl, hb, hb', hr1⟩ := hrel
            by_cases hlt2 : j < M.length
            · obtain ⟨ad, rfl, ha, hcell⟩ := hnv (by omega)
              obtain ⟨hx, hx2⟩ := hcell j M[j] (List.getElem?_eq_getElem hlt2)
              have hx' := (hb'.cell (p := ad.add j) (by rw [block_add]; omega)).trans hx
              have hC := rnum_any _ r _ 0 _ hr1
              rw [enc_drop M j hlt2, num_be8 _ _ hx2] at hC
              have HC := Lib.hid hC
              clear hcell hx hC hr hr1 hbw4 hbw4'
              go_wp2_with (fail)
              refine HC.out.mono ?_
              rintro e w5 ⟨rfl, hr5, hg5⟩
              have hb5 := below_only hb hg5 hb.size hwr
              have hb5' := below_only hb' hg5 hb'.size hwr'
              clear HC hg5 hb hb'
              go_wp2
              go_roundw
              case rel => exact ⟨j + 1, by omega, by go_num, hb5, hb5', hr5⟩
              case measure => simp [intOf]; omega
            · obtain rfl : j = M.length := by omega
              rw [List.drop_length] at hr1
              have h8 : (((enc M).length : Int) == 8 * (M.length : Int)) = true := by
                rw [enc_len, beq_iff_eq]
                omega
              have hD := done_any _ r _ 0 _ hr1
              have hC := rnum_any _ r _ 0 _ hr1
              rw [show enc [] = [] from rfl, show num [] 0 = (0, [], 10) from rfl] at hC
              rw [show enc [] = [] from rfl, show don [] 0 = 0 from rfl] at hD
              have HC := Lib.hid hC
              have HD := Lib.hid hD
              clear hC hD hr hr1 hbw4 hbw4'
              go_wp2_with (fail)
              refine HD.out.mono ?_
              rintro e w5 ⟨rfl, rfl⟩
              go_wp2_with (fail)
              refine HC.out.mono ?_
              rintro e w6 ⟨rfl, hr6, hg6⟩
              have hb6 := below_only hb hg6 hb.size hwr
              have hD2 := done_any _ r _ _ _ hr6
              rw [show don [] 10 = 10 from rfl] at hD2
              have HD2 := Lib.hid hD2
              clear hD2 hr6 hg6 hb hb'
              go_wp2_with (fail)
              refine HD2.out.mono ?_
              rintro e w7 ⟨rfl, rfl⟩
              go_wp2
              go_ret
              exact ⟨rfl, hb6⟩

end Go.Proofs.Ytipakpcdaaoboaa
