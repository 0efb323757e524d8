/-
  THE WALK OF WireOne.
-/
import Derived.Test.YtipakpcdaaoboaaFirst
import Derived.Deep.QuietTactic
import Derived.BigQuiet
namespace Go.Proofs.Ytipakpcdaaoboaa
open Go.RowKit

/-- Lists of bytes, one behind the other. -/
def encs (L : List (List UInt8)) : List UInt8 := (L.map fun l => be8 l.length ++ l).flatten
theorem encs_succ (L : List (List UInt8)) (k : Nat) (h : k < L.length) : encs (L.take (k + 1)) = encs (L.take k) ++ be8 L[k].length ++ L[k] := by
  rw [List.take_succ_eq_append_getElem h]
  simp only [encs, List.map_append, List.map_cons, List.map_nil, List.flatten_append, List.flatten_cons, List.flatten_nil, List.append_nil, List.append_assoc]
theorem encs_le (L : List (List UInt8)) (k : Nat) (h : k < L.length) : (encs (L.take k)).length + 8 + L[k].length ≤ (encs L).length := by
  have e := encs_succ L k h
  have h1 : (encs (L.take (k + 1))).length = (encs (L.take k)).length + 8 + L[k].length := by
    rw [e, List.length_append, List.length_append, be8_len]
  rw [← h1]
  conv => rhs; rw [← List.take_append_drop (k + 1) L]
  simp only [encs, List.map_append, List.flatten_append, List.length_append]
  omega

/-- One form alone. -/
theorem encs_inj : ∀ (a b : List (List UInt8)), (∀ l ∈ a, l.length < 18446744073709551616) → (∀ l ∈ b, l.length < 18446744073709551616) → encs a = encs b → a = b
  | [], [], _, _, _ => rfl
  | [], y :: b, _, _, h => by
    have := congrArg List.length h
    simp [encs, be8_len] at this
    omega
  | x :: a, [], _, _, h => by
    have := congrArg List.length h
    simp [encs, be8_len] at this
  | x :: a, y :: b, ha, hb, h => by
    have h' : be8 x.length ++ (x ++ encs a) = be8 y.length ++ (y ++ encs b) := by simpa [encs] using h
    obtain ⟨h1, h2⟩ := List.append_inj h' rfl
    have hl : x.length = y.length := be8_inj (ha x (by simp)) (hb y (by simp)) h1
    obtain ⟨rfl, h4⟩ := List.append_inj h2 hl
    rw [encs_inj a b (fun l hl => ha l (by simp [hl])) (fun l hl => hb l (by simp [hl])) h4]


theorem encs_mem {L : List (List UInt8)} {l : List UInt8} (h : l ∈ L) : l.length ≤ (encs L).length := by
  obtain ⟨k, hk, rfl⟩ := List.getElem_of_mem h
  have := encs_le L k hk
  omega

/-- What 'same' is behind k rounds. -/
def sm (a b : List (List UInt8)) : Nat → Bool
  | 0 => ((a.length : Int) == (b.length : Int))
  | k + 1 => sm a b k && decide (a[k]? = b[k]?)

theorem sm_len {a b : List (List UInt8)} : ∀ {k : Nat}, sm a b k = true → a.length = b.length
  | 0, h => by
    have := beq_iff_eq.1 h
    omega
  | k + 1, h => by
    simp only [sm, Bool.and_eq_true] at h
    exact sm_len h.1

theorem sm_all {a b : List (List UInt8)} : ∀ {k : Nat}, sm a b k = true ↔ a.length = b.length ∧ ∀ i, i < k → a[i]? = b[i]?
  | 0 => by
    simp only [sm, beq_iff_eq]
    constructor
    · intro h
      exact ⟨by omega, fun i hi => by omega⟩
    · intro h
      omega
  | k + 1 => by
    simp only [sm, Bool.and_eq_true, decide_eq_true_eq, sm_all (k := k)]
    constructor
    · rintro ⟨⟨h1, h2⟩, h3⟩
      refine ⟨h1, fun i hi => ?_⟩
      by_cases e : i = k
      · rw [e]; exact h3
      · exact h2 i (by omega)
    · rintro ⟨h1, h2⟩
      exact ⟨⟨h1, fun i hi => h2 i (by omega)⟩, h2 k (by omega)⟩

theorem sm_end (a b : List (List UInt8)) : sm a b a.length = true ↔ a = b := by
  rw [sm_all]
  constructor
  · rintro ⟨h1, h2⟩
    apply List.ext_getElem? 
    intro i
    by_cases hi : i < a.length
    · exact h2 i hi
    · rw [List.getElem?_eq_none (by omega), List.getElem?_eq_none (by omega)]
  · rintro rfl
    exact ⟨rfl, fun _ _ => rfl⟩

set_option maxHeartbeats 1000000 in
theorem one_walk (A B : Option Addr) (a b : List (List UInt8)) (ca cb hi : Nat) (w : World) (ha : Parts w hi A a) (hb : Parts w hi B b) (hhi : hi ≤ w.heap.size) (hca : a.length ≤ ca) (hcb : b.length ≤ cb) (hma : ca ≤ 9223372036854775807) (hmb : cb ≤ 9223372036854775807)
    (hta : (encs a).length ≤ 281474976710656) (htb : (encs b).length ≤ 281474976710656) :
    Calls Try.prog 5 #[.slice A a.length ca, .slice B b.length cb] w fun e w' => e = .returned (.bool true) ∧ Below w.heap.size w w' := by
  go_enter Try.func5, Try.ntmps5
  go_wp2_with (fail)
  refine (first_any w).mono ?_
  rintro e w0 ⟨rfl, hb0⟩
  go_wp2_with (fail)
  have hz0 := hb0.size
  go_loopw [5, 7, 8, 19] (fun x s _ i wr => ∃ k : Nat, k ≤ a.length ∧ i = .int .i64 k ∧ s = .bool (sm a b k) ∧ Below w.heap.size w wr ∧ ∃ X d, x = .slice X (encs (a.take k)).length d ∧ SL wr 0 wr.heap.size X (encs (a.take k)) d) (fun _ _ _ i _ => a.length - (intOf i).toNat)
  case atStart => exact ⟨0, Nat.zero_le _, rfl, rfl, hb0, none, 0, rfl, SL.nil _ _ _⟩
  case round =>
    obtain ⟨k, hk, rfl, rfl, hbw, X, d, rfl, hs⟩ := hrel
    by_cases hlt : k < a.length
    · obtain ⟨ad, rfl, had, hcell⟩ := ha (by omega)
      obtain ⟨A', c', hx, hsl⟩ := hcell k a[k] (List.getElem?_eq_getElem hlt)
      have hx' := (hbw.cell (p := ad.add k) (by rw [block_add]; omega)).trans hx
      have hsl' := hsl.below hbw hhi
      have hle := encs_le a k hlt
      have hN := bytes_any X A' _ _ d c' wr.heap.size wr hs (hsl'.more (Nat.le_refl _) (by have := hbw.size; omega)) (Nat.le_refl _) (by omega)
      rw [← encs_succ a k hlt] at hN
      have HN := Lib.hid hN
      clear hcell hN hsl'
      go_wp2_with (fail)
      refine HN.out.mono ?_
      rintro e w1 ⟨g, rfl, ho, hb1⟩
      have hbw1 := hbw.trans (hb1.mono hbw.size)
      have hs1 := (SL.own ho).more (Nat.zero_le _) (Nat.le_refl _)
      have hx1 := (hbw1.cell (p := ad.add k) (by rw [block_add]; omega)).trans hx
      have hcv := fun n => conv_any (SL.drewN (hsl.below hbw1 hhi) n)
      cases hsm : sm a b k with
      | false =>
        have e1 : sm a b (k + 1) = false := by simp [sm, hsm]
        clear hsm hcv ho hb1 hx hx' HN
        go_wp2_with (fail)
        go_quiet (fail)
        go_wp2
        go_roundw
        case rel => exact ⟨k + 1, by omega, by go_num, by rw [e1], below_drewN hbw1 nq, _, _, rfl, hs1.drewN nq⟩
        case measure => simp [intOf]; omega
      | true =>
        have hlb : k < b.length := by have := sm_len hsm; omega
        obtain ⟨bd, rfl, hbd, hcellb⟩ := hb (by omega)
        obtain ⟨B', cb', hy, hslb⟩ := hcellb k b[k] (List.getElem?_eq_getElem hlb)
        have hy1 := (hbw1.cell (p := bd.add k) (by rw [block_add]; omega)).trans hy
        have hcv2 := fun n => conv_any (SL.drewN (hslb.below hbw1 hhi) n)
        clear hcellb hy ho hb1 hx hx' HN
        go_wp2_with (fail)
        have e2 : sm a b (k + 1) = decide (a[k] = b[k]) := by
          simp only [sm, hsm, Bool.true_and, List.getElem?_eq_getElem hlt, List.getElem?_eq_getElem hlb]
          simp
        have E2 := Lib.hid e2
        clear e2
        go_quiet (fail)
        go_wp2
        go_roundw
        case rel => exact ⟨k + 1, by omega, by go_num, by rw [str_beq, E2.out], below_drewN hbw1 nq, _, _, rfl, hs1.drewN nq⟩
        case measure => simp [intOf]; omega
    · obtain rfl : k = a.length := by omega
      rw [List.take_length] at hs ⊢
      go_wp2_with (fail)
      obtain ⟨wl, rfl⟩ : ∃ wl : World, wl = wr := ⟨_, rfl⟩
      go_loopw [6, 9, 51] (fun y _ i wr => ∃ k : Nat, k ≤ b.length ∧ i = .int .i64 k ∧ Below w.heap.size w wr ∧ Below wl.heap.size wl wr ∧ ∃ Y q, y = .slice Y (encs (b.take k)).length q ∧ SL wr 0 wr.heap.size Y (encs (b.take k)) q) (fun _ _ i _ => b.length - (intOf i).toNat)
      case atStart => exact ⟨0, Nat.zero_le _, rfl, hbw, Below.refl _ _, none, 0, rfl, SL.nil _ _ _⟩
      case round =>
        obtain ⟨j, hj, rfl, hbj, hbl, Y, q, rfl, hsy⟩ := hrel
        by_cases hlt2 : j < b.length
        · obtain ⟨bd, rfl, hbd, hcell⟩ := hb (by omega)
          obtain ⟨B', cb', hx, hsl⟩ := hcell j b[j] (List.getElem?_eq_getElem hlt2)
          have hx' := (hbj.cell (p := bd.add j) (by rw [block_add]; omega)).trans hx
          have hle := encs_le b j hlt2
          have hN := bytes_any Y B' _ _ q cb' wr.heap.size wr hsy ((hsl.below hbj hhi).more (Nat.le_refl _) (by have := hbj.size; omega)) (Nat.le_refl _) (by omega)
          rw [← encs_succ b j hlt2] at hN
          have HN := Lib.hid hN
          clear hcell hN hx hsl
          go_wp2_with (fail)
          refine HN.out.mono ?_
          rintro e w1 ⟨g, rfl, ho, hb1⟩
          have hbw1 := hbj.trans (hb1.mono hbj.size)
          have hbl1 := hbl.trans (hb1.mono hbl.size)
          have hs1 := (SL.own ho).more (Nat.zero_le _) (Nat.le_refl _)
          clear ho hb1 HN hx'
          go_wp2
          go_roundw
          case rel => exact ⟨j + 1, by omega, by go_num, hbw1, hbl1, _, _, rfl, hs1⟩
          case measure => simp [intOf]; omega
        · obtain rfl : j = b.length := by omega
          rw [List.take_length] at hsy ⊢
          have hcx := conv_any (hs.below hbl (Nat.le_refl _))
          have hcy := conv_any hsy
          by_cases hab : a = b
          · have he : ((str (encs a)).toList == (str (encs b)).toList) = true := by rw [str_beq, hab]; simp
            have hsm : sm a b a.length = true := (sm_end a b).2 hab
            clear hab
            go_wp2
            go_ret
            exact ⟨rfl, hbj⟩
          · have he : ((str (encs a)).toList == (str (encs b)).toList) = false := by
              rw [str_beq]
              simp only [decide_eq_false_iff_not]
              exact fun h => hab (encs_inj a b (fun l hl => by have := encs_mem hl; omega) (fun l hl => by have := encs_mem hl; omega) h)
            have hsm : sm a b a.length = false := by
              rw [Bool.eq_false_iff]
              exact fun h => hab ((sm_end a b).1 h)
            clear hab
            go_wp2
            go_ret
            exact ⟨rfl, hbj⟩

end Go.Proofs.Ytipakpcdaaoboaa
