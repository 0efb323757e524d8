/-
  THE CONTRACT OF Join.
-/
import Derived.Test.YtipakpcdaaoboaaMem
namespace Go.Proofs.Ytipakpcdaaoboaa
open Go.RowKit

def tot (ls : List (List UInt8)) : Nat := ls.flatten.length

theorem tot_take (ls : List (List UInt8)) (k : Nat) (h : k < ls.length) : (ls.take (k + 1)).flatten = (ls.take k).flatten ++ ls[k] := by
  rw [List.take_succ_eq_append_getElem h, List.flatten_append, List.flatten_cons, List.flatten_nil, List.append_nil]
theorem tot_succ (ls : List (List UInt8)) (k : Nat) (h : k < ls.length) : tot (ls.take (k + 1)) = tot (ls.take k) + ls[k].length := by
  unfold tot
  rw [tot_take ls k h, List.length_append]
theorem tot_le (ls : List (List UInt8)) (k : Nat) (h : k < ls.length) : tot (ls.take k) + ls[k].length ≤ tot ls := by
  rw [← tot_succ ls k h]
  unfold tot
  conv => rhs; rw [← List.take_append_drop (k + 1) ls, List.flatten_append, List.length_append]
  omega

theorem info5 : (Try.prog.info? 5).map (fun i => (i.zero, i.size, i.bytes)) = some (some (.int .u8 0), 1, 1) := by kernel_rfl

set_option maxHeartbeats 400000 in
theorem join_any (PA : Option Addr) (ls : List (List UInt8)) (pc hi : Nat) (w : World) (h : Parts w hi PA ls) (hhi : hi ≤ w.heap.size) (hpc : ls.length ≤ pc) (hm : pc ≤ 9223372036854775807) (ht : tot ls ≤ 281474976710656) :
    Calls Try.prog 13 #[.slice PA ls.length pc] w fun e w' => e = .returned (.slice (some ⟨w.heap.size, 0, none⟩) (tot ls) (tot ls)) ∧
      w'.ownsRow w.heap.size 5 1 (.slice (some ⟨w.heap.size, 0, none⟩) (tot ls) (tot ls)) (tot ls) (By ls.flatten) ∧ Below w.heap.size w w' := by
  obtain ⟨i0, hi0, hz0, hz1, hz2⟩ := info_parts info5
  go_enter Try.func13, Try.ntmps13
  go_wp2
  go_loop [3, 5, 11] (fun s _ i => ∃ k : Nat, k ≤ ls.length ∧ i = .int .i64 k ∧ s = .int .i64 (tot (ls.take k))) (fun _ _ i => ls.length - (intOf i).toNat)
  case atStart => exact ⟨0, Nat.zero_le _, rfl, rfl⟩
  case round =>
    obtain ⟨k, hk, rfl, rfl⟩ := hrel
    by_cases hlt : k < ls.length
    · obtain ⟨ad, rfl, _, hcell⟩ := h (by omega)
      obtain ⟨A', c', hx, hsl⟩ := hcell k ls[k] (List.getElem?_eq_getElem hlt)
      have hle := tot_le ls k hlt
      have hl1 := hsl.1
      have hl2 := hsl.2.1
      clear hcell hsl
      go_wp2
      go_round
      case rel => exact ⟨k + 1, by omega, by go_num, by rw [tot_succ ls k hlt]; go_num⟩
      case measure => simp [intOf]; omega
    · obtain rfl : k = ls.length := by omega
      have H := Lib.hid ht
      rw [List.take_length]
      go_wp2_with (at_make; refine wpList_make_own _ rfl _ _ 24 rfl w.heap.size 5 i0 _ 1 Try.underlying24 hi0 hz0 hz1 .i64 .i64 _ (tot ls) rfl rfl rfl (by rw [hz2]; have := H.out; omega) (by have := H.out; unfold maxLen; omega) (Nat.le_refl _) ?_; intro w1 hown1 hg1)
      have hb1 : Below w.heap.size w w1 := (Below.refl _ _).grown hg1 (Nat.le_refl _) (by simp)
      clear hg1
      go_loopw [6, 8, 24] (fun v _ i wr => ∃ k : Nat, k ≤ ls.length ∧ i = .int .i64 k ∧ v = .slice (some ⟨w.heap.size, 0, none⟩) (tot (ls.take k)) (tot ls) ∧
        wr.ownsRow w.heap.size 5 1 (.slice (some ⟨w.heap.size, 0, none⟩) (tot (ls.take k)) (tot ls)) (tot (ls.take k)) (By (ls.take k).flatten) ∧ Below w.heap.size w wr) (fun _ _ i _ => ls.length - (intOf i).toNat)
      case atStart => exact ⟨0, Nat.zero_le _, rfl, rfl, hown1, hb1⟩
      case round =>
        obtain ⟨k, hk, rfl, rfl, hown, hb⟩ := hrel
        by_cases hlt : k < ls.length
        · obtain ⟨ad, rfl, _, hcell⟩ := h.below hb hhi (by omega)
          obtain ⟨A', c', hx, hsl⟩ := hcell k ls[k] (List.getElem?_eq_getElem hlt)
          have hle := tot_le ls k hlt
          have hn := hsl.none_
          have hcs := hsl.cells
          have HN := Lib.hid hn
          have HC := Lib.hid hcs
          have HL := Lib.hid hown
          clear hcell hsl hn hcs hown
          go_wp2_with (at_builtin; refine wpList_append_fits_any _ rfl (.tmp 28) (.tmp 29) 24 rfl w.heap.size 5 i0 1 Try.underlying24 hi0 hz1 w.heap.size (tot (ls.take k)) (tot ls) _ rfl HL.out A' ls[k].length c' (By ls[k]) rfl (by rw [By_len, Nat.mul_one]) HN.out HC.out (By_one _) hle ?_; intro w2 hown2 hg2)
          go_roundw
          case rel =>
            rw [← By_app, ← tot_take ls k hlt, ← tot_succ ls k hlt] at hown2
            exact ⟨k + 1, by omega, by go_num, by rw [tot_succ ls k hlt], hown2, hb.grown hg2 hb.size (by intro x hx; injection hx with hx; omega)⟩
          case measure => simp [intOf]; omega
        · obtain rfl : k = ls.length := by omega
          rw [List.take_length] at hown ⊢
          go_wp2
          go_ret
          exact ⟨rfl, hown, hb⟩

end Go.Proofs.Ytipakpcdaaoboaa
