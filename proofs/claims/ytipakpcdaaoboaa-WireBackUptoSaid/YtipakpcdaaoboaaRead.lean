/-
  THE CONTRACTS OF New AND take.
-/
import Derived.Test.YtipakpcdaaoboaaWrite
namespace Go.Proofs.Ytipakpcdaaoboaa
open Go.RowKit

theorem SL.own {w : World} {base g c : Nat} {l : List UInt8} (h : w.ownsRow base 5 1 (.slice (some ⟨g, 0, none⟩) l.length c) l.length (By l)) : SL w base w.heap.size (some ⟨g, 0, none⟩) l c := by
  have h' := h
  rcases h.2 with ⟨h0, _⟩ | ⟨g', cap, cur, hv, hg, hh, hn, hcap, _⟩
  · cases h0
  · injection hv with hA hn' hc
    subst hc
    exact ⟨hn, by unfold maxLen at hcap; omega, fun h => (by cases h), BV.own h'⟩

/-- What New ends in: a reader of the bytes l, in a new block. -/
def NewPost (w : World) (l : List UInt8) (e : Ending) (w' : World) : Prop :=
  ∃ r, e = .returned (.pointer (some ⟨r, 0, none⟩)) ∧ Rdr w' w.heap.size r l 0 ∧ w.heap.size ≤ r ∧ Below w.heap.size w w'

set_option maxHeartbeats 400000 in
theorem new_any (A : Option Addr) (l : List UInt8) (c hi : Nat) (w : World) (h : SL w 0 hi A l c) (hhi : hi ≤ w.heap.size) (hl : l.length ≤ 281474976710656) :
    Calls Try.prog 15 #[.slice A l.length c] w (NewPost w l) := by
  have hp := parts_new (ls := [l]) (vs := [.slice A l.length c]) hhi (by
    intro i y hy
    match i, hy with
    | 0, hy => injection hy with hy; subst hy; exact ⟨_, _, rfl, h⟩)
  have hbq := (Below.refl w.heap.size w).alloc (Nat.le_refl _) (Obj.cells #[.slice A l.length c] 24)
  have hJ := join_made w _ _ 1 _ [l] rfl hp (by simp) (by omega) (by unfold tot; simp; omega) hbq
  have HJ := Lib.hid hJ
  clear hJ hp hbq
  go_enter Try.func15, Try.ntmps15
  go_wp2_with (fail)
  refine HJ.out.mono ?_
  rintro e w2 ⟨g, rfl, ho, hb2⟩
  go_wp2
  simp only [List.flatten_cons, List.flatten_nil, List.append_nil] at ho
  go_ret
  exact ⟨w2.heap.size, rfl, ⟨_, _, Blk.new _ _ _, (SL.own ho).alloc _ (Nat.le_refl _)⟩, hb2.size, hb2.alloc hb2.size _⟩

/-- What take ends in: bytes out of the reader's own memory, and the reader behind it. -/
def TakePost (w : World) (lo r : Nat) (t : List UInt8 × List UInt8 × Nat) (e : Ending) (w' : World) : Prop :=
  ∃ A c, e = .returned (.slice A t.1.length c) ∧ SL w' lo r A t.1 c ∧ Rdr w' lo r t.2.1 t.2.2 ∧ w.grownBy w' (some r)

set_option maxHeartbeats 400000 in
theorem take_any (lo r : Nat) (l : List UInt8) (f k : Nat) (w : World) (h : Rdr w lo r l f) (hk : k ≤ 9223372036854775807) :
    Calls Try.prog 30 #[.pointer (some ⟨r, 0, none⟩), .int .i64 k] w (TakePost w lo r (tk l f k)) := by
  obtain ⟨A, c, hb, hs⟩ := h
  have c0 := hb.cell 0
  have c1 := hb.cell 1
  have f0 := hb.free 0
  have f1 := hb.free 1
  have l1 := hs.1
  have l2 := hs.2.1
  simp at c0 c1
  by_cases hf : f = 0
  · subst hf
    by_cases hlt : l.length < k
    · go_enter Try.func30, Try.ntmps30
      go_wp2
      go_ret
      rw [tk_short hlt]
      exact ⟨none, 0, rfl, SL.nil _ _ _, ⟨A, c, by simpa using hb.set 1 (.int .i64 10), hs.setCell (.inr (Nat.le_refl _)) _⟩, only_set (only_refl _ _) 1 _⟩
    · have htl : (l.take k).length = k := by rw [List.length_take]; omega
      have hdl : (l.drop k).length = l.length - k := List.length_drop
      have hcut := hs.cut (k := k) (by omega)
      by_cases hck : c = k
      · obtain rfl := hck
        rw [if_pos rfl] at hcut
        go_enter Try.func30, Try.ntmps30
        go_wp2
        go_ret
        rw [tk_ok (by omega)]
        exact ⟨A, c, by rw [htl]; rfl, (hs.take c).setCell (.inr (Nat.le_refl _)) _, ⟨A, c - c, by rw [hdl, show l.length - c = 0 by omega, Nat.sub_self]; simpa using hb.set 0 (.slice A 0 0), hcut.setCell (.inr (Nat.le_refl _)) _⟩, only_set (only_refl _ _) 0 _⟩
      · rw [if_neg hck] at hcut
        go_enter Try.func30, Try.ntmps30
        go_wp2
        go_ret
        rw [tk_ok (by omega)]
        exact ⟨A, c, by rw [htl]; rfl, (hs.take k).setCell (.inr (Nat.le_refl _)) _, ⟨_, c - k, by rw [hdl]; simpa using hb.set 0 (.slice (A.map (·.add k)) (l.length - k) (c - k)), hcut.setCell (.inr (Nat.le_refl _)) _⟩, only_set (only_refl _ _) 0 _⟩
  · have hf' : ((f : Int) != 0) = true := by rw [bne_iff_ne]; omega
    go_enter Try.func30, Try.ntmps30
    go_wp2
    go_ret
    rw [tk_fail hf]
    exact ⟨none, 0, rfl, SL.nil _ _ _, ⟨A, c, hb, hs⟩, only_refl _ _⟩

end Go.Proofs.Ytipakpcdaaoboaa
