/-
  THE CONTRACTS OF THE READER'S OTHER METHODS.
-/
import Derived.Test.YtipakpcdaaoboaaRead
namespace Go.Proofs.Ytipakpcdaaoboaa
open Go.RowKit

/-- What a method that answers a number ends in. -/
def ValPost (w : World) (lo r : Nat) (v : Value) (l' : List UInt8) (f' : Nat) (e : Ending) (w' : World) : Prop :=
  e = .returned v ∧ Rdr w' lo r l' f' ∧ w.grownBy w' (some r)

set_option maxHeartbeats 400000 in
theorem rnum_any (lo r : Nat) (l : List UInt8) (f : Nat) (w : World) (h : Rdr w lo r l f) :
    Calls Try.prog 16 #[.pointer (some ⟨r, 0, none⟩)] w (ValPost w lo r (.int .u64 (num l f).1) (num l f).2.1 (num l f).2.2) := by
  have ht := take_any lo r l f 8 w h (by omega)
  have HT := Lib.hid ht
  clear ht
  go_enter Try.func16, Try.ntmps16
  go_wp2_with (fail)
  refine HT.out.mono ?_
  rintro e w1 ⟨A, c, rfl, hs, hr, hg⟩
  go_wp2_with (fail)
  refine (worth_any A _ c lo r w1 hs.2.2.2 hs.1 hs.2.1).mono ?_
  rintro e w2 ⟨rfl, rfl⟩
  go_wp2
  go_ret
  exact ⟨rfl, hr, hg⟩

set_option maxHeartbeats 400000 in
theorem most_any (lo r : Nat) (l : List UInt8) (f lim : Nat) (w : World) (h : Rdr w lo r l f) (hlim : lim ≤ 1048576) :
    Calls Try.prog 31 #[.pointer (some ⟨r, 0, none⟩), .int .u64 lim] w (ValPost w lo r (.int .i64 (most l f lim).1) (most l f lim).2.1 (most l f lim).2.2) := by
  have ht := rnum_any lo r l f w h
  have HT := Lib.hid ht
  clear ht
  by_cases hbig : lim < (num l f).1
  · have e : most l f lim = (0, (num l f).2.1, 12) := by unfold most; rw [if_pos hbig]
    go_enter Try.func31, Try.ntmps31
    go_wp2_with (fail)
    refine HT.out.mono ?_
    rintro e w1 ⟨rfl, ⟨A, c, hb, hs⟩, hg⟩
    have c1 := hb.cell 1
    have f1 := hb.free 1
    simp at c1
    go_wp2
    go_ret
    rw [e]
    exact ⟨rfl, ⟨A, c, by simpa using hb.set 1 (.int .i64 12), hs.setCell (.inr (Nat.le_refl _)) _⟩, only_set hg 1 _⟩
  · have e : most l f lim = num l f := by unfold most; rw [if_neg hbig]
    go_enter Try.func31, Try.ntmps31
    go_wp2_with (fail)
    refine HT.out.mono ?_
    rintro e w1 ⟨rfl, hr, hg⟩
    go_wp2
    go_ret
    rw [e]
    exact ⟨rfl, hr, hg⟩

/-- What Bytes ends in: new bytes, and the reader behind it. -/
def BytesPost (w : World) (lo r : Nat) (t : List UInt8 × List UInt8 × Nat) (e : Ending) (w' : World) : Prop :=
  ∃ g, e = .returned (.slice (some ⟨g, 0, none⟩) t.1.length t.1.length) ∧ SL w' w.heap.size w'.heap.size (some ⟨g, 0, none⟩) t.1 t.1.length ∧ Rdr w' lo r t.2.1 t.2.2 ∧ w.grownBy w' (some r)

set_option maxHeartbeats 400000 in
theorem rbytes_any (lo r : Nat) (l : List UInt8) (f : Nat) (w : World) (h : Rdr w lo r l f) :
    Calls Try.prog 17 #[.pointer (some ⟨r, 0, none⟩)] w (BytesPost w lo r (byts l f)) := by
  have ht := most_any lo r l f 1048576 w h (by omega)
  have HT := Lib.hid ht
  clear ht
  have hle := most_le l f 1048576
  go_enter Try.func17, Try.ntmps17
  go_wp2_with (fail)
  refine HT.out.mono ?_
  rintro e w1 ⟨rfl, hr1, hg1⟩
  have ht := take_any lo r (most l f 1048576).2.1 (most l f 1048576).2.2 (most l f 1048576).1 w1 hr1 (by omega)
  have HT2 := Lib.hid ht
  clear ht
  go_wp2_with (fail)
  refine HT2.out.mono ?_
  rintro e w2 ⟨A, c, rfl, hs, hr, hg⟩
  have hlt := hr.lt
  have hle2 := (tk_len (most l f 1048576).2.1 (most l f 1048576).2.2 (most l f 1048576).1).2.2
  have hp := parts_new (ls := [(byts l f).1]) (vs := [.slice A (byts l f).1.length c]) (w := w2) (hi := w2.heap.size) (Nat.le_refl _) (by
    intro i y hy
    match i, hy with
    | 0, hy => injection hy with hy; subst hy; exact ⟨_, _, rfl, hs.more (Nat.zero_le _) (by omega)⟩)
  have hbq := (Below.refl w2.heap.size w2).alloc (Nat.le_refl _) (Obj.cells #[.slice A (byts l f).1.length c] 24)
  have hJ := join_made w2 _ _ 1 _ [(byts l f).1] rfl hp (by simp) (by omega) (by unfold tot; simp; show (tk _ _ _).1.length ≤ _; omega) hbq
  have HJ := Lib.hid hJ
  clear hJ hp hbq
  go_wp2_with (fail)
  refine HJ.out.mono ?_
  rintro e w3 ⟨g, rfl, ho, hb2⟩
  go_wp2
  simp only [List.flatten_cons, List.flatten_nil, List.append_nil] at ho
  go_ret
  exact ⟨g, by simp, (SL.own ho).more (Nat.le_trans hg1.size hg.size) (Nat.le_refl _), hr.below hb2 hlt, only_below (only_trans hg1 hg) hb2⟩

set_option maxHeartbeats 400000 in
theorem count_any (lo r : Nat) (l : List UInt8) (f : Nat) (w : World) (h : Rdr w lo r l f) :
    Calls Try.prog 20 #[.pointer (some ⟨r, 0, none⟩)] w (ValPost w lo r (.int .i64 (most l f 65536).1) (most l f 65536).2.1 (most l f 65536).2.2) := by
  have ht := most_any lo r l f 65536 w h (by omega)
  have HT := Lib.hid ht
  clear ht
  go_enter Try.func20, Try.ntmps20
  go_wp2_with (fail)
  refine HT.out.mono ?_
  rintro e w1 ⟨rfl, hr1, hg1⟩
  go_wp2
  go_ret
  exact ⟨rfl, hr1, hg1⟩

theorem ret_i64 {a b : Int} (h : a = b) : Ending.returned (.int .i64 a) = .returned (.int .i64 b) := by rw [h]

set_option maxHeartbeats 400000 in
theorem done_any (lo r : Nat) (l : List UInt8) (f : Nat) (w : World) (h : Rdr w lo r l f) :
    Calls Try.prog 21 #[.pointer (some ⟨r, 0, none⟩)] w fun e w' => e = .returned (.int .i64 (don l f)) ∧ w = w' := by
  obtain ⟨A, c, hb, hs⟩ := h
  have c0 := hb.cell 0
  have c1 := hb.cell 1
  simp at c0 c1
  by_cases hf : f = 0
  · subst hf
    by_cases hl : l.length = 0
    · have e : don l 0 = 0 := by simp [don, hl]
      have hl' : ¬ 0 < l.length := by omega
      clear hl
      go_enter Try.func21, Try.ntmps21
      go_wp2
      go_ret
      exact ⟨ret_i64 (by rw [e]; rfl), rfl⟩
    · have e : don l 0 = 11 := by simp only [don, if_pos]; rw [if_neg hl]
      have hl' : 0 < l.length := by omega
      clear hl
      go_enter Try.func21, Try.ntmps21
      go_wp2
      go_ret
      exact ⟨ret_i64 (by rw [e]; rfl), rfl⟩
  · have e : don l f = f := by simp [don, hf]
    have hf' : ((f : Int) != 0) = true := by rw [bne_iff_ne]; omega
    go_enter Try.func21, Try.ntmps21
    go_wp2
    go_ret
    exact ⟨ret_i64 (by rw [e]), rfl⟩

end Go.Proofs.Ytipakpcdaaoboaa
