/-
  THE CONTRACTS OF Number AND Bytes.
-/
import Derived.Test.YtipakpcdaaoboaaLay
import Derived.Test.YtipakpcdaaoboaaJoin
namespace Go.Proofs.Ytipakpcdaaoboaa
open Go.RowKit

theorem own_base {w : World} {base base' size n : Nat} {e : TypeId} {v : Value} {xs : List Value} (h : w.ownsRow base e size v n xs) (hb : base' ≤ base) : w.ownsRow base' e size v n xs := by
  obtain ⟨h1, h2⟩ := h
  refine ⟨h1, ?_⟩
  rcases h2 with h2 | ⟨g, cap, cur, hv, hg, r⟩
  · exact .inl h2
  · exact .inr ⟨g, cap, cur, hv, by omega, r⟩

/-- What a call that makes bytes ends in: the bytes l in new memory; nothing that was there has turned. -/
def Made (w : World) (l : List UInt8) (e : Ending) (w' : World) : Prop :=
  ∃ g, e = .returned (.slice (some ⟨g, 0, none⟩) l.length l.length) ∧ w'.ownsRow w.heap.size 5 1 (.slice (some ⟨g, 0, none⟩) l.length l.length) l.length (By l) ∧ Below w.heap.size w w'

theorem SL.blk {w : World} {g t lo hi : Nat} {l : List UInt8} (h : Blk w g t (By l).toArray) (h1 : lo ≤ g) (h2 : g < hi) (hm : l.length ≤ 9223372036854775807) : SL w lo hi (some ⟨g, 0, none⟩) l l.length :=
  ⟨Nat.le_refl _, hm, fun h => (by cases h), fun _ => ⟨_, rfl, h1, h2, fun j x hx => by
    have hadd : (⟨g, 0, none⟩ : Addr).add j = ⟨g, j, none⟩ := by unfold Addr.add; split <;> simp_all
    rw [hadd, h.cell]
    simp [By, hx]⟩⟩

/-- The parts in a new block of slices. -/
theorem parts_new {w : World} {hi : Nat} {ls : List (List UInt8)} {vs : List Value} (hhi : hi ≤ w.heap.size)
    (h : ∀ (i : Nat) l, ls[i]? = some l → ∃ A c, vs[i]? = some (.slice A l.length c) ∧ SL w 0 hi A l c) :
    Parts (w.alloc (.cells vs.toArray 24)) (w.heap.size + 1) (some ⟨w.heap.size, 0, none⟩) ls := fun _ => by
  refine ⟨_, rfl, by simp, fun i l hi' => ?_⟩
  obtain ⟨A, c, h1, h2⟩ := h i l hi'
  refine ⟨A, c, ?_, (h2.alloc _ hhi).more (Nat.le_refl _) (by omega)⟩
  have hadd : (⟨w.heap.size, 0, none⟩ : Addr).add i = ⟨w.heap.size, i, none⟩ := by unfold Addr.add; split <;> simp_all
  rw [hadd, (Blk.new w 24 vs.toArray).cell]
  simpa using h1

/-- Join of a new block of slices: what it makes, said of the world ahead of all this. -/
theorem join_made (w wz : World) (PA : Option Addr) (n hi : Nat) (ls : List (List UInt8)) (hn : ls.length = n) (h : Parts wz hi PA ls) (hhi : hi ≤ wz.heap.size) (hm : n ≤ 9223372036854775807) (ht : tot ls ≤ 281474976710656) (hb : Below w.heap.size w wz) :
    Calls Try.prog 13 #[.slice PA n n] wz (Made w ls.flatten) := by
  subst hn
  refine (join_any PA ls ls.length hi wz h hhi (Nat.le_refl _) hm ht).mono fun e w' ⟨he, ho, hb'⟩ => ?_
  exact ⟨wz.heap.size, he, own_base ho hb.size, hb.trans (hb'.mono hb.size)⟩

set_option maxHeartbeats 400000 in
theorem number_any (A : Option Addr) (l : List UInt8) (c v hi : Nat) (w : World) (h : SL w 0 hi A l c) (hhi : hi ≤ w.heap.size) (hv : v < 18446744073709551616) (hl : l.length + 8 ≤ 281474976710656) :
    Calls Try.prog 9 #[.slice A l.length c, .int .u64 v] w (Made w (l ++ be8 v)) := by
  go_enter Try.func9, Try.ntmps9
  go_wp2_with (fail)
  refine (lay_any v w hv).mono ?_
  rintro e w1 ⟨rfl, hb1⟩
  have h1 : Blk (w1.alloc (Obj.cells (row 0 v) 57)) w1.heap.size 57 (row 0 v) := Blk.new w1 57 (row 0 v)
  have hbz := below_setRow (hb1.alloc hb1.size (Obj.cells (row 0 v) 57)) hb1.size (By (be8 v)).toArray
  have hs1 : SL ((w1.alloc (Obj.cells (row 0 v) 57)).setRow w1.heap.size (By (be8 v)).toArray) 0 (w1.heap.size + 1) (some ⟨w1.heap.size, 0, none⟩) (be8 v) 8 := SL.blk (h1.row _) (Nat.zero_le _) (by omega) (by rw [be8_len]; omega)
  have hs2 := (h.below hbz hhi).more (Nat.le_refl 0) (show hi ≤ w1.heap.size + 1 by have := hb1.size; omega)
  have hp := parts_new (w := (w1.alloc (Obj.cells (row 0 v) 57)).setRow w1.heap.size (By (be8 v)).toArray) (hi := w1.heap.size + 1) (ls := [l, be8 v]) (vs := [.slice A l.length c, .slice (some ⟨w1.heap.size, 0, none⟩) 8 8]) (by simp) (by
    intro i x hx
    match i, hx with
    | 0, hx => injection hx with hx; subst hx; exact ⟨_, _, rfl, hs2⟩
    | 1, hx => injection hx with hx; subst hx; exact ⟨_, _, rfl, hs1⟩)
  have hbq := hbz.alloc hbz.size (Obj.cells #[.slice A l.length c, .slice (some ⟨w1.heap.size, 0, none⟩) 8 8] 24)
  simp only [World.size_alloc, size_setRow] at hp
  rw [row_zero] at h1 hp hbq
  have hJ := join_made w _ _ 2 _ [l, be8 v] rfl hp (by simp) (by omega) (by unfold tot; simp [be8_len]; omega) hbq
  have HJ := Lib.hid hJ
  clear hJ hp hbq hs1 hs2 hbz
  go_wp2_with (refine wpList_store_row rfl 57 _ _ rfl w1.heap.size rfl (By (be8 v)).toArray rfl 57 _ h1 (size57 _ rfl) rfl (By_one _) ?_)
  refine HJ.out.mono ?_
  rintro e w2 ⟨g, rfl, ho, hb2⟩
  go_wp2
  go_ret
  exact ⟨g, by simp [be8_len], by simpa [be8_len] using ho, hb2⟩

set_option maxHeartbeats 400000 in
theorem bytes_any (A X : Option Addr) (l x : List UInt8) (c d hi : Nat) (w : World) (h : SL w 0 hi A l c) (hx : SL w 0 hi X x d) (hhi : hi ≤ w.heap.size) (hl : l.length + 8 + x.length ≤ 281474976710656) :
    Calls Try.prog 11 #[.slice A l.length c, .slice X x.length d] w (Made w (l ++ be8 x.length ++ x)) := by
  have hxl : x.length < 18446744073709551616 := by omega
  go_enter Try.func11, Try.ntmps11
  go_wp2_with (fail)
  refine (lay_any x.length w hxl).mono ?_
  rintro e w1 ⟨rfl, hb1⟩
  have h1 : Blk (w1.alloc (Obj.cells (row 0 0) 57)) w1.heap.size 57 (row 0 0) := Blk.new w1 57 (row 0 0)
  have hbz := below_setRow (hb1.alloc hb1.size (Obj.cells (row 0 0) 57)) hb1.size (By (be8 x.length)).toArray
  have hs1 : SL ((w1.alloc (Obj.cells (row 0 0) 57)).setRow w1.heap.size (By (be8 x.length)).toArray) 0 (w1.heap.size + 1) (some ⟨w1.heap.size, 0, none⟩) (be8 x.length) 8 := SL.blk (h1.row _) (Nat.zero_le _) (by omega) (by rw [be8_len]; omega)
  have hs2 := (h.below hbz hhi).more (Nat.le_refl 0) (show hi ≤ w1.heap.size + 1 by have := hb1.size; omega)
  have hs3 := (hx.below hbz hhi).more (Nat.le_refl 0) (show hi ≤ w1.heap.size + 1 by have := hb1.size; omega)
  have hp := parts_new (w := (w1.alloc (Obj.cells (row 0 0) 57)).setRow w1.heap.size (By (be8 x.length)).toArray) (hi := w1.heap.size + 1) (ls := [l, be8 x.length, x]) (vs := [.slice A l.length c, .slice (some ⟨w1.heap.size, 0, none⟩) 8 8, .slice X x.length d]) (by simp) (by
    intro i y hy
    match i, hy with
    | 0, hy => injection hy with hy; subst hy; exact ⟨_, _, rfl, hs2⟩
    | 1, hy => injection hy with hy; subst hy; exact ⟨_, _, rfl, hs1⟩
    | 2, hy => injection hy with hy; subst hy; exact ⟨_, _, rfl, hs3⟩)
  have hbq := hbz.alloc hbz.size (Obj.cells #[.slice A l.length c, .slice (some ⟨w1.heap.size, 0, none⟩) 8 8, .slice X x.length d] 24)
  simp only [World.size_alloc, size_setRow] at hp
  rw [row_zero] at h1 hp hbq
  have hJ := join_made w _ _ 3 _ [l, be8 x.length, x] rfl hp (by simp) (by omega) (by unfold tot; simp [be8_len]; omega) hbq
  have HJ := Lib.hid hJ
  clear hJ hp hbq hs1 hs2 hs3 hbz
  go_wp2_with (refine wpList_store_row rfl 57 _ _ rfl w1.heap.size rfl (By (be8 x.length)).toArray rfl 57 _ h1 (size57 _ rfl) rfl (By_one _) ?_)
  refine HJ.out.mono ?_
  rintro e w2 ⟨g, rfl, ho, hb2⟩
  go_wp2
  go_ret
  exact ⟨g, by simp [be8_len], by simpa [be8_len, List.append_assoc] using ho, hb2⟩

end Go.Proofs.Ytipakpcdaaoboaa
