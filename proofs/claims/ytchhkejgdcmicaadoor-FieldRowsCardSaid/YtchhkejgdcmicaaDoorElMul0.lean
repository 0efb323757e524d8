/-
  THE FIELD'S NUMBERS: Mul's sums.
-/
import Derived.Test.YtchhkejgdcmicaaDoorElOps
namespace Go.Proofs.YtchhkejgdcmicaaDoor
open Go.RowKit Go.IntWalk Nums

/-- A number of two words, the greater first. -/
def W2 (s : Nat) : Array Value := (Us [s / 18446744073709551616, s % 18446744073709551616]).toArray
theorem W2_size (s : Nat) : (W2 s).size = 2 := rfl
theorem W2_one (s : Nat) : ∀ u ∈ (W2 s).toList, u.oneCell' = true := Us_one _

theorem plus_f (s a b : Nat) (ha : a < 18446744073709551616) (hb : b < 18446744073709551616) (hs : s + a * b < 340282366920938463463374607431768211456) (w : World) :
    Calls Tryd.prog 34 #[.agg (W2 s), .int .u64 a, .int .u64 b] w fun e w' => e = .returned (.agg (W2 (s + a * b))) ∧ Below w.heap.size w w' := by
  refine (plus_any (s / 18446744073709551616) (s % 18446744073709551616) a b (by omega) (by omega) ha hb w).mono ?_
  rintro e w' ⟨rfl, hw⟩
  refine ⟨?_, hw⟩
  unfold W2
  generalize a * b = m at *
  have e1 : (s / 18446744073709551616 + m / 18446744073709551616 + (s % 18446744073709551616 + m % 18446744073709551616) / 18446744073709551616) % 18446744073709551616 = (s + m) / 18446744073709551616 := by omega
  have e2 : (s % 18446744073709551616 + m % 18446744073709551616) % 18446744073709551616 = (s + m) % 18446744073709551616 := by omega
  rw [e1, e2]
theorem low_f (s : Nat) (w : World) :
    Calls Tryd.prog 35 #[.agg (W2 s)] w fun e w' => e = .returned (.int .u64 ((s % 2251799813685248 : Nat) : Int)) ∧ Below w.heap.size w w' := by
  refine (low_any (s / 18446744073709551616) (s % 18446744073709551616) (by omega) w).mono ?_
  rintro e w' ⟨rfl, hw⟩
  refine ⟨?_, hw⟩
  have e1 : s % 18446744073709551616 % 2251799813685248 = s % 2251799813685248 := by omega
  rw [e1]
theorem high_f (s : Nat) (hs : s < 41538374868278621028243970633760768) (w : World) :
    Calls Tryd.prog 36 #[.agg (W2 s)] w fun e w' => e = .returned (.int .u64 ((s / 2251799813685248 : Nat) : Int)) ∧ Below w.heap.size w w' := by
  refine (high_any (s / 18446744073709551616) (s % 18446744073709551616) (by omega) (by omega) w).mono ?_
  rintro e w' ⟨rfl, hw⟩
  refine ⟨?_, hw⟩
  have e1 : s / 18446744073709551616 * 8192 + s % 18446744073709551616 / 2251799813685248 = s / 2251799813685248 := by omega
  rw [e1]

theorem lv_take : ∀ (l : List Nat) {k : Nat}, k < l.length → lv (l.take (k + 1)) = lv (l.take k) + 2251799813685248 ^ k * l[k]!
  | d :: ds, 0, _ => by simp [lv]
  | d :: ds, k + 1, h => by
    have ih := lv_take ds (k := k) (by simpa using h)
    show d + 2251799813685248 * lv (ds.take (k + 1)) = d + 2251799813685248 * lv (ds.take k) + 2251799813685248 ^ (k + 1) * ds[k]!
    rw [ih, Nat.pow_succ]
    grind only

/-- The products' way: k limbs of a are done. -/
structure MM (a : List Nat) (y : F) (k c0 c1 c2 c3 c4 s0 s1 s2 s3 s4 : Nat) : Prop where
  cv : fof (lv [c0, c1, c2, c3, c4]) = fof (2251799813685248 ^ k) * y
  sv : fof (lv [s0, s1, s2, s3, s4]) = fof (lv (a.take k)) * y
  c0b : c0 < 42784196465000448
  c1b : c1 < 42784196465000448
  c2b : c2 < 42784196465000448
  c3b : c3 < 42784196465000448
  c4b : c4 < 42784196465000448
  c0u : k ≤ 0 → c0 < 2251799813947392
  c1u : k ≤ 1 → c1 < 2251799813947392
  c2u : k ≤ 2 → c2 < 2251799813947392
  c3u : k ≤ 3 → c3 < 2251799813947392
  c4u : k ≤ 4 → c4 < 2251799813947392
  s0b : s0 ≤ k * 96341445640026967064998646153216
  s1b : s1 ≤ k * 96341445640026967064998646153216
  s2b : s2 ≤ k * 96341445640026967064998646153216
  s3b : s3 ≤ k * 96341445640026967064998646153216
  s4b : s4 ≤ k * 96341445640026967064998646153216

theorem prod_le {v c : Nat} (hv : v < 2251799813947392) (hc : c < 42784196465000448) : v * c ≤ 96341445640026967064998646153216 :=
  Nat.le_trans (Nat.mul_le_mul (Nat.le_of_lt hv) (Nat.le_of_lt hc)) (by decide)

theorem MM.next {a : List Nat} {x y : F} {k c0 c1 c2 c3 c4 s0 s1 s2 s3 s4 : Nat} (h : MM a y k c0 c1 c2 c3 c4 s0 s1 s2 s3 s4) (ha : EB a x) (hk : k < 5) :
    MM a y (k + 1) (19 * c4) c0 c1 c2 c3 (s0 + a[k]! * c0) (s1 + a[k]! * c1) (s2 + a[k]! * c2) (s3 + a[k]! * c3) (s4 + a[k]! * c4) := by
  obtain ⟨cv, sv, g0, g1, g2, g3, g4, u0, u1, u2, u3, u4, t0, t1, t2, t3, t4⟩ := h
  have hv := eb_get ha hk
  have p0 := prod_le hv g0
  have p1 := prod_le hv g1
  have p2 := prod_le hv g2
  have p3 := prod_le hv g3
  have p4 := prod_le hv g4
  have hm : (k + 1) * 96341445640026967064998646153216 = k * 96341445640026967064998646153216 + 96341445640026967064998646153216 := by omega
  have := u4 (by omega)
  refine ⟨?_, ?_, by omega, g0, g1, g2, g3, by omega, by omega, by omega, by omega, by omega, by omega, by omega, by omega, by omega, by omega⟩
  · rw [turn_lv, cv, Nat.pow_succ, fof_mul]
    generalize fof (2251799813685248 ^ k) = u
    generalize fof 2251799813685248 = v
    grind only
  · rw [more_lv, fof_add, sv, fof_mul, cv, lv_take a (by rw [ha.len]; exact hk), fof_add, fof_mul]
    generalize fof (lv (a.take k)) = u
    generalize fof (2251799813685248 ^ k) = v
    generalize fof (a[k]!) = z
    grind only

theorem MM.start {a : List Nat} {b0 b1 b2 b3 b4 : Nat} {y : F} (h0 : b0 < 2251799813947392) (h1 : b1 < 2251799813947392) (h2 : b2 < 2251799813947392) (h3 : b3 < 2251799813947392) (h4 : b4 < 2251799813947392) (hb : fof (lv [b0, b1, b2, b3, b4]) = y) :
    MM a y 0 b0 b1 b2 b3 b4 0 0 0 0 0 := by
  refine ⟨?_, ?_, by omega, by omega, by omega, by omega, by omega, fun _ => h0, fun _ => h1, fun _ => h2, fun _ => h3, fun _ => h4, by omega, by omega, by omega, by omega, by omega⟩
  · rw [hb, Nat.pow_zero, fof_one]
    grind only
  · have e1 : fof (lv [0, 0, 0, 0, 0]) = 0 := fof_zero
    have e2 : fof (lv (a.take 0)) = 0 := fof_zero
    rw [e1, e2]
    grind only

/-- The end: the carries of the sums are the product. -/
theorem MM.fin {a : List Nat} {x y : F} {c0 c1 c2 c3 c4 s0 s1 s2 s3 s4 : Nat} (h : MM a y 5 c0 c1 c2 c3 c4 s0 s1 s2 s3 s4) (ha : EB a x) :
    fof (lv (crd s0 s1 s2 s3 s4)) = x * y ∧ s0 < 41538374868278621028243970633760768 ∧ s1 < 41538374868278621028243970633760768 ∧ s2 < 41538374868278621028243970633760768 ∧ s3 < 41538374868278621028243970633760768 ∧ s4 < 41538374868278621028243970633760768 ∧
      s0 / 2251799813685248 < 400000000000000000 ∧ s1 / 2251799813685248 < 400000000000000000 ∧ s2 / 2251799813685248 < 400000000000000000 ∧ s3 / 2251799813685248 < 400000000000000000 ∧ s4 / 2251799813685248 < 400000000000000000 := by
  have e : a.take 5 = a := List.take_of_length_le (by rw [ha.len]; omega)
  obtain ⟨cv, sv, g0, g1, g2, g3, g4, u0, u1, u2, u3, u4, t0, t1, t2, t3, t4⟩ := h
  rw [e, ha.val] at sv
  exact ⟨by rw [crd_lv, sv], by omega, by omega, by omega, by omega, by omega, by omega, by omega, by omega, by omega, by omega⟩

/-- What Mul's rows lie in. -/
structure MSt (w wr : World) (a : List Nat) (s0 s1 s2 s3 s4 : Nat) : Prop where
  ba : Blk wr w.heap.size 27 (Us a).toArray
  br : Blk wr (w.heap.size + 1 + 1) 27 z5
  k0 : Blk wr (w.heap.size + 1 + 1 + 1) 54 (W2 s0)
  k1 : Blk wr (w.heap.size + 1 + 1 + 1 + 1) 54 (W2 s1)
  k2 : Blk wr (w.heap.size + 1 + 1 + 1 + 1 + 1) 54 (W2 s2)
  k3 : Blk wr (w.heap.size + 1 + 1 + 1 + 1 + 1 + 1) 54 (W2 s3)
  k4 : Blk wr (w.heap.size + 1 + 1 + 1 + 1 + 1 + 1 + 1) 54 (W2 s4)
  be : Below w.heap.size w wr

section
variable {w wr w1 : World} {a : List Nat} {s0 s1 s2 s3 s4 : Nat}
theorem MSt.drew (h : MSt w wr a s0 s1 s2 s3 s4) : MSt w wr.drew a s0 s1 s2 s3 s4 := ⟨h.ba, h.br, h.k0, h.k1, h.k2, h.k3, h.k4, h.be.drew⟩
theorem MSt.step (h : MSt w wr a s0 s1 s2 s3 s4) (hw : Below wr.heap.size wr w1) : MSt w w1 a s0 s1 s2 s3 s4 :=
  ⟨h.ba.below hw h.ba.lt, h.br.below hw h.br.lt, h.k0.below hw h.k0.lt, h.k1.below hw h.k1.lt, h.k2.below hw h.k2.lt, h.k3.below hw h.k3.lt, h.k4.below hw h.k4.lt, h.be.trans (hw.mono h.be.size)⟩
theorem MSt.set0 (h : MSt w wr a s0 s1 s2 s3 s4) (s : Nat) : MSt w (wr.setRow (w.heap.size + 1 + 1 + 1) (W2 s)) a s s1 s2 s3 s4 :=
  ⟨h.ba.rowFar (by omega) _, h.br.rowFar (by omega) _, h.k0.row _, h.k1.rowFar (by omega) _, h.k2.rowFar (by omega) _, h.k3.rowFar (by omega) _, h.k4.rowFar (by omega) _, below_setRow h.be (by omega) _⟩
theorem MSt.set1 (h : MSt w wr a s0 s1 s2 s3 s4) (s : Nat) : MSt w (wr.setRow (w.heap.size + 1 + 1 + 1 + 1) (W2 s)) a s0 s s2 s3 s4 :=
  ⟨h.ba.rowFar (by omega) _, h.br.rowFar (by omega) _, h.k0.rowFar (by omega) _, h.k1.row _, h.k2.rowFar (by omega) _, h.k3.rowFar (by omega) _, h.k4.rowFar (by omega) _, below_setRow h.be (by omega) _⟩
theorem MSt.set2 (h : MSt w wr a s0 s1 s2 s3 s4) (s : Nat) : MSt w (wr.setRow (w.heap.size + 1 + 1 + 1 + 1 + 1) (W2 s)) a s0 s1 s s3 s4 :=
  ⟨h.ba.rowFar (by omega) _, h.br.rowFar (by omega) _, h.k0.rowFar (by omega) _, h.k1.rowFar (by omega) _, h.k2.row _, h.k3.rowFar (by omega) _, h.k4.rowFar (by omega) _, below_setRow h.be (by omega) _⟩
theorem MSt.set3 (h : MSt w wr a s0 s1 s2 s3 s4) (s : Nat) : MSt w (wr.setRow (w.heap.size + 1 + 1 + 1 + 1 + 1 + 1) (W2 s)) a s0 s1 s2 s s4 :=
  ⟨h.ba.rowFar (by omega) _, h.br.rowFar (by omega) _, h.k0.rowFar (by omega) _, h.k1.rowFar (by omega) _, h.k2.rowFar (by omega) _, h.k3.row _, h.k4.rowFar (by omega) _, below_setRow h.be (by omega) _⟩
theorem MSt.set4 (h : MSt w wr a s0 s1 s2 s3 s4) (s : Nat) : MSt w (wr.setRow (w.heap.size + 1 + 1 + 1 + 1 + 1 + 1 + 1) (W2 s)) a s0 s1 s2 s3 s :=
  ⟨h.ba.rowFar (by omega) _, h.br.rowFar (by omega) _, h.k0.rowFar (by omega) _, h.k1.rowFar (by omega) _, h.k2.rowFar (by omega) _, h.k3.rowFar (by omega) _, h.k4.row _, below_setRow h.be (by omega) _⟩
end

theorem mst_start (w : World) (a : List Nat) (o : Obj) :
    MSt w ((((((((w.alloc (.cells (Us a).toArray 27)).alloc o).alloc (.cells z5 27)).alloc (.cells (W2 0) 54)).alloc (.cells (W2 0) 54)).alloc (.cells (W2 0) 54)).alloc (.cells (W2 0) 54)).alloc (.cells (W2 0) 54)).drew a 0 0 0 0 0 where
  ba := (((((((Blk.new w _ _).alloc _).alloc _).alloc _).alloc _).alloc _).alloc _).alloc _
  br := by
    have h := (((((Blk.new ((w.alloc (.cells (Us a).toArray 27)).alloc o) 27 z5).alloc (.cells (W2 0) 54)).alloc (.cells (W2 0) 54)).alloc (.cells (W2 0) 54)).alloc (.cells (W2 0) 54)).alloc (.cells (W2 0) 54)
    rw [World.size_alloc, World.size_alloc] at h
    exact h
  k0 := by
    have h := ((((Blk.new (((w.alloc (.cells (Us a).toArray 27)).alloc o).alloc (.cells z5 27)) 54 (W2 0)).alloc (.cells (W2 0) 54)).alloc (.cells (W2 0) 54)).alloc (.cells (W2 0) 54)).alloc (.cells (W2 0) 54)
    rw [World.size_alloc, World.size_alloc, World.size_alloc] at h
    exact h
  k1 := by
    have h := (((Blk.new ((((w.alloc (.cells (Us a).toArray 27)).alloc o).alloc (.cells z5 27)).alloc (.cells (W2 0) 54)) 54 (W2 0)).alloc (.cells (W2 0) 54)).alloc (.cells (W2 0) 54)).alloc (.cells (W2 0) 54)
    rw [World.size_alloc, World.size_alloc, World.size_alloc, World.size_alloc] at h
    exact h
  k2 := by
    have h := ((Blk.new (((((w.alloc (.cells (Us a).toArray 27)).alloc o).alloc (.cells z5 27)).alloc (.cells (W2 0) 54)).alloc (.cells (W2 0) 54)) 54 (W2 0)).alloc (.cells (W2 0) 54)).alloc (.cells (W2 0) 54)
    rw [World.size_alloc, World.size_alloc, World.size_alloc, World.size_alloc, World.size_alloc] at h
    exact h
  k3 := by
    have h := (Blk.new ((((((w.alloc (.cells (Us a).toArray 27)).alloc o).alloc (.cells z5 27)).alloc (.cells (W2 0) 54)).alloc (.cells (W2 0) 54)).alloc (.cells (W2 0) 54)) 54 (W2 0)).alloc (.cells (W2 0) 54)
    rw [World.size_alloc, World.size_alloc, World.size_alloc, World.size_alloc, World.size_alloc, World.size_alloc] at h
    exact h
  k4 := by
    have h := Blk.new (((((((w.alloc (.cells (Us a).toArray 27)).alloc o).alloc (.cells z5 27)).alloc (.cells (W2 0) 54)).alloc (.cells (W2 0) 54)).alloc (.cells (W2 0) 54)).alloc (.cells (W2 0) 54)) 54 (W2 0)
    rw [World.size_alloc, World.size_alloc, World.size_alloc, World.size_alloc, World.size_alloc, World.size_alloc, World.size_alloc] at h
    exact h
  be := (((((((((Below.refl _ _).alloc (Nat.le_refl _) _).alloc (by simp) _).alloc (by simp; omega) _).alloc (by simp; omega) _).alloc (by simp; omega) _).alloc (by simp; omega) _).alloc (by simp; omega) _).alloc (by simp; omega) _).drew
end Go.Proofs.YtchhkejgdcmicaaDoor
