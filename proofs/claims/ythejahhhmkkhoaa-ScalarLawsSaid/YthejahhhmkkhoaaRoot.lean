/-
PLAIN NUMBERS: the sums of the curve's points are a group; multiples. No program is imported.
PLAIN NUMBERS: multiples of the curve's points; the sum in coordinates over one z. No program is imported.
PLAIN NUMBERS: p = 2^255 - 19: which numbers are squares, and their roots; the curve's d. No program is imported.
-/
import Derived.Test.YthejahhhmkkhoaaCurve
namespace Nums
namespace Ed
variable {n : Nat} [NeZero n] {d : Fin n}

def kk (d : Fin n) (P Q : Pt n) : Fin n := d * P.x * Q.x * P.y * Q.y

theorem plus_ne (g : Good n d) {P Q : Pt n} (hP : On d P) (hQ : On d Q) : 1 + kk d P Q ≠ 0 := fun h =>
  complete g hP hQ (e := -1) (by grind only) (by unfold kk at h; grind only)

theorem minus_ne (g : Good n d) {P Q : Pt n} (hP : On d P) (hQ : On d Q) : 1 - kk d P Q ≠ 0 := fun h =>
  complete g hP hQ (e := 1) (by grind only) (by unfold kk at h; grind only)

/-- The sum. -/
def add (d : Fin n) (P Q : Pt n) : Pt n :=
  ⟨(P.x*Q.y + P.y*Q.x) * finv (1 + kk d P Q), (P.y*Q.y + P.x*Q.x) * finv (1 - kk d P Q)⟩

def zero : Pt n := ⟨0, 1⟩
def neg (P : Pt n) : Pt n := ⟨-P.x, P.y⟩

theorem on_zero : On d (zero : Pt n) := by
  show (1 : Fin n) * 1 - 0 * 0 = 1 + d * 0 * 0 * 1 * 1
  grind only

theorem on_neg {P : Pt n} (h : On d P) : On d (neg P) := by
  unfold On neg at *
  show P.y * P.y - -P.x * -P.x = 1 + d * -P.x * -P.x * P.y * P.y
  grind only

theorem add_x (g : Good n d) {P Q : Pt n} (hP : On d P) (hQ : On d Q) : (add d P Q).x * (1 + kk d P Q) = P.x*Q.y + P.y*Q.x := by
  have := mul_finv g.pr (plus_ne g hP hQ)
  show (P.x*Q.y + P.y*Q.x) * finv (1 + kk d P Q) * (1 + kk d P Q) = _
  generalize finv (1 + kk d P Q) = u at *
  generalize 1 + kk d P Q = v at *
  have a : (P.x*Q.y + P.y*Q.x) * u * v = (P.x*Q.y + P.y*Q.x) * (v * u) := by grind only
  rw [a, this]
  grind only

theorem add_y (g : Good n d) {P Q : Pt n} (hP : On d P) (hQ : On d Q) : (add d P Q).y * (1 - kk d P Q) = P.y*Q.y + P.x*Q.x := by
  have := mul_finv g.pr (minus_ne g hP hQ)
  show (P.y*Q.y + P.x*Q.x) * finv (1 - kk d P Q) * (1 - kk d P Q) = _
  generalize finv (1 - kk d P Q) = u at *
  generalize 1 - kk d P Q = v at *
  have a : (P.y*Q.y + P.x*Q.x) * u * v = (P.y*Q.y + P.x*Q.x) * (v * u) := by grind only
  rw [a, this]
  grind only

theorem on_add (g : Good n d) {P Q : Pt n} (hP : On d P) (hQ : On d Q) : On d (add d P Q) := by
  have hx := add_x g hP hQ
  have hy := add_y g hP hQ
  have h1 := plus_ne g hP hQ
  have h2 := minus_ne g hP hQ
  have c := closed P.x P.y Q.x Q.y d hP hQ
  have k1 : (1 : Fin n) + d*P.x*Q.x*P.y*Q.y = 1 + kk d P Q := rfl
  have k2 : (1 : Fin n) - d*P.x*Q.x*P.y*Q.y = 1 - kk d P Q := rfl
  rw [k1, k2] at c
  show (add d P Q).y * (add d P Q).y - (add d P Q).x * (add d P Q).x = 1 + d * (add d P Q).x * (add d P Q).x * (add d P Q).y * (add d P Q).y
  rw [← hx, ← hy] at c
  generalize (add d P Q).x = x at *
  generalize (add d P Q).y = y at *
  generalize 1 + kk d P Q = u at *
  generalize 1 - kk d P Q = v at *
  apply cancel g.pr (mul_ne g.pr (mul_ne g.pr h1 h1) (mul_ne g.pr h2 h2))
  clear hP hQ hx hy
  grind only

theorem add_comm (P Q : Pt n) : add d P Q = add d Q P := by
  unfold add kk
  have a : d * P.x * Q.x * P.y * Q.y = d * Q.x * P.x * Q.y * P.y := by grind only
  have b : P.x*Q.y + P.y*Q.x = Q.x*P.y + Q.y*P.x := by grind only
  have c : P.y*Q.y + P.x*Q.x = Q.y*P.y + Q.x*P.x := by grind only
  rw [a, b, c]

theorem zero_add (g : Good n d) (P : Pt n) : add d zero P = P := by
  unfold add kk zero
  have a : d * 0 * P.x * 1 * P.y = 0 := by grind only
  have f1 : finv (1 + 0 : Fin n) = 1 := finv_of g.pr (by grind only)
  have f2 : finv (1 - 0 : Fin n) = 1 := finv_of g.pr (by grind only)
  show Pt.mk ((0 * P.y + 1 * P.x) * finv (1 + d * 0 * P.x * 1 * P.y)) ((1 * P.y + 0 * P.x) * finv (1 - d * 0 * P.x * 1 * P.y)) = P
  rw [a, f1, f2]
  have b : (0 * P.y + 1 * P.x) * 1 = P.x := by grind only
  have c : (1 * P.y + 0 * P.x) * 1 = P.y := by grind only
  rw [b, c]

theorem add_zero (g : Good n d) (P : Pt n) : add d P zero = P := by rw [add_comm, zero_add g]

theorem add_neg (g : Good n d) {P : Pt n} (hP : On d P) : add d P (neg P) = zero := by
  have hm := minus_ne g hP (on_neg hP)
  have := mul_finv g.pr hm
  unfold add zero
  have a : (P.x * (neg P).y + P.y * (neg P).x) = 0 := by show P.x * P.y + P.y * -P.x = 0; grind only
  have b : P.y * (neg P).y + P.x * (neg P).x = 1 - kk d P (neg P) := by
    show P.y * P.y + P.x * -P.x = 1 - d * P.x * -P.x * P.y * P.y
    unfold On at hP
    grind only
  rw [a, b, this]
  have c : 0 * finv (1 + kk d P (neg P)) = 0 := by grind only
  rw [c]


theorem re_xl (sx sy rx ry px py tx ty a b e f d : Fin n) : (sx * a * b * ry + sy * b * a * rx) * (e * f + d * px * py * (tx * e) * (ty * f))
      = (a * b * e * f) * ((sx * ry + sy * rx) * (1 + d * px * tx * py * ty)) := by grind only
theorem re_xr (sx sy rx ry px py tx ty a b e f d : Fin n) : (px * (ty * f) * e + py * (tx * e) * f) * (a * b + d * (sx * a) * (sy * b) * rx * ry)
      = (a * b * e * f) * ((px * ty + py * tx) * (1 + d * sx * rx * sy * ry)) := by grind only
theorem re_yl (sx sy rx ry px py tx ty a b e f d : Fin n) : (sy * b * a * ry + sx * a * b * rx) * (e * f - d * px * py * (tx * e) * (ty * f))
      = (a * b * e * f) * ((sy * ry + sx * rx) * (1 - d * px * tx * py * ty)) := by grind only
theorem re_yr (sx sy rx ry px py tx ty a b e f d : Fin n) : (py * (ty * f) * e + px * (tx * e) * f) * (a * b - d * (sx * a) * (sy * b) * rx * ry)
      = (a * b * e * f) * ((py * ty + px * tx) * (1 - d * sx * rx * sy * ry)) := by grind only
theorem re_c (u z w v : Fin n) : u * (z * (w * v)) = z * (u * w * v) := by grind only
theorem re_d (t z w v : Fin n) : t * (z * (w * v)) = z * (t * v * w) := by grind only

set_option maxHeartbeats 4000000 in
theorem add_assoc (g : Good n d) {P Q R : Pt n} (hP : On d P) (hQ : On d Q) (hR : On d R) : add d (add d P Q) R = add d P (add d Q R) := by
  have hPQ := on_add g hP hQ
  have hQR := on_add g hQ hR
  have x1 := add_x g hP hQ
  have y1 := add_y g hP hQ
  have p1 := plus_ne g hP hQ
  have m1 := minus_ne g hP hQ
  have x2 := add_x g hQ hR
  have y2 := add_y g hQ hR
  have p2 := plus_ne g hQ hR
  have m2 := minus_ne g hQ hR
  have x3 := add_x g hPQ hR
  have y3 := add_y g hPQ hR
  have p3 := plus_ne g hPQ hR
  have m3 := minus_ne g hPQ hR
  have x4 := add_x g hP hQR
  have y4 := add_y g hP hQR
  have p4 := plus_ne g hP hQR
  have m4 := minus_ne g hP hQR
  have ax := assoc_x P.x P.y Q.x Q.y R.x R.y d hP hQ hR
  have ay := assoc_y P.x P.y Q.x Q.y R.x R.y d hP hQ hR
  clear hP hQ hR hPQ hQR
  have c1 : (1 : Fin n) + d*P.x*Q.x*P.y*Q.y = 1 + kk d P Q := rfl
  have c2 : (1 : Fin n) - d*P.x*Q.x*P.y*Q.y = 1 - kk d P Q := rfl
  have c3 : (1 : Fin n) + d*Q.x*R.x*Q.y*R.y = 1 + kk d Q R := rfl
  have c4 : (1 : Fin n) - d*Q.x*R.x*Q.y*R.y = 1 - kk d Q R := rfl
  rw [c1, c2, c3, c4, ← x1, ← y1, ← x2, ← y2] at ax ay
  have ex : (add d (add d P Q) R).x = (add d P (add d Q R)).x := by
    generalize add d (add d P Q) R = U at *
    generalize add d P (add d Q R) = V at *
    unfold kk at x3 p3 x4 p4
    generalize add d P Q = S at *
    generalize add d Q R = T at *
    generalize 1 + kk d P Q = a at *
    generalize 1 - kk d P Q = b at *
    generalize 1 + kk d Q R = e at *
    generalize 1 - kk d Q R = f at *
    -- ax: (S.x a b R.y + S.y b a R.x) (e f + d P.x P.y (T.x e)(T.y f)) = (P.x T.y f e + P.y T.x e f) (a b + d (S.x a)(S.y b) R.x R.y)
    rw [re_xl, re_xr, ← x3, ← x4] at ax
    have hne := mul_ne g.pr (mul_ne g.pr (mul_ne g.pr p1 m1) p2) m2
    apply cancel g.pr (mul_ne g.pr hne (mul_ne g.pr p3 p4))
    clear x1 y1 x2 y2 x3 y3 x4 y4 ay c1 c2 c3 c4 hne p1 p2 m1 m2 m3 m4
    generalize a * b * e * f = z at *
    generalize 1 + d * S.x * R.x * S.y * R.y = w at *
    generalize 1 + d * P.x * T.x * P.y * T.y = v at *
    generalize U.x = u at *
    generalize V.x = t at *
    clear g p3 p4
    rw [re_c, re_d, ax]
  have ey : (add d (add d P Q) R).y = (add d P (add d Q R)).y := by
    generalize add d (add d P Q) R = U at *
    generalize add d P (add d Q R) = V at *
    unfold kk at y3 m3 y4 m4
    generalize add d P Q = S at *
    generalize add d Q R = T at *
    generalize 1 + kk d P Q = a at *
    generalize 1 - kk d P Q = b at *
    generalize 1 + kk d Q R = e at *
    generalize 1 - kk d Q R = f at *
    rw [re_yl, re_yr, ← y3, ← y4] at ay
    have hne := mul_ne g.pr (mul_ne g.pr (mul_ne g.pr p1 m1) p2) m2
    apply cancel g.pr (mul_ne g.pr hne (mul_ne g.pr m3 m4))
    clear x1 y1 x2 y2 x3 y3 x4 y4 ax c1 c2 c3 c4 hne p1 p2 m1 m2 p3 p4
    generalize a * b * e * f = z at *
    generalize 1 - d * S.x * R.x * S.y * R.y = w at *
    generalize 1 - d * P.x * T.x * P.y * T.y = v at *
    generalize U.y = u at *
    generalize V.y = t at *
    clear g m3 m4
    rw [re_c, re_d, ay]
  have eta : ∀ A B : Pt n, A.x = B.x → A.y = B.y → A = B := by
    rintro ⟨_, _⟩ ⟨_, _⟩ h1 h2
    simp only at h1 h2
    rw [h1, h2]
  exact eta _ _ ex ey

end Ed
end Nums

namespace Nums
namespace Ed
variable {n : Nat} [NeZero n] {d : Fin n}

/-- So many of a point. -/
def mul (d : Fin n) : Nat → Pt n → Pt n
  | 0, _ => zero
  | k + 1, P => add d (mul d k P) P

theorem mul_0 (P : Pt n) : mul d 0 P = zero := rfl
theorem mul_succ (k : Nat) (P : Pt n) : mul d (k + 1) P = add d (mul d k P) P := rfl

theorem on_mul (g : Good n d) {P : Pt n} (hP : On d P) (k : Nat) : On d (mul d k P) := by
  induction k with
  | zero => exact on_zero
  | succ k ih => exact on_add g ih hP

theorem mul_1 (g : Good n d) (P : Pt n) : mul d 1 P = P := by rw [mul_succ, mul_0, zero_add g]

theorem mul_2 (g : Good n d) (P : Pt n) : mul d 2 P = add d P P := by rw [mul_succ, mul_1 g]

theorem mul_add (g : Good n d) {P : Pt n} (hP : On d P) (j k : Nat) : mul d (j + k) P = add d (mul d j P) (mul d k P) := by
  induction k with
  | zero => rw [Nat.add_zero, mul_0, add_zero g]
  | succ k ih => rw [← Nat.add_assoc, mul_succ, mul_succ, ih, add_assoc g (on_mul g hP j) (on_mul g hP k) hP]

theorem mul_zero (g : Good n d) (k : Nat) : mul d k (zero : Pt n) = zero := by
  induction k with
  | zero => rfl
  | succ k ih => rw [mul_succ, ih, zero_add g]

theorem mul_mul (g : Good n d) {P : Pt n} (hP : On d P) (j k : Nat) : mul d (j * k) P = mul d k (mul d j P) := by
  induction k with
  | zero => rw [Nat.mul_zero, mul_0, mul_0]
  | succ k ih => rw [Nat.mul_succ, mul_add g hP, ih, mul_succ]

theorem add_swap (g : Good n d) {A B C D : Pt n} (hA : On d A) (hB : On d B) (hC : On d C) (hD : On d D) :
    add d (add d A B) (add d C D) = add d (add d A C) (add d B D) := by
  rw [add_assoc g hA hB (on_add g hC hD), add_assoc g hA hC (on_add g hB hD), ← add_assoc g hB hC hD, ← add_assoc g hC hB hD, add_comm B C]

theorem mul_dist (g : Good n d) {P Q : Pt n} (hP : On d P) (hQ : On d Q) (k : Nat) : mul d k (add d P Q) = add d (mul d k P) (mul d k Q) := by
  induction k with
  | zero => rw [mul_0, mul_0, mul_0, zero_add g]
  | succ k ih => rw [mul_succ, mul_succ, mul_succ, ih, add_swap g (on_mul g hP k) (on_mul g hQ k) hP hQ]

/-- What is added to a point and gives the neutral one is its negative. -/
theorem neg_of (g : Good n d) {P Q : Pt n} (hP : On d P) (hQ : On d Q) (h : add d P Q = zero) : Q = neg P := by
  have a : add d (neg P) (add d P Q) = Q := by
    rw [← add_assoc g (on_neg hP) hP hQ, add_comm (neg P) P, add_neg g hP, zero_add g]
  rw [h, add_zero g] at a
  exact a.symm

theorem neg_zero : neg (zero : Pt n) = zero := by
  show Pt.mk (-0 : Fin n) 1 = Pt.mk 0 1
  have : (-0 : Fin n) = 0 := by grind only
  rw [this]

theorem neg_neg (P : Pt n) : neg (neg P) = P := by
  show Pt.mk (- -P.x) P.y = P
  have : - -P.x = P.x := by grind only
  rw [this]

theorem neg_add (g : Good n d) {P Q : Pt n} (hP : On d P) (hQ : On d Q) : neg (add d P Q) = add d (neg P) (neg Q) := by
  symm
  apply neg_of g (on_add g hP hQ) (on_add g (on_neg hP) (on_neg hQ))
  rw [add_swap g hP hQ (on_neg hP) (on_neg hQ), add_neg g hP, add_neg g hQ, zero_add g]

theorem mul_neg (g : Good n d) {P : Pt n} (hP : On d P) (k : Nat) : mul d k (neg P) = neg (mul d k P) := by
  induction k with
  | zero => rw [mul_0, mul_0, neg_zero]
  | succ k ih => rw [mul_succ, mul_succ, ih, neg_add g (on_mul g hP k) hP]

theorem mul_mod (g : Good n d) {P : Pt n} (hP : On d P) {L : Nat} (hL : mul d L P = zero) (k : Nat) : mul d k P = mul d (k % L) P := by
  have h := mul_add g hP (L * (k / L)) (k % L)
  rw [mul_mul g hP, hL, mul_zero g, zero_add g, Nat.div_add_mod] at h
  exact h

theorem mul_times (g : Good n d) {P : Pt n} (hP : On d P) (a b : Nat) : mul d a (mul d b P) = mul d (a * b) P := by
  rw [Nat.mul_comm, mul_mul g hP]

/-- Multiples that are neutral by two numbers with nothing in common: the point is. -/
theorem zero_of (g : Good n d) {P : Pt n} (hP : On d P) {j k a b : Nat} (hj : mul d j P = zero) (hk : mul d k P = zero) (h : j * a = k * b + 1) : P = zero := by
  have h1 : mul d (j * a) P = zero := by rw [mul_mul g hP, hj, mul_zero g]
  rw [h, mul_add g hP, mul_mul g hP, hk, mul_zero g, zero_add g, mul_1 g] at h1
  exact h1

/-- Coordinates over one z. -/
structure Rep (X Y Z : Fin n) (P : Pt n) : Prop where
  z : Z ≠ 0
  x : X = P.x * Z
  y : Y = P.y * Z

theorem Rep.zero (hn : Prime n) : Rep (0 : Fin n) 1 1 zero where
  z := fun h => ne_one hn h.symm
  x := by show (0 : Fin n) = 0 * 1; grind only
  y := by show (1 : Fin n) = 1 * 1; grind only

theorem Rep.neg {X Y Z : Fin n} {P : Pt n} (r : Rep X Y Z P) : Rep (-X) Y Z (neg P) where
  z := r.z
  x := by
    rw [r.x]
    show -(P.x * Z) = -P.x * Z
    grind only
  y := r.y

theorem kk_rep {X1 Y1 Z1 X2 Y2 Z2 : Fin n} {P Q : Pt n} (r : Rep X1 Y1 Z1 P) (s : Rep X2 Y2 Z2 Q) :
    d * ((X1 * X2) * (Y1 * Y2)) = kk d P Q * ((Z1 * Z2) * (Z1 * Z2)) := by
  rw [r.x, r.y, s.x, s.y]
  unfold kk
  grind only

/-- The sum over one z, by the formula that divides nothing. -/
theorem Rep.add (g : Good n d) {X1 Y1 Z1 X2 Y2 Z2 : Fin n} {P Q : Pt n} (hP : On d P) (hQ : On d Q) (r : Rep X1 Y1 Z1 P) (s : Rep X2 Y2 Z2 Q)
    {z m : Fin n} (hz : z = Z1 * Z2) (hm : m = d * ((X1 * X2) * (Y1 * Y2))) :
    Rep (((X1 * Y2 + Y1 * X2) * z) * (z * z - m)) (((Y1 * Y2 + X1 * X2) * z) * (z * z + m)) ((z * z + m) * (z * z - m)) (add d P Q) := by
  have hzn : z ≠ 0 := hz ▸ mul_ne g.pr r.z s.z
  have hm2 : m = kk d P Q * (z * z) := by rw [hm, hz, kk_rep r s]
  have p1 : z * z + m = (1 + kk d P Q) * (z * z) := by rw [hm2]; grind only
  have p2 : z * z - m = (1 - kk d P Q) * (z * z) := by rw [hm2]; grind only
  have nx : X1 * Y2 + Y1 * X2 = (P.x * Q.y + P.y * Q.x) * z := by rw [r.x, r.y, s.x, s.y, hz]; grind only
  have ny : Y1 * Y2 + X1 * X2 = (P.y * Q.y + P.x * Q.x) * z := by rw [r.x, r.y, s.x, s.y, hz]; grind only
  have hx := add_x g hP hQ
  have hy := add_y g hP hQ
  have n1 := plus_ne g hP hQ
  have n2 := minus_ne g hP hQ
  constructor
  · rw [p1, p2]
    exact mul_ne g.pr (mul_ne g.pr n1 (mul_ne g.pr hzn hzn)) (mul_ne g.pr n2 (mul_ne g.pr hzn hzn))
  · rw [p1, p2, nx, ← hx]
    grind only
  · rw [p1, p2, ny, ← hy]
    grind only

theorem Rep.same (hn : Prime n) {X Y Z : Fin n} {P Q : Pt n} (r : Rep X Y Z P) (s : Rep X Y Z Q) : P = Q := by
  have hx : P.x = Q.x := cancel hn r.z (r.x.symm.trans s.x)
  have hy : P.y = Q.y := cancel hn r.z (r.y.symm.trans s.y)
  cases P
  cases Q
  simp only at hx hy
  rw [hx, hy]

theorem Rep.aff (hn : Prime n) {X Y Z : Fin n} {P : Pt n} (r : Rep X Y Z P) : X * finv Z = P.x ∧ Y * finv Z = P.y := by
  have h := mul_finv hn r.z
  have a : ∀ u : Fin n, u * Z * finv Z = u * (Z * finv Z) := fun u => by grind only
  have b : ∀ u : Fin n, u * 1 = u := fun u => by grind only
  rw [r.x, r.y, a, a, h, b, b]
  exact ⟨rfl, rfl⟩

end Ed
end Nums

namespace Nums

instance : NeZero p := ⟨by decide⟩
/-- The numbers modulo p. -/
abbrev F := Fin p
/-- A number modulo p. -/
def fof (k : Nat) : F := ⟨k % p, Nat.mod_lt _ (by decide)⟩
theorem fof_val (k : Nat) : (fof k).val = k % p := rfl
theorem fof_add (a b : Nat) : fof (a + b) = fof a + fof b := by
  apply Fin.ext
  show (a + b) % p = (a % p + b % p) % p
  rw [← Nat.add_mod]
theorem fof_mul (a b : Nat) : fof (a * b) = fof a * fof b := by
  apply Fin.ext
  show (a * b) % p = (a % p * (b % p)) % p
  rw [← Nat.mul_mod]
theorem fof_mod (a : Nat) : fof (a % p) = fof a := by
  apply Fin.ext
  show a % p % p = a % p
  rw [Nat.mod_mod]
theorem fof_eq {a b : Nat} (h : a % p = b % p) : fof a = fof b := Fin.ext h
theorem fof_zero : fof 0 = 0 := by
  apply Fin.ext
  show 0 % p = 0 % p
  rfl
theorem fof_one : fof 1 = 1 := by
  apply Fin.ext
  show 1 % p = 1 % p
  rfl
theorem fof_of (a : F) : fof a.val = a := by
  apply Fin.ext
  exact Nat.mod_eq_of_lt a.isLt
theorem fof_sub {a b : Nat} (h : b ≤ a) : fof (a - b) = fof a - fof b := by
  have : fof a = fof (a - b) + fof b := by rw [← fof_add, Nat.sub_add_cancel h]
  rw [this]
  generalize fof (a - b) = u
  generalize fof b = v
  grind only
theorem fof_pow (a k : Nat) : fof (a ^ k) = fpow (fof a) k := by
  induction k with
  | zero => exact fof_one
  | succ k ih => rw [Nat.pow_succ, fof_mul, ih, fpow_succ]
theorem fof_pm {a e : Nat} (k : Nat) (h : e < 2 ^ k) : fpow (fof a) e = fof (pm p a k e) := by
  rw [pm_eq p a k e h, fof_mod, fof_pow]

/-- The numbers' names: (p - 1) / 2, (p - 1) / 4, (p + 3) / 8. -/
def ph : Nat := 28948022309329048855892746252171976963317496166410141009864396001978282409974
def pq : Nat := 14474011154664524427946373126085988481658748083205070504932198000989141204987
def pe : Nat := 7237005577332262213973186563042994240829374041602535252466099000494570602494
theorem ph_two : ph * 2 = p - 1 := by decide
theorem pq_two : pq * 2 = ph := by decide
theorem pe_two : pe * 2 = pq + 1 := by decide
theorem ph_pos : 0 < ph := by decide
theorem pq_pos : 0 < pq := by decide

/-- A root of -1: 2 to (p - 1) / 4. -/
def im : F := fpow (fof 2) pq
theorem im_im : im * im = -1 := by
  unfold im
  rw [← fpow_add, show pq + pq = ph from by decide, fof_pm 255 (by decide)]
  have : fof (pm p 2 255 ph) = fof (p - 1) := fof_eq (by decide +kernel)
  rw [this, fof_sub (by decide), fof_one, show fof p = 0 from fof_eq (a := p) (b := 0) (by decide)]
  generalize (1 : F) = u
  grind only

theorem two_ne : (2 : F) ≠ 0 := by
  intro h
  have h1 : (2 : F).val = (0 : F).val := by rw [h]
  revert h1
  decide

/-- Euler: a square's half power is 1. -/
theorem euler_sq {a : F} (ha : a ≠ 0) : fpow (a * a) ph = 1 := by
  rw [mul_fpow, ← fpow_add, show ph + ph = p - 1 from by decide]
  exact fpow_fermat prime_p ha

theorem euler_or {a : F} (ha : a ≠ 0) : fpow a ph = 1 ∨ fpow a ph = -1 := by
  have h := fpow_fermat prime_p ha
  rw [show p - 1 = ph + ph from by decide, fpow_add] at h
  have h1 : fpow a ph * fpow a ph = 1 * 1 := by rw [h]; grind only
  exact root_or prime_p h1

/-- The root's candidate: to (p + 3) / 8. -/
def cand (a : F) : F := fpow a pe
theorem cand_sq (a : F) : cand a * cand a = fpow a pq * a := by
  unfold cand
  rw [← fpow_add, show pe + pe = pq + 1 from by decide, fpow_succ]

theorem cand_zero : cand 0 = 0 := zero_fpow (by decide)

/-- Euler's criterion, and where the root is. -/
theorem root_of {w : F} (h : fpow w ph = 1) : cand w * cand w = w ∨ (cand w * im) * (cand w * im) = w := by
  have h1 : fpow w pq * fpow w pq = 1 * 1 := by
    rw [← fpow_add, show pq + pq = ph from by decide, h]
    grind only
  have hc := cand_sq w
  have hi := im_im
  rcases root_or prime_p h1 with h2 | h2
  · left
    rw [hc, h2]
    grind only
  · right
    rw [h2] at hc
    grind only

theorem no_root {w : F} (h0 : w ≠ 0) (h : fpow w ph ≠ 1) (x : F) : x * x ≠ w := by
  rintro rfl
  apply h
  apply euler_sq
  rintro rfl
  exact h0 (by grind only)

/-- A number below p is even or its negative is. -/
theorem neg_val {a : F} (h : a ≠ 0) : (-a).val = p - a.val := by
  have h1 : a.val ≠ 0 := fun h2 => h (Fin.ext h2)
  have h2 := a.isLt
  have h3 : fof (p - a.val) = -a := by
    rw [fof_sub (by omega), fof_of, show fof p = 0 from fof_eq (a := p) (b := 0) (by decide)]
    grind only
  rw [← h3, fof_val]
  exact Nat.mod_eq_of_lt (by omega)

theorem p_odd : p % 2 = 1 := by decide
theorem neg_odd {a : F} (h : a ≠ 0) : (-a).val % 2 = 1 - a.val % 2 := by
  rw [neg_val h]
  have h2 := a.isLt
  have h3 := p_odd
  omega

/-- The curve's d. -/
def dn : Nat := 37095705934669439343138083508754565189542113879843219016388785533085940283555
def dd : F := fof dn
theorem dd_def : dd = (0 - fof 121665) * finv (fof 121666) := by
  have h0 : fof 121666 ≠ 0 := fun h => by
    have := congrArg Fin.val h
    revert this
    decide
  have h : dd * fof 121666 = 0 - fof 121665 := by
    have h1 : fof (dn * 121666 + 121665) = 0 := fof_eq (a := dn * 121666 + 121665) (b := 0) (by decide)
    rw [fof_add, fof_mul] at h1
    unfold dd
    generalize fof dn = u at *
    generalize fof 121666 = v at *
    generalize fof 121665 = w at *
    grind only
  rw [← h]
  have h2 := mul_finv prime_p h0
  generalize fof 121666 = v at *
  generalize finv v = w at *
  generalize dd = u at *
  grind only

theorem dd_ne : dd ≠ 0 := fun h => by
  have := congrArg Fin.val h
  revert this
  decide

theorem dd_pow : fpow dd ph ≠ 1 := by
  unfold dd
  rw [fof_pm 255 (by decide)]
  intro h
  have := congrArg Fin.val h
  revert this
  rw [fof_val]
  decide +kernel

theorem good : Ed.Good p dd where
  pr := prime_p
  two := two_ne
  i := ⟨im, im_im⟩
  d := no_root dd_ne dd_pow

/-- The base point. -/
def bx : Nat := 15112221349535400772501151409588531511454012693041857206046113283949847762202
def bY : Nat := 46316835694926478169428394003475163141307993866256225615783033603165251855960
def base : Ed.Pt p := ⟨fof bx, fof bY⟩
theorem on_base : Ed.On dd base := by
  show fof bY * fof bY - fof bx * fof bx = 1 + dd * fof bx * fof bx * fof bY * fof bY
  unfold dd
  have h : fof (bY * bY) = fof (bx * bx + (1 + dn * bx * bx * bY * bY)) := fof_eq (by decide +kernel)
  rw [fof_mul, fof_add, fof_add, fof_mul, fof_mul, fof_mul, fof_mul, fof_mul, fof_one] at h
  rw [h]
  generalize fof bx = u
  generalize fof bY = v
  generalize fof dn = w
  grind only

end Nums
