/-
  SEVERAL TEXTS IN ONE: Root, Pack, High, CpG, Word, Words, Limb, ElOps, ElSub, ElWhole, ElMul0, ElSteps.
-/
import Derived.Test.YtlcbhbahchiofaaDoorMc
import Derived.Test.YtlcbhbahchiofaaDoorMb
import Derived.Lib.Mul64
import Derived.StillTailTactics
/-
PLAIN NUMBERS: the sums of the curve's points are a group; multiples. No program is imported.
PLAIN NUMBERS: multiples of the curve's points; the sum in coordinates over one z. No program is imported.
PLAIN NUMBERS: p = 2^255 - 19: which numbers are squares, and their roots; the curve's d. No program is imported.
-/
namespace Nums
namespace Ed
variable {n : Nat} [NeZero n] {d : Fin n}

def kk (d : Fin n) (P Q : Pt n) : Fin n:=d * P.x * Q.x * P.y * Q.y

theorem plus_ne (g : Good n d) {P Q : Pt n} (hP : On d P) (hQ : On d Q) : 1 + kk d P Q ≠ 0:=fun h =>
 complete g hP hQ (e := -1) (by grind only) (by unfold kk at h; grind only)

theorem minus_ne (g : Good n d) {P Q : Pt n} (hP : On d P) (hQ : On d Q) : 1 - kk d P Q ≠ 0:=fun h =>
 complete g hP hQ (e:=1) (by grind only) (by unfold kk at h; grind only)

def add (d : Fin n) (P Q : Pt n) : Pt n :=
  ⟨(P.x*Q.y + P.y*Q.x) * finv (1 + kk d P Q),(P.y*Q.y + P.x*Q.x) * finv (1 - kk d P Q)⟩

def zero : Pt n:=⟨0,1⟩
def neg (P : Pt n) : Pt n:=⟨-P.x,P.y⟩

theorem on_zero : On d (zero : Pt n):=by
 show (1 : Fin n) * 1 - 0 * 0 = 1 + d * 0 * 0 * 1 * 1
 grind only

theorem on_neg {P : Pt n} (h : On d P) : On d (neg P):=by
 unfold On neg at *
 show P.y * P.y - -P.x * -P.x = 1 + d * -P.x * -P.x * P.y * P.y
 grind only

theorem add_x (g : Good n d) {P Q : Pt n} (hP : On d P) (hQ : On d Q) : (add d P Q).x * (1 + kk d P Q) = P.x*Q.y + P.y*Q.x:=by
 have:=mul_finv g.pr (plus_ne g hP hQ)
 show (P.x*Q.y + P.y*Q.x) * finv (1 + kk d P Q) * (1 + kk d P Q) = _
 generalize finv (1 + kk d P Q) = u at *;generalize 1 + kk d P Q = v at *
 have a : (P.x*Q.y + P.y*Q.x) * u * v = (P.x*Q.y + P.y*Q.x) * (v * u):=by grind only
 rw [a,this]
 grind only

theorem add_y (g : Good n d) {P Q : Pt n} (hP : On d P) (hQ : On d Q) : (add d P Q).y * (1 - kk d P Q) = P.y*Q.y + P.x*Q.x:=by
 have:=mul_finv g.pr (minus_ne g hP hQ)
 show (P.y*Q.y + P.x*Q.x) * finv (1 - kk d P Q) * (1 - kk d P Q) = _
 generalize finv (1 - kk d P Q) = u at *;generalize 1 - kk d P Q = v at *
 have a : (P.y*Q.y + P.x*Q.x) * u * v = (P.y*Q.y + P.x*Q.x) * (v * u):=by grind only
 rw [a,this]
 grind only

theorem on_add (g : Good n d) {P Q : Pt n} (hP : On d P) (hQ : On d Q) : On d (add d P Q):=by
 have hx:=add_x g hP hQ;have hy:=add_y g hP hQ;have h1:=plus_ne g hP hQ;have h2:=minus_ne g hP hQ;have c:=closed P.x P.y Q.x Q.y d hP hQ;have k1 : (1 : Fin n) + d*P.x*Q.x*P.y*Q.y = 1 + kk d P Q:=rfl;have k2 : (1 : Fin n) - d*P.x*Q.x*P.y*Q.y = 1 - kk d P Q:=rfl;rw [k1,k2] at c
 show (add d P Q).y * (add d P Q).y - (add d P Q).x * (add d P Q).x = 1 + d * (add d P Q).x * (add d P Q).x * (add d P Q).y * (add d P Q).y
 rw [← hx,← hy] at c;generalize (add d P Q).x = x at *;generalize (add d P Q).y = y at *;generalize 1 + kk d P Q = u at *;generalize 1 - kk d P Q = v at *
 apply cancel g.pr (mul_ne g.pr (mul_ne g.pr h1 h1) (mul_ne g.pr h2 h2))
 clear hP hQ hx hy
 grind only

theorem add_comm (P Q : Pt n) : add d P Q = add d Q P:=by
 unfold add kk
 have a : d * P.x * Q.x * P.y * Q.y = d * Q.x * P.x * Q.y * P.y:=by grind only
 have b : P.x*Q.y + P.y*Q.x = Q.x*P.y + Q.y*P.x:=by grind only
 have c : P.y*Q.y + P.x*Q.x = Q.y*P.y + Q.x*P.x:=by grind only
 rw [a,b,c]

theorem zero_add (g : Good n d) (P : Pt n) : add d zero P = P:=by
 unfold add kk zero
 have a : d * 0 * P.x * 1 * P.y = 0:=by grind only
 have f1 : finv (1 + 0 : Fin n) = 1:=finv_of g.pr (by grind only);have f2 : finv (1 - 0 : Fin n) = 1:=finv_of g.pr (by grind only)
 show Pt.mk ((0 * P.y + 1 * P.x) * finv (1 + d * 0 * P.x * 1 * P.y)) ((1 * P.y + 0 * P.x) * finv (1 - d * 0 * P.x * 1 * P.y)) = P
 rw [a,f1,f2]
 have b : (0 * P.y + 1 * P.x) * 1 = P.x:=by grind only
 have c : (1 * P.y + 0 * P.x) * 1 = P.y:=by grind only
 rw [b,c]

theorem add_zero (g : Good n d) (P : Pt n) : add d P zero = P:=by rw [add_comm,zero_add g]

theorem add_neg (g : Good n d) {P : Pt n} (hP : On d P) : add d P (neg P) = zero:=by
 have hm:=minus_ne g hP (on_neg hP);have:=mul_finv g.pr hm
 unfold add zero
 have a : (P.x * (neg P).y + P.y * (neg P).x) = 0:=by show P.x * P.y + P.y * -P.x = 0; grind only
 have b : P.y * (neg P).y + P.x * (neg P).x = 1 - kk d P (neg P):=by
  show P.y * P.y + P.x * -P.x = 1 - d * P.x * -P.x * P.y * P.y
  unfold On at hP
  grind only
 rw [a,b,this]
 have c : 0 * finv (1 + kk d P (neg P)) = 0:=by grind only
 rw [c]

theorem re_xl (sx sy rx ry px py tx ty a b e f d : Fin n) : (sx * a * b * ry + sy * b * a * rx) * (e * f + d * px * py * (tx * e) * (ty * f))
   = (a * b * e * f) * ((sx * ry + sy * rx) * (1 + d * px * tx * py * ty)):=by grind only
theorem re_xr (sx sy rx ry px py tx ty a b e f d : Fin n) : (px * (ty * f) * e + py * (tx * e) * f) * (a * b + d * (sx * a) * (sy * b) * rx * ry)
   = (a * b * e * f) * ((px * ty + py * tx) * (1 + d * sx * rx * sy * ry)):=by grind only
theorem re_yl (sx sy rx ry px py tx ty a b e f d : Fin n) : (sy * b * a * ry + sx * a * b * rx) * (e * f - d * px * py * (tx * e) * (ty * f))
   = (a * b * e * f) * ((sy * ry + sx * rx) * (1 - d * px * tx * py * ty)):=by grind only
theorem re_yr (sx sy rx ry px py tx ty a b e f d : Fin n) : (py * (ty * f) * e + px * (tx * e) * f) * (a * b - d * (sx * a) * (sy * b) * rx * ry)
   = (a * b * e * f) * ((py * ty + px * tx) * (1 - d * sx * rx * sy * ry)):=by grind only
theorem re_c (u z w v : Fin n) : u * (z * (w * v)) = z * (u * w * v):=by grind only
theorem re_d (t z w v : Fin n) : t * (z * (w * v)) = z * (t * v * w):=by grind only

set_option maxHeartbeats 4000000 in
theorem add_assoc (g : Good n d) {P Q R : Pt n} (hP : On d P) (hQ : On d Q) (hR : On d R) : add d (add d P Q) R = add d P (add d Q R):=by
 have hPQ:=on_add g hP hQ;have hQR:=on_add g hQ hR;have x1:=add_x g hP hQ;have y1:=add_y g hP hQ;have p1:=plus_ne g hP hQ;have m1:=minus_ne g hP hQ;have x2:=add_x g hQ hR;have y2:=add_y g hQ hR;have p2:=plus_ne g hQ hR;have m2:=minus_ne g hQ hR;have x3:=add_x g hPQ hR;have y3:=add_y g hPQ hR;have p3:=plus_ne g hPQ hR;have m3:=minus_ne g hPQ hR;have x4:=add_x g hP hQR;have y4:=add_y g hP hQR;have p4:=plus_ne g hP hQR;have m4:=minus_ne g hP hQR;have ax:=assoc_x P.x P.y Q.x Q.y R.x R.y d hP hQ hR;have ay:=assoc_y P.x P.y Q.x Q.y R.x R.y d hP hQ hR;clear hP hQ hR hPQ hQR;have c1 : (1 : Fin n) + d*P.x*Q.x*P.y*Q.y = 1 + kk d P Q:=rfl;have c2 : (1 : Fin n) - d*P.x*Q.x*P.y*Q.y = 1 - kk d P Q:=rfl;have c3 : (1 : Fin n) + d*Q.x*R.x*Q.y*R.y = 1 + kk d Q R:=rfl;have c4 : (1 : Fin n) - d*Q.x*R.x*Q.y*R.y = 1 - kk d Q R:=rfl;rw [c1,c2,c3,c4,← x1,← y1,← x2,← y2] at ax ay
 have ex : (add d (add d P Q) R).x = (add d P (add d Q R)).x:=by
  generalize add d (add d P Q) R = U at *;generalize add d P (add d Q R) = V at *
  unfold kk at x3 p3 x4 p4
  generalize add d P Q = S at *;generalize add d Q R = T at *;generalize 1 + kk d P Q = a at *;generalize 1 - kk d P Q = b at *;generalize 1 + kk d Q R = e at *;generalize 1 - kk d Q R = f at *
  -- ax: (S.x a b R.y + S.y b a R.x) (e f + d P.x P.y (T.x e)(T.y f)) = (P.x T.y f e + P.y T.x e f) (a b + d (S.x a)(S.y b) R.x R.y)
  rw [re_xl,re_xr,← x3,← x4] at ax;have hne:=mul_ne g.pr (mul_ne g.pr (mul_ne g.pr p1 m1) p2) m2
  apply cancel g.pr (mul_ne g.pr hne (mul_ne g.pr p3 p4))
  clear x1 y1 x2 y2 x3 y3 x4 y4 ay c1 c2 c3 c4 hne p1 p2 m1 m2 m3 m4;generalize a * b * e * f = z at *;generalize 1 + d * S.x * R.x * S.y * R.y = w at *;generalize 1 + d * P.x * T.x * P.y * T.y = v at *;generalize U.x = u at *;generalize V.x = t at *;clear g p3 p4;rw [re_c,re_d,ax]
 have ey : (add d (add d P Q) R).y = (add d P (add d Q R)).y:=by
  generalize add d (add d P Q) R = U at *;generalize add d P (add d Q R) = V at *
  unfold kk at y3 m3 y4 m4
  generalize add d P Q = S at *;generalize add d Q R = T at *;generalize 1 + kk d P Q = a at *;generalize 1 - kk d P Q = b at *;generalize 1 + kk d Q R = e at *;generalize 1 - kk d Q R = f at *;rw [re_yl,re_yr,← y3,← y4] at ay;have hne:=mul_ne g.pr (mul_ne g.pr (mul_ne g.pr p1 m1) p2) m2
  apply cancel g.pr (mul_ne g.pr hne (mul_ne g.pr m3 m4))
  clear x1 y1 x2 y2 x3 y3 x4 y4 ax c1 c2 c3 c4 hne p1 p2 m1 m2 p3 p4;generalize a * b * e * f = z at *;generalize 1 - d * S.x * R.x * S.y * R.y = w at *;generalize 1 - d * P.x * T.x * P.y * T.y = v at *;generalize U.y = u at *;generalize V.y = t at *;clear g m3 m4;rw [re_c,re_d,ay]
 have eta : ∀ A B : Pt n,A.x = B.x → A.y = B.y → A = B:=by
  rintro ⟨_,_⟩ ⟨_,_⟩ h1 h2
  simp only at h1 h2;rw [h1,h2]
 exact eta _ _ ex ey

end Ed
end Nums

namespace Nums
namespace Ed
variable {n : Nat} [NeZero n] {d : Fin n}

def mul (d : Fin n) : Nat → Pt n → Pt n
  | 0,_=>zero
  | k + 1,P=>add d (mul d k P) P

theorem mul_0 (P : Pt n) : mul d 0 P = zero:=rfl
theorem mul_succ (k : Nat) (P : Pt n) : mul d (k + 1) P = add d (mul d k P) P:=rfl

theorem on_mul (g : Good n d) {P : Pt n} (hP : On d P) (k : Nat) : On d (mul d k P):=by
 induction k with
 | zero=>exact on_zero
 | succ k ih=>exact on_add g ih hP

theorem mul_1 (g : Good n d) (P : Pt n) : mul d 1 P = P:=by rw [mul_succ,mul_0,zero_add g]

theorem mul_2 (g : Good n d) (P : Pt n) : mul d 2 P = add d P P:=by rw [mul_succ,mul_1 g]

theorem mul_add (g : Good n d) {P : Pt n} (hP : On d P) (j k : Nat) : mul d (j + k) P = add d (mul d j P) (mul d k P):=by
 induction k with
 | zero=>rw [Nat.add_zero,mul_0,add_zero g]
 | succ k ih=>rw [← Nat.add_assoc,mul_succ,mul_succ,ih,add_assoc g (on_mul g hP j) (on_mul g hP k) hP]

theorem mul_zero (g : Good n d) (k : Nat) : mul d k (zero : Pt n) = zero:=by
 induction k with
 | zero=>rfl
 | succ k ih=>rw [mul_succ,ih,zero_add g]

theorem mul_mul (g : Good n d) {P : Pt n} (hP : On d P) (j k : Nat) : mul d (j * k) P = mul d k (mul d j P):=by
 induction k with
 | zero=>rw [Nat.mul_zero,mul_0,mul_0]
 | succ k ih=>rw [Nat.mul_succ,mul_add g hP,ih,mul_succ]

theorem add_swap (g : Good n d) {A B C D : Pt n} (hA : On d A) (hB : On d B) (hC : On d C) (hD : On d D) :
  add d (add d A B) (add d C D) = add d (add d A C) (add d B D):=by
 rw [add_assoc g hA hB (on_add g hC hD),add_assoc g hA hC (on_add g hB hD),← add_assoc g hB hC hD,← add_assoc g hC hB hD,add_comm B C]

theorem neg_of (g : Good n d) {P Q : Pt n} (hP : On d P) (hQ : On d Q) (h : add d P Q = zero) : Q = neg P:=by
 have a : add d (neg P) (add d P Q) = Q:=by
  rw [← add_assoc g (on_neg hP) hP hQ,add_comm (neg P) P,add_neg g hP,zero_add g]
 rw [h,add_zero g] at a;exact a.symm

theorem neg_zero : neg (zero : Pt n) = zero:=by
 show Pt.mk (-0 : Fin n) 1 = Pt.mk 0 1
 have : (-0 : Fin n) = 0:=by grind only
 rw [this]

theorem neg_neg (P : Pt n) : neg (neg P) = P:=by
 show Pt.mk (- -P.x) P.y = P
 have : - -P.x = P.x:=by grind only
 rw [this]

theorem neg_add (g : Good n d) {P Q : Pt n} (hP : On d P) (hQ : On d Q) : neg (add d P Q) = add d (neg P) (neg Q):=by
 symm
 apply neg_of g (on_add g hP hQ) (on_add g (on_neg hP) (on_neg hQ))
 rw [add_swap g hP hQ (on_neg hP) (on_neg hQ),add_neg g hP,add_neg g hQ,zero_add g]

theorem mul_neg (g : Good n d) {P : Pt n} (hP : On d P) (k : Nat) : mul d k (neg P) = neg (mul d k P):=by
 induction k with
 | zero=>rw [mul_0,mul_0,neg_zero]
 | succ k ih=>rw [mul_succ,mul_succ,ih,neg_add g (on_mul g hP k) hP]

theorem mul_mod (g : Good n d) {P : Pt n} (hP : On d P) {L : Nat} (hL : mul d L P = zero) (k : Nat) : mul d k P = mul d (k % L) P:=by
 have h:=mul_add g hP (L * (k / L)) (k % L);rw [mul_mul g hP,hL,mul_zero g,zero_add g,Nat.div_add_mod] at h;exact h

theorem mul_times (g : Good n d) {P : Pt n} (hP : On d P) (a b : Nat) : mul d a (mul d b P) = mul d (a * b) P:=by
 rw [Nat.mul_comm,mul_mul g hP]

theorem zero_of (g : Good n d) {P : Pt n} (hP : On d P) {j k a b : Nat} (hj : mul d j P = zero) (hk : mul d k P = zero) (h : j * a = k * b + 1) : P = zero:=by
 have h1 : mul d (j * a) P = zero:=by rw [mul_mul g hP,hj,mul_zero g]
 rw [h,mul_add g hP,mul_mul g hP,hk,mul_zero g,zero_add g,mul_1 g] at h1;exact h1

structure Rep (X Y Z : Fin n) (P : Pt n) : Prop where
  z : Z ≠ 0
  x : X = P.x * Z
  y : Y = P.y * Z

theorem Rep.zero (hn : Prime n) : Rep (0 : Fin n) 1 1 zero where
 z:=fun h=>ne_one hn h.symm
 x:=by show (0 : Fin n) = 0 * 1; grind only
 y:=by show (1 : Fin n) = 1 * 1; grind only

theorem Rep.neg {X Y Z : Fin n} {P : Pt n} (r : Rep X Y Z P) : Rep (-X) Y Z (neg P) where
 z:=r.z
 x:=by
  rw [r.x]
  show -(P.x * Z) = -P.x * Z
  grind only
 y:=r.y

theorem kk_rep {X1 Y1 Z1 X2 Y2 Z2 : Fin n} {P Q : Pt n} (r : Rep X1 Y1 Z1 P) (s : Rep X2 Y2 Z2 Q) :
  d * ((X1 * X2) * (Y1 * Y2)) = kk d P Q * ((Z1 * Z2) * (Z1 * Z2)):=by
 rw [r.x,r.y,s.x,s.y]
 unfold kk
 grind only

theorem Rep.add (g : Good n d) {X1 Y1 Z1 X2 Y2 Z2 : Fin n} {P Q : Pt n} (hP : On d P) (hQ : On d Q) (r : Rep X1 Y1 Z1 P) (s : Rep X2 Y2 Z2 Q)
  {z m : Fin n} (hz : z = Z1 * Z2) (hm : m = d * ((X1 * X2) * (Y1 * Y2))) :
  Rep (((X1 * Y2 + Y1 * X2) * z) * (z * z - m)) (((Y1 * Y2 + X1 * X2) * z) * (z * z + m)) ((z * z + m) * (z * z - m)) (add d P Q):=by
 have hzn : z ≠ 0:=hz ▸ mul_ne g.pr r.z s.z
 have hm2 : m = kk d P Q * (z * z):=by rw [hm,hz,kk_rep r s]
 have p1 : z * z + m = (1 + kk d P Q) * (z * z):=by rw [hm2]; grind only
 have p2 : z * z - m = (1 - kk d P Q) * (z * z):=by rw [hm2]; grind only
 have nx : X1 * Y2 + Y1 * X2 = (P.x * Q.y + P.y * Q.x) * z:=by rw [r.x,r.y,s.x,s.y,hz]; grind only
 have ny : Y1 * Y2 + X1 * X2 = (P.y * Q.y + P.x * Q.x) * z:=by rw [r.x,r.y,s.x,s.y,hz]; grind only
 have hx:=add_x g hP hQ;have hy:=add_y g hP hQ;have n1:=plus_ne g hP hQ;have n2:=minus_ne g hP hQ
 constructor
 ·rw [p1,p2]
  exact mul_ne g.pr (mul_ne g.pr n1 (mul_ne g.pr hzn hzn)) (mul_ne g.pr n2 (mul_ne g.pr hzn hzn))
 ·rw [p1,p2,nx,← hx]
  grind only
 ·rw [p1,p2,ny,← hy]
  grind only

theorem Rep.same (hn : Prime n) {X Y Z : Fin n} {P Q : Pt n} (r : Rep X Y Z P) (s : Rep X Y Z Q) : P = Q:=by
 have hx : P.x = Q.x:=cancel hn r.z (r.x.symm.trans s.x);have hy : P.y = Q.y:=cancel hn r.z (r.y.symm.trans s.y)
 cases P
 cases Q
 simp only at hx hy;rw [hx,hy]

theorem Rep.aff (hn : Prime n) {X Y Z : Fin n} {P : Pt n} (r : Rep X Y Z P) : X * finv Z = P.x ∧ Y * finv Z = P.y:=by
 have h:=mul_finv hn r.z
 have a : ∀ u : Fin n,u * Z * finv Z = u * (Z * finv Z):=fun u=>by grind only
 have b : ∀ u : Fin n,u * 1 = u:=fun u=>by grind only
 rw [r.x,r.y,a,a,h,b,b];exact ⟨rfl,rfl⟩

end Ed
end Nums

namespace Nums

instance : NeZero p:=⟨by decide⟩
abbrev F:=Fin p
def fof (k : Nat) : F:=⟨k % p,Nat.mod_lt _ (by decide)⟩
theorem fof_val (k : Nat) : (fof k).val = k % p:=rfl
theorem fof_add (a b : Nat) : fof (a + b) = fof a + fof b:=by
 apply Fin.ext
 show (a + b) % p = (a % p + b % p) % p
 rw [← Nat.add_mod]
theorem fof_mul (a b : Nat) : fof (a * b) = fof a * fof b:=by
 apply Fin.ext
 show (a * b) % p = (a % p * (b % p)) % p
 rw [← Nat.mul_mod]
theorem fof_mod (a : Nat) : fof (a % p) = fof a:=by
 apply Fin.ext
 show a % p % p = a % p
 rw [Nat.mod_mod]
theorem fof_eq {a b : Nat} (h : a % p = b % p) : fof a = fof b:=Fin.ext h
theorem fof_zero : fof 0 = 0:=by
 apply Fin.ext
 show 0 % p = 0 % p
 rfl
theorem fof_one : fof 1 = 1:=by
 apply Fin.ext
 show 1 % p = 1 % p
 rfl
theorem fof_of (a : F) : fof a.val = a:=by
 apply Fin.ext
 exact Nat.mod_eq_of_lt a.isLt
theorem fof_sub {a b : Nat} (h : b ≤ a) : fof (a - b) = fof a - fof b:=by
 have : fof a = fof (a - b) + fof b:=by rw [← fof_add,Nat.sub_add_cancel h]
 rw [this];generalize fof (a - b) = u;generalize fof b = v
 grind only
theorem fof_pow (a k : Nat) : fof (a ^ k) = fpow (fof a) k:=by
 induction k with
 | zero=>exact fof_one
 | succ k ih=>rw [Nat.pow_succ,fof_mul,ih,fpow_succ]
theorem fof_pm {a e : Nat} (k : Nat) (h : e < 2 ^ k) : fpow (fof a) e = fof (pm p a k e):=by
 rw [pm_eq p a k e h,fof_mod,fof_pow]

def ph : Nat:=28948022309329048855892746252171976963317496166410141009864396001978282409974
def pq : Nat:=14474011154664524427946373126085988481658748083205070504932198000989141204987
theorem pq_two : pq * 2 = ph:=by decide
def im : F:=fpow (fof 2) pq
theorem im_im : im * im = -1:=by
 unfold im
 rw [← fpow_add,show pq + pq = ph from by decide,fof_pm 255 (by decide)];have : fof (pm p 2 255 ph) = fof (p - 1):=fof_eq (by decide +kernel);rw [this,fof_sub (by decide),fof_one,show fof p = 0 from fof_eq (a:=p) (b:=0) (by decide)];generalize (1 : F) = u
 grind only

theorem two_ne : (2 : F) ≠ 0:=by
 intro h
 have h1 : (2 : F).val = (0 : F).val:=by rw [h]
 revert h1
 decide

theorem euler_sq {a : F} (ha : a ≠ 0) : fpow (a * a) ph = 1:=by
 rw [mul_fpow,← fpow_add,show ph + ph = p - 1 from by decide];exact fpow_fermat prime_p ha

theorem no_root {w : F} (h0 : w ≠ 0) (h : fpow w ph ≠ 1) (x : F) : x * x ≠ w:=by
 rintro rfl
 apply h
 apply euler_sq
 rintro rfl
 exact h0 (by grind only)

theorem neg_val {a : F} (h : a ≠ 0) : (-a).val = p - a.val:=by
 have h1 : a.val ≠ 0:=fun h2=>h (Fin.ext h2);have h2:=a.isLt
 have h3 : fof (p - a.val) = -a:=by
  rw [fof_sub (by omega),fof_of,show fof p = 0 from fof_eq (a:=p) (b:=0) (by decide)]
  grind only
 rw [← h3,fof_val];exact Nat.mod_eq_of_lt (by omega)

theorem p_odd : p % 2 = 1:=by decide
theorem neg_odd {a : F} (h : a ≠ 0) : (-a).val % 2 = 1 - a.val % 2:=by
 rw [neg_val h];have h2:=a.isLt;have h3:=p_odd
 omega

def dn : Nat:=37095705934669439343138083508754565189542113879843219016388785533085940283555
def dd : F:=fof dn
theorem dd_ne : dd ≠ 0:=fun h=>by
 have:=congrArg Fin.val h
 revert this
 decide

theorem dd_pow : fpow dd ph ≠ 1:=by
 unfold dd
 rw [fof_pm 255 (by decide)]
 intro h
 have:=congrArg Fin.val h
 revert this
 rw [fof_val]
 decide +kernel

theorem good : Ed.Good p dd where
 pr:=prime_p
 two:=two_ne
 i:=⟨im,im_im⟩
 d:=no_root dd_ne dd_pow

def bx : Nat:=15112221349535400772501151409588531511454012693041857206046113283949847762202
def bY : Nat:=46316835694926478169428394003475163141307993866256225615783033603165251855960
def base : Ed.Pt p:=⟨fof bx,fof bY⟩
theorem on_base : Ed.On dd base:=by
 show fof bY * fof bY - fof bx * fof bx = 1 + dd * fof bx * fof bx * fof bY * fof bY
 unfold dd
 have h : fof (bY * bY) = fof (bx * bx + (1 + dn * bx * bx * bY * bY)):=fof_eq (by decide +kernel);rw [fof_mul,fof_add,fof_add,fof_mul,fof_mul,fof_mul,fof_mul,fof_mul,fof_one] at h;rw [h];generalize fof bx = u;generalize fof bY = v;generalize fof dn = w
 grind only

end Nums
/-
PLAIN NUMBERS: the base point's order divides L. No program is imported.
PLAIN NUMBERS: rows of digits of 16 bits, carries, products digit by digit. No program is imported.
PLAIN NUMBERS: 16 digits of 16 bits as numbers modulo p: carries that come back 38 times, products, the packed row. No program is imported.
PLAIN NUMBERS: the packed row (below p), its bytes, the folded product. No program is imported.
-/
namespace Nums

def forced {α : Type} (x : Nat) (f : Nat → α) : α :=
  match x with
  | 0=>f 0
  | k + 1=>f (k + 1)
theorem forced_eq {α : Type} (x : Nat) (f : Nat → α) : forced x f = f x:=by cases x <;> rfl

structure Tri where
  x : Nat
  y : Nat
  z : Nat

def triAdd (a b : Tri) : Tri :=
  forced (a.z * b.z % p) fun z=>forced (z * z % p) fun zz=>forced (dn * (a.x * b.x % p * (a.y * b.y % p) % p) % p) fun m =>
  forced ((zz + m) % p) fun pl=>forced ((zz + p - m) % p) fun mi =>
  forced ((a.x * b.y + a.y * b.x) % p * z % p * mi % p) fun x=>forced ((a.y * b.y + a.x * b.x) % p * z % p * pl % p) fun y =>
  forced (pl * mi % p) fun w=>⟨x,y,w⟩

def triMul : Nat → Nat → Tri → Tri → Tri
  | 0,_,acc,_=>acc
  | n + 1,k,acc,q=>triMul n (k / 2) (if k % 2 = 1 then triAdd acc q else acc) (triAdd q q)

def TriRep (t : Tri) (P : Ed.Pt p) : Prop:=Ed.Rep (fof t.x) (fof t.y) (fof t.z) P

theorem triAdd_rep {a b : Tri} {P Q : Ed.Pt p} (hP : Ed.On dd P) (hQ : Ed.On dd Q) (ha : TriRep a P) (hb : TriRep b Q) : TriRep (triAdd a b) (Ed.add dd P Q):=by
 unfold triAdd
 simp only [forced_eq];have h:=Ed.Rep.add good hP hQ ha hb rfl rfl
 unfold TriRep
 simp only
 generalize hz : a.z * b.z % p = z;generalize hm : dn * (a.x * b.x % p * (a.y * b.y % p) % p) % p = m
 have ez : fof z = fof a.z * fof b.z:=by rw [← hz,fof_mod,fof_mul]
 have em : fof m = dd * ((fof a.x * fof b.x) * (fof a.y * fof b.y)):=by
  rw [← hm];simp only [fof_mod,fof_mul]
  rfl
 have hmp : m < p:=by rw [← hm]; exact Nat.mod_lt _ (by decide)
 have es : fof (z * z % p + p - m) = fof z * fof z - fof m:=by
  rw [fof_sub (by omega),fof_add,fof_mod,fof_mul,show fof p = 0 from fof_eq (a:=p) (b:=0) (by decide)]
  grind only
 rw [← ez,← em] at h;simp only [fof_mod,fof_mul,fof_add,es];exact h

theorem triMul_rep : ∀ (n k : Nat) (acc q : Tri) (A Q : Ed.Pt p),k < 2 ^ n → Ed.On dd A → Ed.On dd Q → TriRep acc A → TriRep q Q → TriRep (triMul n k acc q) (Ed.add dd A (Ed.mul dd k Q))
 | 0,k,acc,q,A,Q,hk,hA,hQ,ha,hq=>by
  have : k = 0:=by simp at hk; omega
  subst this;rw [Ed.mul_0,Ed.add_zero good];exact ha
 | n + 1,k,acc,q,A,Q,hk,hA,hQ,ha,hq=>by
  have hk2 : k / 2 < 2 ^ n:=by rw [Nat.pow_succ] at hk; omega
  have h2:=triAdd_rep hQ hQ hq hq;have o2:=Ed.on_add good hQ hQ
  have e2 : Ed.mul dd (k / 2) (Ed.add dd Q Q) = Ed.mul dd (2 * (k / 2)) Q:=by
   rw [Ed.mul_mul good hQ,Ed.mul_2 good]
  show TriRep (triMul n (k / 2) (if k % 2 = 1 then triAdd acc q else acc) (triAdd q q)) _
  by_cases h : k % 2 = 1
  ·rw [if_pos h]
   have ih:=triMul_rep n (k / 2) (triAdd acc q) (triAdd q q) (Ed.add dd A Q) (Ed.add dd Q Q) hk2 (Ed.on_add good hA hQ) o2 (triAdd_rep hA hQ ha hq) h2;rw [e2,Ed.add_assoc good hA hQ (Ed.on_mul good hQ _),Ed.add_comm Q,← Ed.mul_succ,show 2 * (k / 2) + 1 = k by omega] at ih;exact ih
  ·rw [if_neg h]
   have ih:=triMul_rep n (k / 2) acc (triAdd q q) A (Ed.add dd Q Q) hk2 hA o2 ha h2;rw [e2,show 2 * (k / 2) = k by omega] at ih;exact ih

def LL : Nat:=7237005577332262213973186563042994240857116359379907606001950938285454250989

def ending : Bool :=
  let t:=triMul 253 LL ⟨0,1,1⟩ ⟨bx,bY,1⟩
  forced t.x fun x=>forced t.y fun y=>forced t.z fun z=>Nat.beq (x % p) 0 && Nat.beq (y % p) (z % p)

theorem ending_true : ending = true:=by decide +kernel

theorem order : Ed.mul dd LL base = Ed.zero:=by
 have ha : TriRep ⟨0,1,1⟩ Ed.zero:=by
  have:=Ed.Rep.zero prime_p
  unfold TriRep
  rw [fof_zero,fof_one];exact this
 have hq : TriRep ⟨bx,bY,1⟩ base:=by
  refine ⟨?_,?_,?_⟩
  ·show fof 1 ≠ 0
   rw [fof_one];exact fun h=>ne_one prime_p h.symm
  ·show fof bx = fof bx * fof 1
   rw [fof_one]
   grind only
  ·show fof bY = fof bY * fof 1
   rw [fof_one]
   grind only
 have h:=triMul_rep 253 LL _ _ Ed.zero base (by decide) Ed.on_zero on_base ha hq;rw [Ed.zero_add good] at h;have e:=ending_true
 unfold ending at e
 simp only [forced_eq] at e;generalize triMul 253 LL ⟨0,1,1⟩ ⟨bx,bY,1⟩ = t at h e;rw [Bool.and_eq_true] at e;obtain ⟨e1,e2⟩:=e;have e1:=Nat.eq_of_beq_eq_true e1;have e2:=Nat.eq_of_beq_eq_true e2;have x0 : fof t.x = 0:=Fin.ext e1;have yz : fof t.y = fof t.z:=Fin.ext e2
 have hz : Ed.Rep (fof t.x) (fof t.y) (fof t.z) Ed.zero:=by
  refine ⟨h.z,?_,?_⟩
  ·rw [x0]
   show (0 : F) = 0 * fof t.z
   grind only
  ·rw [yz]
   show fof t.z = 1 * fof t.z
   grind only
 exact Ed.Rep.same prime_p h hz

end Nums

namespace Nums

def V : List Int → Int
  | []=>0
  | d :: ds=>d + 65536 * V ds

def W : Nat → Int
  | 0=>1
  | k + 1=>65536 * W k

def Small (l : List Int) : Prop:=∀ x ∈ l,0 ≤ x ∧ x < 65536

def chain : Int → List Int → List Int × Int
  | c,[]=>([],c)
  | c,d :: ds=>(((d + c) % 65536) :: (chain ((d + c) / 65536) ds).1,(chain ((d + c) / 65536) ds).2)

end Nums

namespace Nums

theorem W16 : W 16 = 2 * (p : Int) + 38:=by decide

end Nums

namespace Nums

theorem W15 : W 16 = 65536 * W 15:=rfl

def lent (l : List Int) : List Int:=(chain 0 (l.take 15)).1 ++ [l[15]! + (chain 0 (l.take 15)).2]

def le : List UInt8 → Nat
  | []=>0
  | b :: bs=>b.toNat + 256 * le bs

def split : List Int → List UInt8
  | []=>[]
  | d :: ds=>UInt8.ofNat (d % 256).toNat :: UInt8.ofNat (d / 256).toNat :: split ds
def join : List UInt8 → List Int
  | a :: b :: bs=>((a.toNat : Int) + 256 * (b.toNat : Int)) :: join bs
  | _=>[]

theorem le_inj : ∀ {a b : List UInt8},a.length = b.length → le a = le b → a = b
 | [],[],_,_=>rfl
 | x :: a,y :: b,hl,h=>by
  have h1:=x.toNat_lt;have h2:=y.toNat_lt;have h3 : x.toNat + 256 * le a = y.toNat + 256 * le b:=h;have h4 : x = y:=UInt8.toNat.inj (by omega);have h5:=le_inj (a:=a) (b:=b) (by simpa using hl) (by omega);rw [h4,h5]

def bytes : Nat → Nat → List UInt8
  | 0,_=>[]
  | k + 1,v=>UInt8.ofNat v :: bytes k (v / 256)
theorem bytes_len : ∀ k v,(bytes k v).length = k
 | 0,_=>rfl
 | k + 1,v=>by show (bytes k (v / 256)).length + 1 = k + 1; rw [bytes_len]
theorem le_bytes : ∀ k v,le (bytes k v) = v % 256 ^ k
 | 0,v=>by show 0 = v % 1; omega
 | k + 1,v=>by
  show (UInt8.ofNat v).toNat + 256 * le (bytes k (v / 256)) = v % 256 ^ (k + 1)
  rw [le_bytes,UInt8.toNat_ofNat',show 256 ^ (k + 1) = 256 * 256 ^ k by rw [Nat.pow_succ,Nat.mul_comm],Nat.mod_mul]

def enc (x : F) : List UInt8:=bytes 32 x.val
theorem enc_len (x : F) : (enc x).length = 32:=bytes_len _ _
theorem le_enc (x : F) : le (enc x) = x.val:=by
 unfold enc
 rw [le_bytes];exact Nat.mod_eq_of_lt (Nat.lt_trans x.isLt (by decide))
theorem enc_inj {x y : F} (h : enc x = enc y) : x = y:=by
 apply Fin.ext
 rw [← le_enc,← le_enc,h]
theorem enc_of {b : List UInt8} (hb : b.length = 32) {x : F} (h : le b = x.val) : b = enc x :=
 le_inj (by rw [hb,enc_len]) (by rw [h,le_enc])
end Nums
/-
PLAIN NUMBERS: the bytes of the curve's points: a point is told by its bytes; which bytes are points. No program is imported.
PLAIN NUMBERS: the lowest and the highest byte of 32. No program is imported.
-/
namespace Nums

theorem zz {n : Nat} [NeZero n] (d : Fin n) : 0 * 0 * d + 1 = 1:=by grind only
theorem neg_sq (a : F) : -a * -a = a * a:=by grind only

def evenOf (x : F) : F:=if x.val % 2 = 1 then -x else x
theorem evenOf_even (x : F) : (evenOf x).val % 2 = 0:=by
 unfold evenOf
 by_cases h : x.val % 2 = 1
 ·rw [if_pos h,neg_odd (by rintro rfl; exact absurd h (by decide)),h]
 ·rw [if_neg h]; omega
theorem evenOf_sq (x : F) : evenOf x * evenOf x = x * x:=by
 unfold evenOf
 by_cases h : x.val % 2 = 1
 ·rw [if_pos h]; grind only
 ·rw [if_neg h]

theorem root_one {a b : F} (h : a * a = b * b) (hp : a.val % 2 = b.val % 2) : a = b:=by
 rcases root_or prime_p h with h1 | h1
 ·exact h1
 ·by_cases h0 : b = 0
  ·rw [h1,h0]; grind only
  ·have:=neg_odd h0
   rw [← h1] at this
   omega

theorem vv_ne (y : F) : y * y * dd + 1 ≠ 0:=by
 intro h
 have hy : y ≠ 0:=by
  rintro rfl
  have e : (0 : F) * 0 * dd + 1 = 1:=zz dd;rw [e] at h;exact ne_one prime_p h.symm
 have h1:=mul_finv prime_p hy;refine good.d (im * finv y) ?_;have hi:=im_im;generalize finv y = z at *;generalize im = i at *;generalize dd = d at *
 have a : i * z * (i * z) = (i * i) * (z * z):=by grind only
 have b : d = -(1 : F) * (z * z):=by
  have c : d * (y * z) * (y * z) = (y * y * d) * (z * z):=by grind only
  have e : y * y * d = -1:=by grind only
  rw [h1,e] at c
  grind only
 rw [a,hi,b]

def ww (y : F) : F:=(y * y - 1) * finv (y * y * dd + 1)
theorem on_iff (x y : F) : Ed.On dd ⟨x,y⟩ ↔ x * x = ww y:=by
 have h:=mul_finv prime_p (vv_ne y)
 unfold ww
 show y * y - x * x = 1 + dd * x * x * y * y ↔ _
 have hv:=vv_ne y;generalize hV : y * y * dd + 1 = v at *;generalize finv v = u at *;generalize dd = d at *
 constructor
 ·intro h1
  have a : y * y - 1 = x * x * v:=by rw [← hV]; grind only
  have b : x * x * v * u = x * x * (v * u):=by grind only
  rw [a,b,h]
  grind only
 ·intro h1
  have a : x * x * v = y * y - 1:=by
   have b : (y * y - 1) * u * v = (y * y - 1) * (v * u):=by grind only
   rw [h1,b,h]
   grind only
  rw [← hV] at a
  grind only

def encN (P : Ed.Pt p) : Nat:=P.y.val + 57896044618658097711785492504343953926634992332820282019728792003956564819968 * (P.x.val % 2)
def encP (P : Ed.Pt p) : List UInt8:=bytes 32 (encN P)
theorem encP_len (P : Ed.Pt p) : (encP P).length = 32:=bytes_len _ _
theorem p_lt : p < 57896044618658097711785492504343953926634992332820282019728792003956564819968:=by decide
theorem le_encP (P : Ed.Pt p) : le (encP P) = encN P:=by
 unfold encP
 rw [le_bytes]
 apply Nat.mod_eq_of_lt
 have h:=P.y.isLt;have h2:=p_lt
 have h3 : 57896044618658097711785492504343953926634992332820282019728792003956564819968 * 2 = 256 ^ 32:=by decide
 unfold encN
 omega
theorem encN_inj {P Q : Ed.Pt p} (h : encN P = encN Q) : P.y = Q.y ∧ P.x.val % 2 = Q.x.val % 2:=by
 unfold encN at h
 have h1:=P.y.isLt;have h2:=Q.y.isLt;have h3:=p_lt;exact ⟨Fin.ext (by omega),by omega⟩

theorem encP_inj {P Q : Ed.Pt p} (hP : Ed.On dd P) (hQ : Ed.On dd Q) (h : encP P = encP Q) : P = Q:=by
 have h1 : encN P = encN Q:=by rw [← le_encP,← le_encP,h]
 obtain ⟨h2,h3⟩:=encN_inj h1;obtain ⟨x,y⟩:=P;obtain ⟨u,v⟩:=Q;simp only at h2 h3;subst h2;have a:=(on_iff x y).mp hP;have b:=(on_iff u y).mp hQ;rw [root_one (a.trans b.symm) h3]

end Nums

namespace Nums

theorem le_append : ∀ a b : List UInt8,le (a ++ b) = le a + 256 ^ a.length * le b
 | [],b=>by show le b = 0 + 1 * le b; omega
 | x :: a,b=>by
  show x.toNat + 256 * le (a ++ b) = x.toNat + 256 * le a + 256 ^ (a.length + 1) * le b
  rw [le_append a b,Nat.pow_succ,Nat.mul_add,Nat.mul_comm (256 ^ a.length) 256,Nat.mul_assoc]
  omega
theorem le_lt : ∀ a : List UInt8,le a < 256 ^ a.length
 | []=>by decide
 | x :: a=>by
  have h1:=le_lt a;have h2:=x.toNat_lt
  show x.toNat + 256 * le a < 256 ^ (a.length + 1)
  rw [Nat.pow_succ]
  omega
section
variable {b : List UInt8} (hb : b.length = 32)
include hb
theorem cut31 : b = b.take 31 ++ [b[31]!]:=by
 conv=>lhs; rw [← List.take_append_drop 31 b]
 rw [List.drop_eq_getElem_cons (by omega),List.drop_eq_nil_of_le (by omega),getElem!_pos b 31 (by omega)]
theorem le_top : le b = le (b.take 31) + 452312848583266388373324160190187140051835877600158453279131187530910662656 * (b[31]!).toNat:=by
 conv=>lhs; rw [cut31 hb]
 rw [le_append,List.length_take,hb]
 show _ + 256 ^ 31 * ((b[31]!).toNat + 256 * 0) = _
 rw [show (256 : Nat) ^ 31 = 452312848583266388373324160190187140051835877600158453279131187530910662656 by decide]
 omega
theorem le_rest : le (b.take 31) < 452312848583266388373324160190187140051835877600158453279131187530910662656:=by
 have h:=le_lt (b.take 31);rw [List.length_take,hb,show (256 : Nat) ^ min 31 32 = 452312848583266388373324160190187140051835877600158453279131187530910662656 by decide] at h;exact h
theorem set31 (x : UInt8) : le (b.set 31 x) = le (b.take 31) + 452312848583266388373324160190187140051835877600158453279131187530910662656 * x.toNat:=by
 have h : (b.set 31 x).length = 32:=by rw [List.length_set,hb]
 rw [le_top h,List.take_set_of_le (by omega),getElem!_pos _ 31 (by omega),List.getElem_set_self]
theorem top_iff : (b[31]!).toNat < 128 ↔ le b < 57896044618658097711785492504343953926634992332820282019728792003956564819968:=by
 have h1:=le_top hb;have h2:=le_rest hb
 omega
end

theorem encP_even {P : Ed.Pt p} (h : P.x.val % 2 ≠ 1) : encP P = enc P.y:=by
 apply le_inj (by rw [encP_len,enc_len])
 rw [le_encP,le_enc]
 unfold encN
 have : P.x.val % 2 = 0:=by omega
 rw [this]
 omega
theorem enc_top (y : F) : ((enc y)[31]!).toNat < 128:=by
 rw [top_iff (enc_len y),le_enc];exact Nat.lt_trans y.isLt p_lt
theorem encP_odd {P : Ed.Pt p} (h : P.x.val % 2 = 1) : encP P = (enc P.y).set 31 (UInt8.ofNat (((enc P.y)[31]!).toNat + 128)):=by
 apply le_inj (by rw [encP_len,List.length_set,enc_len])
 have h1:=enc_top P.y;have h2:=le_top (enc_len P.y);rw [le_encP,set31 (enc_len P.y),UInt8.toNat_ofNat_of_lt' (by show _ < 256; omega)];rw [le_enc] at h2
 unfold encN
 rw [h]
 omega
end Nums
/-
  PLAIN NUMBERS: digits of a number; sums of multiples of points. No program is imported.
-/
namespace Nums

def sumD : List Nat → Nat
  | []=>0
  | x :: r=>x + 2 * sumD r
theorem sumD_set : ∀ (d : List Nat) (j v : Nat),j < d.length → sumD (d.set j v) + d[j]! * 2 ^ j = sumD d + v * 2 ^ j
 | [],_,_,h=>by simp at h
 | x :: r,0,v,_=>by
  simp only [List.set_cons_zero,sumD,Nat.pow_zero,Nat.mul_one];have : (x :: r)[0]! = x:=rfl;rw [this]
  omega
 | x :: r,j + 1,v,h=>by
  have ih:=sumD_set r j v (by simpa using h)
  have e : (x :: r)[j + 1]! = r[j]!:=by simp
  rw [e,List.set_cons_succ,sumD,sumD,Nat.pow_succ]
  have e1 : r[j]! * (2 ^ j * 2) = 2 * (r[j]! * 2 ^ j):=by rw [← Nat.mul_assoc,Nat.mul_comm _ 2]
  have e2 : v * (2 ^ j * 2) = 2 * (v * 2 ^ j):=by rw [← Nat.mul_assoc,Nat.mul_comm _ 2]
  rw [e1,e2]
  omega
theorem sumD_zero (n : Nat) : sumD (List.replicate n 0) = 0:=by
 induction n with
 | zero=>rfl
 | succ n ih=>rw [List.replicate_succ,sumD,ih]
theorem sumD_drop {d : List Nat} {j : Nat} (h : j < d.length) : sumD (d.drop j) = d[j]! + 2 * sumD (d.drop (j + 1)):=by
 rw [List.drop_eq_getElem_cons h,sumD,getElem!_pos d j h]

structure DG (N i : Nat) (f : Int) (d : List Nat) : Prop where
  len : d.length = 256
  sum : sumD d = N % 2 ^ i
  hi : ∀ j,i ≤ j → j < 256 → d[j]! = 0
  odd : ∀ j,j < 256 → d[j]! = 0 ∨ (d[j]! % 2 = 1 ∧ d[j]! < 16)
  last : f = -4 ∨ ∃ m : Nat,f = m ∧ m < i ∧ d[m]! < 2 ^ (i - m) ∧ d[m]! % 2 = 1
theorem rep_at (n j : Nat) (h : j < n) : (List.replicate n 0)[j]! = 0:=by
 rw [getElem!_pos _ j (by simpa using h)]
 simp
theorem DG.start (N : Nat) : DG N 0 (-4) (List.replicate 256 0) where
 len:=List.length_replicate
 sum:=by rw [sumD_zero,Nat.pow_zero,Nat.mod_one]
 hi:=fun j _ h=>rep_at 256 j h
 odd:=fun j h=>.inl (rep_at 256 j h)
 last:=.inl rfl
theorem mod_bitN (N i : Nat) : N % 2 ^ (i + 1) = N % 2 ^ i + N / 2 ^ i % 2 * 2 ^ i:=by
 rw [Nat.pow_succ,Nat.mod_mul,Nat.mul_comm (2 ^ i)]
theorem DG.zero {N i : Nat} {f : Int} {d : List Nat} (h : DG N i f d) (hb : N / 2 ^ i % 2 = 0) : DG N (i + 1) f d where
 len:=h.len
 sum:=by rw [h.sum,mod_bitN,hb,Nat.zero_mul,Nat.add_zero]
 hi:=fun j hj=>h.hi j (by omega)
 odd:=h.odd
 last:=h.last.imp id fun ⟨m,h1,h2,h3,h4⟩=>⟨m,h1,by omega,Nat.lt_of_lt_of_le h3 (Nat.pow_le_pow_right (by decide) (by omega)),h4⟩
theorem set_at {d : List Nat} {j v : Nat} (h : j < d.length) : (d.set j v)[j]! = v:=by
 rw [getElem!_pos _ j (by simpa using h)]
 simp
theorem set_ne {d : List Nat} {j k v : Nat} (h : j ≠ k) : (d.set j v)[k]! = d[k]!:=by
 simp only [List.getElem!_eq_getElem?_getD,List.getElem?_set_ne h]
theorem DG.fresh {N i : Nat} {f : Int} {d : List Nat} (h : DG N i f d) (hi : i < 256) (hb : N / 2 ^ i % 2 = 1) : DG N (i + 1) i (d.set i 1) where
 len:=by rw [List.length_set,h.len]
 sum:=by
  have h1:=sumD_set d i 1 (by rw [h.len]; exact hi);rw [h.hi i (Nat.le_refl _) hi,h.sum] at h1;rw [mod_bitN,hb]
  omega
 hi:=fun j hj hj2=>by rw [set_ne (by omega)]; exact h.hi j (by omega) hj2
 odd:=fun j hj=>by
  by_cases e : i = j
  ·subst e
   rw [set_at (by rw [h.len]; exact hi)];exact .inr ⟨by decide,by decide⟩
  ·rw [set_ne e]
   exact h.odd j hj
 last:=.inr ⟨i,rfl,by omega,by rw [set_at (by rw [h.len]; exact hi),show i + 1 - i = 1 from by omega]; decide,by rw [set_at (by rw [h.len]; exact hi)]⟩
theorem DG.more {N i m : Nat} {d : List Nat} (h : DG N i m d) (hi : i < 256) (hb : N / 2 ^ i % 2 = 1) (hm : i < m + 4) : m < i ∧ d[m]! < 2 ^ (i - m) ∧ DG N (i + 1) m (d.set m (d[m]! + 2 ^ (i - m))):=by
 obtain ⟨m',h1,h2,h3,h4⟩ : ∃ m' : Nat,(m : Int) = m' ∧ m' < i ∧ d[m']! < 2 ^ (i - m') ∧ d[m']! % 2 = 1:=by
  rcases h.last with h1 | h1
  ·omega
  ·exact h1
 obtain rfl : m = m':=by omega
 have hml : m < d.length:=by rw [h.len]; omega
 have hpe : 2 ^ (i + 1 - m) = 2 ^ (i - m) * 2:=by rw [show i + 1 - m = i - m + 1 from by omega,Nat.pow_succ]
 have hk : i - m = 1 ∨ i - m = 2 ∨ i - m = 3:=by omega
 have hpow : 2 ^ (i - m) * 2 ≤ 16 ∧ 2 ^ (i - m) % 2 = 0:=by rcases hk with e | e | e <;> rw [e] <;> decide
 refine ⟨h2,h3,⟨by rw [List.length_set,h.len],?_,fun j hj hj2=>?_,fun j hj=>?_,.inr ⟨m,rfl,by omega,?_,?_⟩⟩⟩
 ·have e1:=sumD_set d m (d[m]! + 2 ^ (i - m)) hml
  have e2 : 2 ^ (i - m) * 2 ^ m = 2 ^ i:=by rw [← Nat.pow_add]; congr 1; omega
  rw [Nat.add_mul,e2,h.sum] at e1;rw [mod_bitN,hb]
  omega
 ·rw [set_ne (by omega)]
  exact h.hi j (by omega) hj2
 ·by_cases e : m = j
  ·subst e
   rw [set_at hml];exact .inr ⟨by omega,by omega⟩
  ·rw [set_ne e]
   exact h.odd j hj
 ·rw [set_at hml,hpe]
  omega
 ·rw [set_at hml]
  omega

/-! ### Sums of multiples -/
namespace Ed
variable {n : Nat} [NeZero n] {d : Fin n}
def tot (d : Fin n) : List (Pt n) → Nat → (Nat → Nat) → Pt n
  | [],_,_=>zero
  | A :: ps,i,f=>add d (mul d (f i) A) (tot d ps (i + 1) f)
theorem on_tot (g : Good n d) : ∀ {ps : List (Pt n)},(∀ A ∈ ps,On d A) → ∀ i f,On d (tot d ps i f)
 | [],_,_,_=>on_zero
 | A :: ps,h,i,f=>on_add g (on_mul g (h A (by simp)) _) (on_tot g (fun B hB=>h B (by simp [hB])) (i + 1) f)
theorem tot_congr : ∀ {ps : List (Pt n)} {i : Nat} {f f' : Nat → Nat},(∀ j,i ≤ j → j < i + ps.length → f j = f' j) → tot d ps i f = tot d ps i f'
 | [],_,_,_,_=>rfl
 | A :: ps,i,f,f',h=>by
  rw [tot,tot,h i (Nat.le_refl _) (by simp),tot_congr (i:=i + 1) (f:=f) (f':=f') fun j h1 h2=>h j (by omega) (by simp; omega)]
theorem tot_zero (g : Good n d) : ∀ {ps : List (Pt n)} {i : Nat} {f : Nat → Nat},(∀ j,i ≤ j → j < i + ps.length → f j = 0) → tot d ps i f = zero
 | [],_,_,_=>rfl
 | A :: ps,i,f,h=>by
  rw [tot,h i (Nat.le_refl _) (by simp),mul_0,zero_add g,tot_zero g fun j h1 h2=>h j (by omega) (by simp; omega)]
theorem tot_dbl (g : Good n d) : ∀ {ps : List (Pt n)},(∀ A ∈ ps,On d A) → ∀ (i : Nat) (f : Nat → Nat),tot d ps i (fun j=>2 * f j) = add d (tot d ps i f) (tot d ps i f)
 | [],_,_,_=>(zero_add g zero).symm
 | A :: ps,h,i,f=>by
  have hA:=h A (by simp);have hs : ∀ B ∈ ps,On d B:=fun B hB=>h B (by simp [hB]);rw [tot,tot,tot_dbl g hs (i + 1) f,Nat.two_mul,mul_add g hA,add_swap g (on_mul g hA _) (on_mul g hA _) (on_tot g hs _ _) (on_tot g hs _ _)]
theorem tot_more (g : Good n d) : ∀ {ps : List (Pt n)},(∀ A ∈ ps,On d A) → ∀ (i j v : Nat) (f f' : Nat → Nat) (A : Pt n),ps[j]? = some A → f' (i + j) = f (i + j) + v → (∀ k,k ≠ i + j → f' k = f k) →
  tot d ps i f' = add d (tot d ps i f) (mul d v A)
 | [],_,_,_,_,_,_,A,hj,_,_=>by simp at hj
 | B :: ps,h,i,0,v,f,f',A,hj,h1,h2=>by
  simp only [List.getElem?_cons_zero,Option.some.injEq] at hj;subst hj;have hB:=h B (by simp);have hs : ∀ B ∈ ps,On d B:=fun B hB=>h B (by simp [hB]);rw [tot,tot,tot_congr (ps:=ps) (i:=i + 1) (f:=f') (f':=f) fun k h3 _=>h2 k (by omega)];rw [Nat.add_zero] at h1;rw [h1,mul_add g hB,add_assoc g (on_mul g hB _) (on_mul g hB _) (on_tot g hs _ _),add_assoc g (on_mul g hB _) (on_tot g hs _ _) (on_mul g hB _),add_comm (mul d v B)]
 | B :: ps,h,i,j + 1,v,f,f',A,hj,h1,h2=>by
  have hB:=h B (by simp);have hs : ∀ B ∈ ps,On d B:=fun B hB=>h B (by simp [hB]);have hA : On d A:=hs A (List.mem_of_getElem? (by simpa using hj))
  rw [tot,tot,tot_more g hs (i + 1) j v f f' A (by simpa using hj) (by rw [Nat.add_right_comm,Nat.add_assoc]; exact h1) (fun k hk=>h2 k (by omega)),h2 i (by omega),
   add_assoc g (on_mul g hB _) (on_tot g hs _ _) (on_mul g hA _)]
end Ed
end Nums
/-
  WORDS OF 64 BITS: the library's Mul64 and Add64.
-/
namespace Go.Proofs.YtlcbhbahchiofaaDoor
open Go.RowKit Go.IntWalk

set_option maxHeartbeats 1000000 in
theorem mul64_any (x y : Nat) (hx : x < 18446744073709551616) (hy : y < 18446744073709551616) (w : World) :
  Calls Tryd.prog 74 #[.int .u64 x,.int .u64 y] w fun e w'=>e = .returned (.tuple #[.int .u64 ((x * y / 18446744073709551616 : Nat) : Int),.int .u64 ((x * y % 18446744073709551616 : Nat) : Int)]) ∧ w' = w:=by
 obtain ⟨bd,bt,bw,hhi⟩:=Lib.mul64_hi x y hx hy;have ba:=Lib.half_mul_le (a:=x / 4294967296) (b:=y / 4294967296) (by omega) (by omega);have bb:=Lib.half_mul_le (a:=x / 4294967296) (b:=y % 4294967296) (by omega) (by omega);have bc:=Lib.half_mul_le (a:=x % 4294967296) (b:=y / 4294967296) (by omega) (by omega)
 have ba' : x / 4294967296 * (y / 4294967296) < 18446744073709551616:=by omega
 have bb' : x / 4294967296 * (y % 4294967296) < 18446744073709551616:=by omega
 have bc' : x % 4294967296 * (y / 4294967296) < 18446744073709551616:=by omega
 have bh1 : x / 4294967296 * (y / 4294967296) + (x / 4294967296 * (y % 4294967296) + x % 4294967296 * (y % 4294967296) / 4294967296) / 4294967296 < 18446744073709551616:=by omega
 have bh : x / 4294967296 * (y / 4294967296) + (x / 4294967296 * (y % 4294967296) + x % 4294967296 * (y % 4294967296) / 4294967296) / 4294967296 + ((x / 4294967296 * (y % 4294967296) + x % 4294967296 * (y % 4294967296) / 4294967296) % 4294967296 + x % 4294967296 * (y / 4294967296)) / 4294967296 < 18446744073709551616:=by omega
 go_enter Tryd.func74,Tryd.ntmps74
 go_wp2
 simp only [mask32 x hx,mask32 y hy,div32,mulN,addN,wrapN _ bd,wrapN _ bb',wrapN _ bt,mask32 _ bt,wrapN _ bc',wrapN _ bw,wrapN _ ba',wrapN _ bh1,wrapN _ bh,wrapM (x * y)];rw [hhi]
 go_ret2
 exact ⟨rfl,rfl⟩

theorem add64_run (x y c : Nat) (hc : c ≤ 1) (w : World) : (callFunc 73 #[.int .u64 x,.int .u64 y,.int .u64 c]).run Tryd.prog w =
  .ok (.value (.tuple #[.int .u64 (((x + y + c) % 18446744073709551616 : Nat) : Int),.int .u64 (((x + y + c) / 18446744073709551616 : Nat) : Int)])) w:=by
 rw [run_callFunc_extern Tryd.func73 (by kernel_rfl) (by kernel_rfl) (by kernel_rfl) (e:=add64Entry) (by kernel_rfl),run_add64 x y c (by omega) (by omega) (by omega) (by omega)];simp only [Result.andThen]
 congr 5 <;> omega
theorem add64_int (x y c : Int) (hx : 0 ≤ x) (hy : 0 ≤ y) (hc0 : 0 ≤ c) (hc : c ≤ 1) (w : World) : (callFunc 73 #[.int .u64 x,.int .u64 y,.int .u64 c]).run Tryd.prog w =
  .ok (.value (.tuple #[.int .u64 ((x + y + c) % 18446744073709551616),.int .u64 ((x + y + c) / 18446744073709551616)])) w:=by
 obtain ⟨x,rfl⟩:=Int.eq_ofNat_of_zero_le hx;obtain ⟨y,rfl⟩:=Int.eq_ofNat_of_zero_le hy;obtain ⟨c,rfl⟩:=Int.eq_ofNat_of_zero_le hc0;refine (add64_run x y c (by omega) w).trans ?_
 congr 5 <;> omega
theorem add64_int0 (x y : Int) (hx : 0 ≤ x) (hy : 0 ≤ y) (w : World) : (callFunc 73 #[.int .u64 x,.int .u64 y,.int .u64 0]).run Tryd.prog w =
  .ok (.value (.tuple #[.int .u64 ((x + y) % 18446744073709551616),.int .u64 ((x + y) / 18446744073709551616)])) w:=by
 simpa using add64_int x y 0 hx hy (Int.le_refl 0) (by decide) w

end Go.Proofs.YtlcbhbahchiofaaDoor
/-
  WORDS OF 64 BITS: the field's sums of two words: low, high, plus.
-/
namespace Go.Proofs.YtlcbhbahchiofaaDoor
open Go.RowKit Go.IntWalk

theorem size_sum (cs : Array Value) (h : cs.size = 2) : (Tryd.prog.info? 138).map (·.size) = some cs.size:=by
 rw [h]
 kernel_rfl

theorem low_any (hi lo : Nat) (hl : lo < 18446744073709551616) (w : World) :
  Calls Tryd.prog 77 #[.agg (Us [hi,lo]).toArray] w fun e w'=>e = .returned (.int .u64 ((lo % 2251799813685248 : Nat) : Int)) ∧ Below w.heap.size w w':=by
 have e0 : (Us [hi,lo]).toArray = #[.int .u64 (hi : Int),.int .u64 (lo : Int)]:=rfl;rw [e0]
 go_enter Tryd.func77,Tryd.ntmps77
 go_wp2
 rw [maskW lo hl]
 go_ret
 exact ⟨rfl,(Below.refl _ _).alloc (Nat.le_refl _) _⟩

theorem high_any (hi lo : Nat) (hh : hi < 2251799813685248) (hl : lo < 18446744073709551616) (w : World) :
  Calls Tryd.prog 78 #[.agg (Us [hi,lo]).toArray] w fun e w'=>e = .returned (.int .u64 ((hi * 8192 + lo / 2251799813685248 : Nat) : Int)) ∧ Below w.heap.size w w':=by
 have e0 : (Us [hi,lo]).toArray = #[.int .u64 (hi : Int),.int .u64 (lo : Int)]:=rfl;rw [e0]
 go_enter Tryd.func78,Tryd.ntmps78
 go_wp2
 have e1 : (hi : Int) * 8192 = ((hi * 8192 : Nat) : Int):=by omega
 rw [e1,div51,orW 13 (hi * 8192) (lo / 2251799813685248) (by omega) (by omega) (by omega) (by omega)]
 go_ret
 exact ⟨rfl,(Below.refl _ _).alloc (Nat.le_refl _) _⟩

set_option maxHeartbeats 1000000 in
theorem plus_any (hi lo a b : Nat) (hh : hi < 18446744073709551616) (hl : lo < 18446744073709551616) (ha : a < 18446744073709551616) (hb : b < 18446744073709551616) (w : World) :
  Calls Tryd.prog 76 #[.agg (Us [hi,lo]).toArray,.int .u64 a,.int .u64 b] w fun e w' =>
   e = .returned (.agg (Us [(hi + a * b / 18446744073709551616 + (lo + a * b % 18446744073709551616) / 18446744073709551616) % 18446744073709551616,(lo + a * b % 18446744073709551616) % 18446744073709551616]).toArray) ∧ Below w.heap.size w w':=by
 have e0 : (Us [hi,lo]).toArray = #[.int .u64 (hi : Int),.int .u64 (lo : Int)]:=rfl;rw [e0];have HM:=fun w1=>Lib.hid (mul64_any a b ha hb w1);generalize a * b / 18446744073709551616 = mh at *;generalize hml : a * b % 18446744073709551616 = ml at *
 have hml : ml < 18446744073709551616:=by omega
 have hc1 : ((lo : Int) + (ml : Int)) / 18446744073709551616 ≤ 1:=by omega
 have hc0 : (0 : Int) ≤ ((lo : Int) + (ml : Int)) / 18446744073709551616:=by omega
 go_enter Tryd.func76,Tryd.ntmps76
 go_wp2_with (fail)
 refine (HM _).out.mono ?_
 rintro e w1 ⟨rfl,rfl⟩
 go_wp2_with (first | simp only [add64_int0 lo ml (by omega) (by omega)] | simp only [add64_int hi mh _ (by omega) (by omega) hc0 hc1])
 refine bodyPost_ret (results_cell_row rfl _ _ (w.heap.size + 1) 138 _ (0,0) _ rfl (heap_alloc2_new w _ _) Tryd.underlying138 rfl (size_sum _ rfl)) rfl ⟨?_,((Below.refl _ _).alloc (Nat.le_refl _) _).alloc (by simp) _⟩
 rfl
end Go.Proofs.YtlcbhbahchiofaaDoor
/-
  PLAIN NUMBERS: five limbs of 51 bits as numbers modulo p: carries, sums, differences, products, the number below p. No program is imported.
-/
namespace Nums

def lv : List Nat → Nat
  | []=>0
  | d :: ds=>d + 2251799813685248 * lv ds

theorem lv5 (a0 a1 a2 a3 a4 : Nat) : lv [a0,a1,a2,a3,a4] = a0 + 2251799813685248 * (a1 + 2251799813685248 * (a2 + 2251799813685248 * (a3 + 2251799813685248 * a4))):=by
 simp only [lv,Nat.mul_zero,Nat.add_zero]

structure EB (l : List Nat) (x : F) : Prop where
  len : l.length = 5
  bnd : ∀ y ∈ l,y < 2251799813947392
  val : fof (lv l) = x

theorem five {l : List Nat} (h : l.length = 5) : ∃ a0 a1 a2 a3 a4,l = [a0,a1,a2,a3,a4]:=by
 match l,h with
 | [a0,a1,a2,a3,a4],_=>exact ⟨a0,a1,a2,a3,a4,rfl⟩

theorem EB.five {l : List Nat} {x : F} (h : EB l x) : ∃ a0 a1 a2 a3 a4,l = [a0,a1,a2,a3,a4] ∧ a0 < 2251799813947392 ∧ a1 < 2251799813947392 ∧ a2 < 2251799813947392 ∧ a3 < 2251799813947392 ∧ a4 < 2251799813947392 ∧ fof (lv [a0,a1,a2,a3,a4]) = x:=by
 obtain ⟨a0,a1,a2,a3,a4,rfl⟩:=Nums.five h.len;have hb:=h.bnd;exact ⟨a0,a1,a2,a3,a4,rfl,hb _ (by simp),hb _ (by simp),hb _ (by simp),hb _ (by simp),hb _ (by simp),h.val⟩

theorem EB.mk5 {a0 a1 a2 a3 a4 : Nat} {x : F} (h0 : a0 < 2251799813947392) (h1 : a1 < 2251799813947392) (h2 : a2 < 2251799813947392) (h3 : a3 < 2251799813947392) (h4 : a4 < 2251799813947392) (h : fof (lv [a0,a1,a2,a3,a4]) = x) :
  EB [a0,a1,a2,a3,a4] x:=by
 refine ⟨rfl,?_,h⟩
 intro y hy
 simp only [List.mem_cons,List.not_mem_nil,or_false] at hy
 rcases hy with rfl | rfl | rfl | rfl | rfl <;> assumption

theorem p_eq : p = 57896044618658097711785492504343953926634992332820282019728792003956564819949:=by decide

def crd (a0 a1 a2 a3 a4 : Nat) : List Nat :=
  [a0 % 2251799813685248 + 19 * (a4 / 2251799813685248),a1 % 2251799813685248 + a0 / 2251799813685248,a2 % 2251799813685248 + a1 / 2251799813685248,a3 % 2251799813685248 + a2 / 2251799813685248,a4 % 2251799813685248 + a3 / 2251799813685248]

theorem fof_p (a k : Nat) : fof (a + p * k) = fof a:=fof_eq (by rw [Nat.add_mul_mod_self_left])

theorem crd_lv (a0 a1 a2 a3 a4 : Nat) : fof (lv (crd a0 a1 a2 a3 a4)) = fof (lv [a0,a1,a2,a3,a4]):=by
 have h : lv (crd a0 a1 a2 a3 a4) + p * (a4 / 2251799813685248) = lv [a0,a1,a2,a3,a4]:=by
  unfold crd
  rw [lv5,lv5,p_eq]
  omega
 rw [← h,fof_p]

theorem crd_eb {a0 a1 a2 a3 a4 : Nat} (h0 : a0 < 18446744073709551616) (h1 : a1 < 18446744073709551616) (h2 : a2 < 18446744073709551616) (h3 : a3 < 18446744073709551616) (h4 : a4 < 18446744073709551616) :
  EB (crd a0 a1 a2 a3 a4) (fof (lv [a0,a1,a2,a3,a4])) :=
 EB.mk5 (by omega) (by omega) (by omega) (by omega) (by omega) (crd_lv a0 a1 a2 a3 a4)

theorem add_lv (a0 a1 a2 a3 a4 b0 b1 b2 b3 b4 : Nat) : lv [a0 + b0,a1 + b1,a2 + b2,a3 + b3,a4 + b4] = lv [a0,a1,a2,a3,a4] + lv [b0,b1,b2,b3,b4]:=by
 rw [lv5,lv5,lv5]
 omega

theorem sub_lv {a0 a1 a2 a3 a4 b0 b1 b2 b3 b4 : Nat} (h0 : b0 < 2251799813947392) (h1 : b1 < 2251799813947392) (h2 : b2 < 2251799813947392) (h3 : b3 < 2251799813947392) (h4 : b4 < 2251799813947392) :
  fof (lv [a0 + (4503599627370458 - b0),a1 + (4503599627370494 - b1),a2 + (4503599627370494 - b2),a3 + (4503599627370494 - b3),a4 + (4503599627370494 - b4)]) = fof (lv [a0,a1,a2,a3,a4]) - fof (lv [b0,b1,b2,b3,b4]):=by
 have h : lv [a0 + (4503599627370458 - b0),a1 + (4503599627370494 - b1),a2 + (4503599627370494 - b2),a3 + (4503599627370494 - b3),a4 + (4503599627370494 - b4)] + lv [b0,b1,b2,b3,b4] = lv [a0,a1,a2,a3,a4] + p * 2:=by
  rw [lv5,lv5,lv5,p_eq]
  omega
 have h2 : fof (lv [a0,a1,a2,a3,a4]) = fof (lv [a0 + (4503599627370458 - b0),a1 + (4503599627370494 - b1),a2 + (4503599627370494 - b2),a3 + (4503599627370494 - b3),a4 + (4503599627370494 - b4)]) + fof (lv [b0,b1,b2,b3,b4]):=by
  rw [← fof_add,h,fof_p]
 rw [h2];generalize fof (lv [a0 + (4503599627370458 - b0),a1 + (4503599627370494 - b1),a2 + (4503599627370494 - b2),a3 + (4503599627370494 - b3),a4 + (4503599627370494 - b4)]) = u;generalize fof (lv [b0,b1,b2,b3,b4]) = v
 grind only

theorem turn_lv (c0 c1 c2 c3 c4 : Nat) : fof (lv [19 * c4,c0,c1,c2,c3]) = fof 2251799813685248 * fof (lv [c0,c1,c2,c3,c4]):=by
 have h : lv [19 * c4,c0,c1,c2,c3] + p * c4 = 2251799813685248 * lv [c0,c1,c2,c3,c4]:=by
  rw [lv5,lv5,p_eq]
  omega
 rw [← fof_mul,← h,fof_p]

theorem more_lv (s0 s1 s2 s3 s4 v c0 c1 c2 c3 c4 : Nat) : lv [s0 + v * c0,s1 + v * c1,s2 + v * c2,s3 + v * c3,s4 + v * c4] = lv [s0,s1,s2,s3,s4] + v * lv [c0,c1,c2,c3,c4]:=by
 rw [lv5,lv5,lv5]
 grind only

/-! ### The number below p -/
def up1 (l : List Nat) (u : Nat) : Nat → Nat
  | 0=>u
  | k + 1=>(l[k]! + up1 l u k) / 2251799813685248

def up2 (l : List Nat) (u : Nat) : Nat → Nat
  | 0=>u
  | k + 1=>(up2 l u k + l[k]!) / 2251799813685248

def whs (l : List Nat) (u k : Nat) : List Nat:=(List.range 5).map fun j=>if j < k then (up2 l u j + l[j]!) % 2251799813685248 else l[j]!
def whole (l : List Nat) : List Nat:=whs l (up1 l 19 5 * 19) 5

theorem whole_all {l : List Nat} {x : F} (h : EB l x) : (whole l).length = 5 ∧ (∀ y ∈ whole l,y < 2251799813685248) ∧ lv (whole l) = x.val:=by
 refine ⟨by simp [whole,whs],?_,?_⟩
 ·intro y hy
  obtain ⟨j,hj,rfl⟩:=List.mem_map.1 hy;rw [if_pos (by simpa using hj)];exact Nat.mod_lt _ (by decide)
 ·obtain ⟨a0,a1,a2,a3,a4,rfl,h0,h1,h2,h3,h4,hv⟩:=h.five
  have hw : whole [a0,a1,a2,a3,a4] = [(up2 [a0,a1,a2,a3,a4] (up1 [a0,a1,a2,a3,a4] 19 5 * 19) 0 + a0) % 2251799813685248,(up2 [a0,a1,a2,a3,a4] (up1 [a0,a1,a2,a3,a4] 19 5 * 19) 1 + a1) % 2251799813685248,(up2 [a0,a1,a2,a3,a4] (up1 [a0,a1,a2,a3,a4] 19 5 * 19) 2 + a2) % 2251799813685248,(up2 [a0,a1,a2,a3,a4] (up1 [a0,a1,a2,a3,a4] 19 5 * 19) 3 + a3) % 2251799813685248,(up2 [a0,a1,a2,a3,a4] (up1 [a0,a1,a2,a3,a4] 19 5 * 19) 4 + a4) % 2251799813685248]:=rfl;have hu : up1 [a0,a1,a2,a3,a4] 19 5 = (a4 + (a3 + (a2 + (a1 + (a0 + 19) / 2251799813685248) / 2251799813685248) / 2251799813685248) / 2251799813685248) / 2251799813685248:=rfl;rw [← hv,fof_val,hw];generalize hq : up1 [a0,a1,a2,a3,a4] 19 5 = q at *;have g0 : up2 [a0,a1,a2,a3,a4] (q * 19) 0 = q * 19:=rfl;have g1 : up2 [a0,a1,a2,a3,a4] (q * 19) 1 = (up2 [a0,a1,a2,a3,a4] (q * 19) 0 + a0) / 2251799813685248:=rfl;have g2 : up2 [a0,a1,a2,a3,a4] (q * 19) 2 = (up2 [a0,a1,a2,a3,a4] (q * 19) 1 + a1) / 2251799813685248:=rfl;have g3 : up2 [a0,a1,a2,a3,a4] (q * 19) 3 = (up2 [a0,a1,a2,a3,a4] (q * 19) 2 + a2) / 2251799813685248:=rfl;have g4 : up2 [a0,a1,a2,a3,a4] (q * 19) 4 = (up2 [a0,a1,a2,a3,a4] (q * 19) 3 + a3) / 2251799813685248:=rfl;generalize up2 [a0,a1,a2,a3,a4] (q * 19) 0 = e0 at *;generalize up2 [a0,a1,a2,a3,a4] (q * 19) 1 = e1 at *;generalize up2 [a0,a1,a2,a3,a4] (q * 19) 2 = e2 at *;generalize up2 [a0,a1,a2,a3,a4] (q * 19) 3 = e3 at *;generalize up2 [a0,a1,a2,a3,a4] (q * 19) 4 = e4 at *;have hL:=lv5 a0 a1 a2 a3 a4;generalize lv [a0,a1,a2,a3,a4] = L at *;rw [lv5];have hp:=p_eq;generalize p = P at *
  have ha : q < 2:=by omega
  have hb : q = 0 → L < P:=by omega
  have hc : q = 1 → P ≤ L:=by omega
  have hd : L < 2 * P:=by omega
  rcases (show q = 0 ∨ q = 1 by omega) with rfl | rfl
  ·rw [Nat.mod_eq_of_lt (hb rfl)]
   clear hu hc hd hv;have:=hb rfl
   omega
  ·have hge:=hc rfl
   have hm : L % P = L - P:=by rw [Nat.mod_eq_sub_mod hge,Nat.mod_eq_of_lt (by omega)]
   rw [hm];clear hu hb hv hm
   omega

end Nums
/-
  THE FIELD'S NUMBERS: carried, Add, Sub, Small.
-/
namespace Go.Proofs.YtlcbhbahchiofaaDoor
open Go.RowKit Go.IntWalk Nums

theorem size_el (cs : Array Value) (h : cs.size = 5) : (Tryd.prog.info? 90).map (·.size) = some cs.size:=by
 rw [h]
 kernel_rfl
def z5 : Array Value:=(Us [0,0,0,0,0]).toArray
theorem len_us {l : List Nat} (h : l.length = 5) : (Us l).toArray.size = 5:=by rw [List.size_toArray,Us_len,h]

theorem crd_cell0 (a c : Nat) (ha : a < 18446744073709551616) (hc : c < 18446744073709551616) :
  IntKind.u64.wrap (bits .and .u64 (a : Int) 2251799813685247 + 19 * ((c : Int) / 2251799813685248)) = ((a % 2251799813685248 + 19 * (c / 2251799813685248) : Nat) : Int):=by
 rw [maskW a ha,IntKind.wrap_u64]
 omega
theorem crd_cell (a c : Nat) (ha : a < 18446744073709551616) (hc : c < 18446744073709551616) :
  IntKind.u64.wrap (bits .and .u64 (a : Int) 2251799813685247 + (c : Int) / 2251799813685248) = ((a % 2251799813685248 + c / 2251799813685248 : Nat) : Int):=by
 rw [maskW a ha,IntKind.wrap_u64]
 omega

set_option maxRecDepth 100000 in
set_option maxHeartbeats 1000000 in
theorem carried_f (a0 a1 a2 a3 a4 : Nat) (h0 : a0 < 18446744073709551616) (h1 : a1 < 18446744073709551616) (h2 : a2 < 18446744073709551616) (h3 : a3 < 18446744073709551616) (h4 : a4 < 18446744073709551616) (w : World) :
  Calls Tryd.prog 79 #[.agg (Us [a0,a1,a2,a3,a4]).toArray] w fun e w'=>e = .returned (.agg (Us (crd a0 a1 a2 a3 a4)).toArray) ∧ Below w.heap.size w w':=by
 have e0 : (Us [a0,a1,a2,a3,a4]).toArray = #[.int .u64 (a0 : Int),.int .u64 (a1 : Int),.int .u64 (a2 : Int),.int .u64 (a3 : Int),.int .u64 (a4 : Int)]:=rfl;rw [e0]
 go_enter Tryd.func79,Tryd.ntmps79
 go_wp2
 rw [crd_cell0 a0 a4 h0 h4,crd_cell a1 a0 h1 h0,crd_cell a2 a1 h2 h1,crd_cell a3 a2 h3 h2,crd_cell a4 a3 h4 h3];refine bodyPost_ret (results_cell_row rfl _ _ (w.heap.size + 1) 90 _ (0,0) _ rfl (blk3_1 w _ _ _ _) Tryd.underlying90 rfl (size_el _ rfl)) rfl ⟨rfl,?_⟩;exact (((Below.refl _ _).alloc (Nat.le_refl _) _).alloc (by simp) _).alloc (by simp; omega) _

/-! ### Rows whose first k words have turned -/
def mx (f : Nat → Nat) (l : List Nat) (k : Nat) : List Nat:=(List.range 5).map fun j=>if j < k then f j else l[j]!
theorem mx_len (f : Nat → Nat) (l : List Nat) (k : Nat) : (mx f l k).length = 5:=by simp [mx]
theorem mx_zero (f : Nat → Nat) {l : List Nat} (h : l.length = 5) : mx f l 0 = l:=by
 obtain ⟨a0,a1,a2,a3,a4,rfl⟩:=five h
 rfl
theorem mx_get (f : Nat → Nat) (l : List Nat) {k : Nat} (h : k < 5) : (mx f l k)[k]! = l[k]!:=by
 rw [getElem!_pos _ k (by rw [mx_len]; exact h)]
 simp [mx]
theorem mx_set (f : Nat → Nat) (l : List Nat) {k : Nat} : (mx f l k).set k (f k) = mx f l (k + 1):=by
 apply List.ext_getElem (by simp [mx])
 intro j h1 h2
 rw [List.getElem_set];simp only [mx,List.getElem_map,List.getElem_range]
 by_cases hjk : k = j
 ·subst hjk
  simp
 ·rw [if_neg hjk]
  by_cases hlt : j < k
  ·rw [if_pos hlt,if_pos (by omega)]
  ·rw [if_neg hlt,if_neg (by omega)]

theorem eb_get {l : List Nat} {x : F} (h : EB l x) {k : Nat} (hk : k < 5) : l[k]! < 2251799813947392 :=
 h.bnd _ (by rw [getElem!_pos l k (by rw [h.len]; exact hk)]; exact List.getElem_mem _)

set_option maxRecDepth 100000 in
set_option maxHeartbeats 1000000 in
theorem eladd_f {a b : List Nat} {x y : F} (ha : EB a x) (hb : EB b y) (w : World) :
  Calls Tryd.prog 59 #[.agg (Us a).toArray,.agg (Us b).toArray] w fun e w'=>∃ r,EB r (x + y) ∧ e = .returned (.agg (Us r).toArray) ∧ Below w.heap.size w w':=by
 go_enter Tryd.func59,Tryd.ntmps59
 go_wp2
 go_loopw [6] (fun i wr=>∃ k : Nat,k ≤ 5 ∧ i = .int .i64 k ∧ Blk wr w.heap.size 90 (Us (mx (fun j=>a[j]! + b[j]!) a k)).toArray ∧ Blk wr (w.heap.size + 1) 90 (Us b).toArray ∧ Blk wr (w.heap.size + 1 + 1) 90 z5 ∧ Below w.heap.size w wr) (fun i _=>5 - (intOf i).toNat)
 case atStart =>
  refine ⟨0,by omega,rfl,?_,blk3_1 w _ _ _ _,blk3_2 w _ _ _ _,(((Below.refl _ _).alloc (Nat.le_refl _) _).alloc (by simp) _).alloc (by simp; omega) _⟩;rw [mx_zero _ ha.len];exact blk3_0 w _ _ _ _
 case round =>
  obtain ⟨k,hk,rfl,h0,h1,h2,hbel⟩:=hrel
  by_cases hlt : k < 5
  ·have hN:=mx_set (fun j=>a[j]! + b[j]!) a (k:=k)
   have hg:=mx_get (fun j=>a[j]! + b[j]!) a hlt;have c0:=(h0.drew.cell k).trans (Us_at (by rw [mx_len]; exact hlt));rw [hg] at c0;have c1:=(h1.drew.cell k).trans (Us_at (by rw [hb.len]; exact hlt));have b0:=eb_get ha hlt;have b1:=eb_get hb hlt;have hf:=h0.drew.free k;generalize a[k]! = u at *;generalize b[k]! = v at *
   have q1 : IntKind.u64.wrap ((u : Int) + (v : Int)) = ((u + v : Nat) : Int):=by rw [IntKind.wrap_u64]; omega
   have q2 : (0 : Int) ≤ (k : Int):=by omega
   have HK:=Lib.hid (And.intro h0 (And.intro h1 (And.intro h2 (And.intro hbel hN))));clear h0 h1 h2 hbel hN hg
   go_wp2
   go_still_tail 11,(by kernel_rfl)
   go_wp2
   go_roundw
   case rel =>
    obtain ⟨h0,h1,h2,hbel,hN⟩:=HK.out;have h4:=h0.set k (.int .u64 ((u + v : Nat) : Int));rw [Us_set,hN] at h4;exact ⟨k + 1,by omega,by go_num,h4,h1.far (by simp) _,h2.far (by simp; omega) _,(hbel.setCell (by simp) _).drew⟩
   case measure=>simp [intOf]; omega
  ·obtain rfl : k = 5:=by omega
   obtain ⟨a0,a1,a2,a3,a4,rfl,p0,p1,p2,p3,p4,pv⟩:=ha.five;obtain ⟨b0,b1,b2,b3,b4,rfl,r0,r1,r2,r3,r4,rv⟩:=hb.five;have e5 : mx (fun j=>[a0,a1,a2,a3,a4][j]! + [b0,b1,b2,b3,b4][j]!) [a0,a1,a2,a3,a4] 5 = [a0 + b0,a1 + b1,a2 + b2,a3 + b3,a4 + b4]:=rfl;rw [e5] at h0;have HC:=fun w1=>Lib.hid (carried_f (a0 + b0) (a1 + b1) (a2 + b2) (a3 + b3) (a4 + b4) (by omega) (by omega) (by omega) (by omega) (by omega) w1);have hE:=crd_eb (a0:=a0 + b0) (a1:=a1 + b1) (a2:=a2 + b2) (a3:=a3 + b3) (a4:=a4 + b4) (by omega) (by omega) (by omega) (by omega) (by omega);rw [add_lv,fof_add,pv,rv] at hE;generalize crd (a0 + b0) (a1 + b1) (a2 + b2) (a3 + b3) (a4 + b4) = r at *;have hz : (Us [a0 + b0,a1 + b1,a2 + b2,a3 + b3,a4 + b4]).toArray.size = 5:=rfl;generalize (Us [a0 + b0,a1 + b1,a2 + b2,a3 + b3,a4 + b4]).toArray = cs at *;have HK:=Lib.hid (And.intro h2 hbel);clear h1 h2 hbel ha hb p0 p1 p2 p3 p4 pv r0 r1 r2 r3 r4 rv e5;have hzr:=len_us hE.len
   go_wp2_with (refine wpList_load_row rfl 90 _ rfl w.heap.size rfl 90 cs (0,0) _ h0 Tryd.underlying90 rfl (size_el _ hz) ?_)
   refine (HC _).out.mono ?_
   rintro e w1 ⟨rfl,hw1⟩
   obtain ⟨h2,hbel⟩:=HK.out;have hb2:=hbel.trans (hw1.mono hbel.size);have h4:=h2.below hw1 h2.lt
   go_wp2_with (refine wpList_store_row rfl 90 _ _ rfl (w.heap.size + 1 + 1) rfl (Us r).toArray rfl 90 _ h4 (size_el _ hzr) (by rw [hzr]; rfl) (Us_one _) ?_)
   refine bodyPost_ret (results_cell_row rfl _ _ (w.heap.size + 1 + 1) 90 (Us r).toArray (0,0) _ rfl (h4.row _) Tryd.underlying90 rfl (size_el _ hzr)) rfl ⟨r,hE,rfl,?_⟩;exact below_setRow hb2 (by omega) _
end Go.Proofs.YtlcbhbahchiofaaDoor
/-
  THE FIELD'S NUMBERS: Sub, which reads the table of 2p; Small.
-/
namespace Go.Proofs.YtlcbhbahchiofaaDoor
open Go.RowKit Go.IntWalk Nums

def twl : List Nat:=[4503599627370458,4503599627370494,4503599627370494,4503599627370494,4503599627370494]
theorem twl_get {k : Nat} (h : k < 5) : 4503599627370458 ≤ twl[k]! ∧ twl[k]! ≤ 4503599627370494:=by
 have h5 : k = 0 ∨ k = 1 ∨ k = 2 ∨ k = 3 ∨ k = 4:=by omega
 rcases h5 with rfl | rfl | rfl | rfl | rfl <;> decide

structure Tw (w : World) : Prop where
  cell : ∀ i,i < 5 → w.cell? ⟨1,i,none⟩ = some (.int .u64 (twl[i]! : Nat))
  lt : 1 < w.heap.size
theorem Tw.below {w w' : World}  (h : Tw w) (hb : Below w.heap.size w w') : Tw w' :=
 ⟨fun i hi=>(hb.cell (p:=⟨1,i,none⟩) h.lt).trans (h.cell i hi),Nat.lt_of_lt_of_le h.lt hb.size⟩
theorem Tw.drew {w : World} (h : Tw w) : Tw w.drew:=⟨h.cell,h.lt⟩
theorem Tw.at {w : World} (h : Tw w) {k : Nat} (hk : k < 5) : w.cell? ⟨1,k,none⟩ = some (.int .u64 (twl[k]! : Nat)):=h.cell k hk

set_option maxRecDepth 100000 in
set_option maxHeartbeats 1000000 in
theorem elsub_f {a b : List Nat} {x y : F} (ha : EB a x) (hb : EB b y) (w : World) (hT : Tw w) :
  Calls Tryd.prog 57 #[.agg (Us a).toArray,.agg (Us b).toArray] w fun e w'=>∃ r,EB r (x - y) ∧ e = .returned (.agg (Us r).toArray) ∧ Below w.heap.size w w':=by
 go_enter Tryd.func57,Tryd.ntmps57
 go_wp2
 go_loopw [6] (fun i wr=>∃ k : Nat,k ≤ 5 ∧ i = .int .i64 k ∧ Blk wr w.heap.size 90 (Us (mx (fun j=>a[j]! + (twl[j]! - b[j]!)) a k)).toArray ∧ Blk wr (w.heap.size + 1) 90 (Us b).toArray ∧ Blk wr (w.heap.size + 1 + 1) 90 z5 ∧ Below w.heap.size w wr) (fun i _=>5 - (intOf i).toNat)
 case atStart =>
  refine ⟨0,by omega,rfl,?_,blk3_1 w _ _ _ _,blk3_2 w _ _ _ _,(((Below.refl _ _).alloc (Nat.le_refl _) _).alloc (by simp) _).alloc (by simp; omega) _⟩;rw [mx_zero _ ha.len];exact blk3_0 w _ _ _ _
 case round =>
  obtain ⟨k,hk,rfl,h0,h1,h2,hbel⟩:=hrel
  by_cases hlt : k < 5
  ·have hN:=mx_set (fun j=>a[j]! + (twl[j]! - b[j]!)) a (k:=k)
   have hg:=mx_get (fun j=>a[j]! + (twl[j]! - b[j]!)) a hlt;have c0:=(h0.drew.cell k).trans (Us_at (by rw [mx_len]; exact hlt));rw [hg] at c0;have c1:=(h1.drew.cell k).trans (Us_at (by rw [hb.len]; exact hlt));have b0:=eb_get ha hlt;have b1:=eb_get hb hlt;have hf:=h0.drew.free k;have c2:=(hT.below hbel).drew.at hlt;have b2:=twl_get hlt;generalize a[k]! = u at *;generalize b[k]! = v at *;generalize twl[k]! = t at *
   have q0 : IntKind.u64.wrap ((t : Int) - (v : Int)) = ((t - v : Nat) : Int):=by rw [IntKind.wrap_u64]; omega
   have q1 : IntKind.u64.wrap ((u : Int) + ((t - v : Nat) : Int)) = ((u + (t - v) : Nat) : Int):=by rw [IntKind.wrap_u64]; omega
   have hle : v ≤ t:=by omega
   have q2 : (0 : Int) ≤ (k : Int):=by omega
   have HK:=Lib.hid (And.intro h0 (And.intro h1 (And.intro h2 (And.intro hbel hN))));clear h0 h1 h2 hbel hN hg
   go_wp2
   go_still_tail 15,(by kernel_rfl)
   go_wp2
   go_roundw
   case rel =>
    obtain ⟨h0,h1,h2,hbel,hN⟩:=HK.out;have h4:=h0.set k (.int .u64 ((u + (t - v) : Nat) : Int));rw [Us_set,hN] at h4;exact ⟨k + 1,by omega,by go_num,h4,h1.far (by simp) _,h2.far (by simp; omega) _,(hbel.setCell (by simp) _).drew⟩
   case measure=>simp [intOf]; omega
  ·obtain rfl : k = 5:=by omega
   obtain ⟨a0,a1,a2,a3,a4,rfl,p0,p1,p2,p3,p4,pv⟩:=ha.five;obtain ⟨b0,b1,b2,b3,b4,rfl,r0,r1,r2,r3,r4,rv⟩:=hb.five;have e5 : mx (fun j=>[a0,a1,a2,a3,a4][j]! + (twl[j]! - [b0,b1,b2,b3,b4][j]!)) [a0,a1,a2,a3,a4] 5 = [a0 + (4503599627370458 - b0),a1 + (4503599627370494 - b1),a2 + (4503599627370494 - b2),a3 + (4503599627370494 - b3),a4 + (4503599627370494 - b4)]:=rfl;rw [e5] at h0;have HC:=fun w1=>Lib.hid (carried_f (a0 + (4503599627370458 - b0)) (a1 + (4503599627370494 - b1)) (a2 + (4503599627370494 - b2)) (a3 + (4503599627370494 - b3)) (a4 + (4503599627370494 - b4)) (by omega) (by omega) (by omega) (by omega) (by omega) w1);have hE:=crd_eb (a0:=a0 + (4503599627370458 - b0)) (a1:=a1 + (4503599627370494 - b1)) (a2:=a2 + (4503599627370494 - b2)) (a3:=a3 + (4503599627370494 - b3)) (a4:=a4 + (4503599627370494 - b4)) (by omega) (by omega) (by omega) (by omega) (by omega);rw [sub_lv r0 r1 r2 r3 r4,pv,rv] at hE;generalize crd (a0 + (4503599627370458 - b0)) (a1 + (4503599627370494 - b1)) (a2 + (4503599627370494 - b2)) (a3 + (4503599627370494 - b3)) (a4 + (4503599627370494 - b4)) = r at *;have hz : (Us [a0 + (4503599627370458 - b0),a1 + (4503599627370494 - b1),a2 + (4503599627370494 - b2),a3 + (4503599627370494 - b3),a4 + (4503599627370494 - b4)]).toArray.size = 5:=rfl;generalize (Us [a0 + (4503599627370458 - b0),a1 + (4503599627370494 - b1),a2 + (4503599627370494 - b2),a3 + (4503599627370494 - b3),a4 + (4503599627370494 - b4)]).toArray = cs at *;have HK:=Lib.hid (And.intro h2 hbel);clear h1 h2 hbel ha hb p0 p1 p2 p3 p4 pv r0 r1 r2 r3 r4 rv e5;have hzr:=len_us hE.len
   go_wp2_with (refine wpList_load_row rfl 90 _ rfl w.heap.size rfl 90 cs (0,0) _ h0 Tryd.underlying90 rfl (size_el _ hz) ?_)
   refine (HC _).out.mono ?_
   rintro e w1 ⟨rfl,hw1⟩
   obtain ⟨h2,hbel⟩:=HK.out;have hb2:=hbel.trans (hw1.mono hbel.size);have h4:=h2.below hw1 h2.lt
   go_wp2_with (refine wpList_store_row rfl 90 _ _ rfl (w.heap.size + 1 + 1) rfl (Us r).toArray rfl 90 _ h4 (size_el _ hzr) (by rw [hzr]; rfl) (Us_one _) ?_)
   refine bodyPost_ret (results_cell_row rfl _ _ (w.heap.size + 1 + 1) 90 (Us r).toArray (0,0) _ rfl (h4.row _) Tryd.underlying90 rfl (size_el _ hzr)) rfl ⟨r,hE,rfl,?_⟩;exact below_setRow hb2 (by omega) _

set_option maxRecDepth 100000 in
theorem small_f (v : Nat) (hv : v < 18446744073709551616) (w : World) :
  Calls Tryd.prog 54 #[.int .u64 v] w fun e w'=>∃ r,EB r (fof v) ∧ e = .returned (.agg (Us r).toArray) ∧ Below w.heap.size w w':=by
 go_enter Tryd.func54,Tryd.ntmps54
 go_wp2
 rw [maskW v hv]
 have hE : EB [v % 2251799813685248,v / 2251799813685248,0,0,0] (fof v):=EB.mk5 (by omega) (by omega) (by omega) (by omega) (by omega) (by
  congr 1
  rw [lv5]
  omega)
 refine bodyPost_ret (results_cell_row rfl _ _ w.heap.size 90 _ (0,0) _ rfl (heap_alloc_new w _) Tryd.underlying90 rfl (size_el _ rfl)) rfl ⟨_,hE,rfl,?_⟩;exact (Below.refl _ _).alloc (Nat.le_refl _) _
end Go.Proofs.YtlcbhbahchiofaaDoor
/-
  THE FIELD'S NUMBERS: whole: the number below p.
-/
namespace Go.Proofs.YtlcbhbahchiofaaDoor
open Go.RowKit Go.IntWalk Nums

theorem whs_eq (l : List Nat) (u k : Nat) : whs l u k = mx (fun j=>(up2 l u j + l[j]!) % 2251799813685248) l k:=rfl
theorem up1_le {l : List Nat} {x : F} (h : EB l x) : ∀ k,k ≤ 5 → up1 l 19 k ≤ 19
 | 0,_=>Nat.le_refl _
 | k + 1,hk=>by
  have h1:=up1_le h k (by omega);have h2:=eb_get h (k:=k) (by omega)
  show (l[k]! + up1 l 19 k) / 2251799813685248 ≤ 19
  omega
theorem up2_le {l : List Nat} {x : F} (h : EB l x) {u : Nat} (hu : u ≤ 361) : ∀ k,k ≤ 5 → up2 l u k ≤ 361
 | 0,_=>hu
 | k + 1,hk=>by
  have h1:=up2_le h hu k (by omega);have h2:=eb_get h (k:=k) (by omega)
  show (up2 l u k + l[k]!) / 2251799813685248 ≤ 361
  omega

set_option maxRecDepth 100000 in
set_option maxHeartbeats 1000000 in
theorem whole_f {a : List Nat} {x : F} (ha : EB a x) (w : World) :
  Calls Tryd.prog 82 #[.agg (Us a).toArray] w fun e w'=>e = .returned (.agg (Us (whole a)).toArray) ∧ Below w.heap.size w w':=by
 have hW : whole a = whs a (up1 a 19 5 * 19) 5:=rfl;rw [hW];clear hW;generalize hq1 : up1 a 19 5 = q;generalize hu0 : q * 19 = u0
 go_enter Tryd.func82,Tryd.ntmps82
 go_wp2
 go_loopw [6,3] (fun i u wr=>∃ k : Nat,k ≤ 5 ∧ i = .int .i64 k ∧ u = .int .u64 (up1 a 19 k : Nat) ∧ Blk wr w.heap.size 90 (Us a).toArray ∧ Blk wr (w.heap.size + 1) 90 z5 ∧ Below w.heap.size w wr) (fun i _ _=>5 - (intOf i).toNat)
 case atStart =>
  exact ⟨0,by omega,rfl,rfl,heap_alloc2_old w _ _,heap_alloc2_new w _ _,((Below.refl _ _).alloc (Nat.le_refl _) _).alloc (by simp) _⟩
 case round =>
  obtain ⟨k,hk,rfl,rfl,h0,h1,hbel⟩:=hrel
  by_cases hlt : k < 5
  ·have hN : up1 a 19 (k + 1) = (a[k]! + up1 a 19 k) / 2251799813685248:=rfl
   have c0:=(h0.cell k).trans (Us_at (by rw [ha.len]; exact hlt));have b0:=eb_get ha hlt;have b1:=up1_le ha k (by omega);generalize a[k]! = u at *;generalize up1 a 19 k = v at *
   have q1 : IntKind.u64.wrap ((u : Int) + (v : Int)) = ((u + v : Nat) : Int):=by rw [IntKind.wrap_u64]; omega
   have q2 : (0 : Int) ≤ (k : Int):=by omega
   have HK:=Lib.hid (And.intro h0 (And.intro h1 (And.intro hbel hN)));clear h0 h1 hbel hN
   go_wp2
   go_roundw
   case rel =>
    obtain ⟨h0,h1,hbel,hN⟩:=HK.out;exact ⟨k + 1,by omega,by go_num,by rw [hN]; congr 1,h0,h1,hbel⟩
   case measure=>simp [intOf]; omega
  ·obtain rfl : k = 5:=by omega
   have b1:=up1_le ha 5 (by omega);rw [hq1] at b1 ⊢
   have hq : u0 ≤ 361:=by omega
   have q1 : IntKind.u64.wrap ((q : Int) * 19) = (u0 : Int):=by rw [IntKind.wrap_u64]; omega
   clear hq1 hu0
   have hW0 : whs a u0 0 = a:=by rw [whs_eq,mx_zero _ ha.len]
   have HK:=Lib.hid (And.intro h0 (And.intro h1 hbel));clear h0 h1 hbel
   go_wp2
   go_loopw [19,3] (fun i u wq=>∃ k : Nat,k ≤ 5 ∧ i = .int .i64 k ∧ u = .int .u64 (up2 a u0 k : Nat) ∧ Blk wq w.heap.size 90 (Us (whs a u0 k)).toArray ∧ Blk wq (w.heap.size + 1) 90 z5 ∧ Below w.heap.size w wq) (fun i _ _=>5 - (intOf i).toNat)
   case atStart =>
    obtain ⟨h0,h1,hbel⟩:=HK.out;exact ⟨0,by omega,rfl,rfl,by rw [hW0]; exact h0,h1,hbel⟩
   case round =>
    obtain ⟨k,hk,rfl,rfl,h0,h1,hbel⟩:=hrel;clear HK
    by_cases hlt : k < 5
    ·have hN : up2 a u0 (k + 1) = (up2 a u0 k + a[k]!) / 2251799813685248:=rfl
     have hS : (whs a u0 k).set k ((up2 a u0 k + a[k]!) % 2251799813685248) = whs a u0 (k + 1):=mx_set (fun j=>(up2 a u0 j + a[j]!) % 2251799813685248) a;have hg : (whs a u0 k)[k]! = a[k]!:=mx_get _ a hlt;have c0:=(h0.cell k).trans (Us_at (by rw [whs_eq,mx_len]; exact hlt));rw [hg] at c0;have hf:=h0.free k;have b0:=eb_get ha hlt;have b1:=up2_le ha hq k (by omega);generalize a[k]! = u at *;generalize up2 a u0 k = v at *
     have q2 : IntKind.u64.wrap ((v : Int) + (u : Int)) = ((v + u : Nat) : Int):=by rw [IntKind.wrap_u64]; omega
     have q3:=maskW (v + u) (by omega)
     have q4 : (0 : Int) ≤ (k : Int):=by omega
     have HK:=Lib.hid (And.intro h0 (And.intro h1 (And.intro hbel (And.intro hN hS))));clear h0 h1 hbel hN hS hg;generalize hs : v + u = s at *
     go_wp2
     go_roundw
     case rel =>
      obtain ⟨h0,h1,hbel,hN,hS⟩:=HK.out;have h4:=h0.set k (.int .u64 ((s % 2251799813685248 : Nat) : Int));rw [Us_set,hS] at h4;exact ⟨k + 1,by omega,by go_num,by rw [hN]; congr 1,h4,h1.far (by simp) _,hbel.setCell (by simp) _⟩
     case measure=>simp [intOf]; omega
    ·obtain rfl : k = 5:=by omega
     have hz : (Us (whs a u0 5)).toArray.size = 5:=len_us (by rw [whs_eq,mx_len])
     go_wp2_with (first
      | (refine wpList_load_row rfl 90 _ rfl w.heap.size rfl 90 (Us (whs a u0 5)).toArray (0,0) _ h0 Tryd.underlying90 rfl (size_el _ hz) ?_)
      | (refine wpList_store_row rfl 90 _ _ rfl (w.heap.size + 1) rfl (Us (whs a u0 5)).toArray rfl 90 _ h1 (size_el _ hz) (by rw [hz]; rfl) (Us_one _) ?_))
     refine bodyPost_ret (results_cell_row rfl _ _ (w.heap.size + 1) 90 (Us (whs a u0 5)).toArray (0,0) _ rfl (h1.row _) Tryd.underlying90 rfl (size_el _ hz)) rfl ⟨rfl,?_⟩;exact below_setRow hbel (by omega) _
end Go.Proofs.YtlcbhbahchiofaaDoor
/-
  THE FIELD'S NUMBERS: Mul's sums.
-/
namespace Go.Proofs.YtlcbhbahchiofaaDoor
open Go.RowKit Go.IntWalk Nums

def W2 (s : Nat) : Array Value:=(Us [s / 18446744073709551616,s % 18446744073709551616]).toArray
theorem W2_size (s : Nat) : (W2 s).size = 2:=rfl
theorem W2_one (s : Nat) : ∀ u ∈ (W2 s).toList,u.oneCell' = true:=Us_one _

theorem plus_f (s a b : Nat) (ha : a < 18446744073709551616) (hb : b < 18446744073709551616) (hs : s + a * b < 340282366920938463463374607431768211456) (w : World) :
  Calls Tryd.prog 76 #[.agg (W2 s),.int .u64 a,.int .u64 b] w fun e w'=>e = .returned (.agg (W2 (s + a * b))) ∧ Below w.heap.size w w':=by
 refine (plus_any (s / 18446744073709551616) (s % 18446744073709551616) a b (by omega) (by omega) ha hb w).mono ?_
 rintro e w' ⟨rfl,hw⟩
 refine ⟨?_,hw⟩
 unfold W2
 generalize a * b = m at *
 have e1 : (s / 18446744073709551616 + m / 18446744073709551616 + (s % 18446744073709551616 + m % 18446744073709551616) / 18446744073709551616) % 18446744073709551616 = (s + m) / 18446744073709551616:=by omega
 have e2 : (s % 18446744073709551616 + m % 18446744073709551616) % 18446744073709551616 = (s + m) % 18446744073709551616:=by omega
 rw [e1,e2]
theorem low_f (s : Nat) (w : World) :
  Calls Tryd.prog 77 #[.agg (W2 s)] w fun e w'=>e = .returned (.int .u64 ((s % 2251799813685248 : Nat) : Int)) ∧ Below w.heap.size w w':=by
 refine (low_any (s / 18446744073709551616) (s % 18446744073709551616) (by omega) w).mono ?_
 rintro e w' ⟨rfl,hw⟩
 refine ⟨?_,hw⟩
 have e1 : s % 18446744073709551616 % 2251799813685248 = s % 2251799813685248:=by omega
 rw [e1]
theorem high_f (s : Nat) (hs : s < 41538374868278621028243970633760768) (w : World) :
  Calls Tryd.prog 78 #[.agg (W2 s)] w fun e w'=>e = .returned (.int .u64 ((s / 2251799813685248 : Nat) : Int)) ∧ Below w.heap.size w w':=by
 refine (high_any (s / 18446744073709551616) (s % 18446744073709551616) (by omega) (by omega) w).mono ?_
 rintro e w' ⟨rfl,hw⟩
 refine ⟨?_,hw⟩
 have e1 : s / 18446744073709551616 * 8192 + s % 18446744073709551616 / 2251799813685248 = s / 2251799813685248:=by omega
 rw [e1]

theorem lv_take : ∀ (l : List Nat) {k : Nat},k < l.length → lv (l.take (k + 1)) = lv (l.take k) + 2251799813685248 ^ k * l[k]!
 | d :: ds,0,_=>by simp [lv]
 | d :: ds,k + 1,h=>by
  have ih:=lv_take ds (k:=k) (by simpa using h)
  show d + 2251799813685248 * lv (ds.take (k + 1)) = d + 2251799813685248 * lv (ds.take k) + 2251799813685248 ^ (k + 1) * ds[k]!
  rw [ih,Nat.pow_succ]
  grind only

structure MM (a : List Nat) (y : F) (k c0 c1 c2 c3 c4 s0 s1 s2 s3 s4 : Nat) : Prop where
  cv : fof (lv [c0,c1,c2,c3,c4]) = fof (2251799813685248 ^ k) * y
  sv : fof (lv [s0,s1,s2,s3,s4]) = fof (lv (a.take k)) * y
  c0b : c0 < 42784196465000448
  c1b : c1 < 42784196465000448
  c2b : c2 < 42784196465000448
  c3b : c3 < 42784196465000448
  c4b : c4 < 42784196465000448
  c0u : k ≤ 0 → c0 < 2251799813947392
  c1u : k ≤ 1 → c1 < 2251799813947392
  c2u : k ≤ 2 → c2 < 2251799813947392
  c3u : k ≤ 3 → c3 < 2251799813947392
  c4u : k ≤ 4 → c4 < 2251799813947392
  s0b : s0 ≤ k * 96341445640026967064998646153216
  s1b : s1 ≤ k * 96341445640026967064998646153216
  s2b : s2 ≤ k * 96341445640026967064998646153216
  s3b : s3 ≤ k * 96341445640026967064998646153216
  s4b : s4 ≤ k * 96341445640026967064998646153216

theorem prod_le {v c : Nat} (hv : v < 2251799813947392) (hc : c < 42784196465000448) : v * c ≤ 96341445640026967064998646153216 :=
 Nat.le_trans (Nat.mul_le_mul (Nat.le_of_lt hv) (Nat.le_of_lt hc)) (by decide)

theorem MM.next {a : List Nat} {x y : F} {k c0 c1 c2 c3 c4 s0 s1 s2 s3 s4 : Nat} (h : MM a y k c0 c1 c2 c3 c4 s0 s1 s2 s3 s4) (ha : EB a x) (hk : k < 5) :
  MM a y (k + 1) (19 * c4) c0 c1 c2 c3 (s0 + a[k]! * c0) (s1 + a[k]! * c1) (s2 + a[k]! * c2) (s3 + a[k]! * c3) (s4 + a[k]! * c4):=by
 obtain ⟨cv,sv,g0,g1,g2,g3,g4,u0,u1,u2,u3,u4,t0,t1,t2,t3,t4⟩:=h;have hv:=eb_get ha hk;have p0:=prod_le hv g0;have p1:=prod_le hv g1;have p2:=prod_le hv g2;have p3:=prod_le hv g3;have p4:=prod_le hv g4
 have hm : (k + 1) * 96341445640026967064998646153216 = k * 96341445640026967064998646153216 + 96341445640026967064998646153216:=by omega
 have:=u4 (by omega);refine ⟨?_,?_,by omega,g0,g1,g2,g3,by omega,by omega,by omega,by omega,by omega,by omega,by omega,by omega,by omega,by omega⟩
 ·rw [turn_lv,cv,Nat.pow_succ,fof_mul]
  generalize fof (2251799813685248 ^ k) = u;generalize fof 2251799813685248 = v
  grind only
 ·rw [more_lv,fof_add,sv,fof_mul,cv,lv_take a (by rw [ha.len]; exact hk),fof_add,fof_mul]
  generalize fof (lv (a.take k)) = u;generalize fof (2251799813685248 ^ k) = v;generalize fof (a[k]!) = z
  grind only

theorem MM.start {a : List Nat} {b0 b1 b2 b3 b4 : Nat} {y : F} (h0 : b0 < 2251799813947392) (h1 : b1 < 2251799813947392) (h2 : b2 < 2251799813947392) (h3 : b3 < 2251799813947392) (h4 : b4 < 2251799813947392) (hb : fof (lv [b0,b1,b2,b3,b4]) = y) :
  MM a y 0 b0 b1 b2 b3 b4 0 0 0 0 0:=by
 refine ⟨?_,?_,by omega,by omega,by omega,by omega,by omega,fun _=>h0,fun _=>h1,fun _=>h2,fun _=>h3,fun _=>h4,by omega,by omega,by omega,by omega,by omega⟩
 ·rw [hb,Nat.pow_zero,fof_one]
  grind only
 ·have e1 : fof (lv [0,0,0,0,0]) = 0:=fof_zero
  have e2 : fof (lv (a.take 0)) = 0:=fof_zero;rw [e1,e2]
  grind only

theorem MM.fin {a : List Nat} {x y : F} {c0 c1 c2 c3 c4 s0 s1 s2 s3 s4 : Nat} (h : MM a y 5 c0 c1 c2 c3 c4 s0 s1 s2 s3 s4) (ha : EB a x) :
  fof (lv (crd s0 s1 s2 s3 s4)) = x * y ∧ s0 < 41538374868278621028243970633760768 ∧ s1 < 41538374868278621028243970633760768 ∧ s2 < 41538374868278621028243970633760768 ∧ s3 < 41538374868278621028243970633760768 ∧ s4 < 41538374868278621028243970633760768 ∧
   s0 / 2251799813685248 < 400000000000000000 ∧ s1 / 2251799813685248 < 400000000000000000 ∧ s2 / 2251799813685248 < 400000000000000000 ∧ s3 / 2251799813685248 < 400000000000000000 ∧ s4 / 2251799813685248 < 400000000000000000:=by
 have e : a.take 5 = a:=List.take_of_length_le (by rw [ha.len]; omega);obtain ⟨cv,sv,g0,g1,g2,g3,g4,u0,u1,u2,u3,u4,t0,t1,t2,t3,t4⟩:=h;rw [e,ha.val] at sv;exact ⟨by rw [crd_lv,sv],by omega,by omega,by omega,by omega,by omega,by omega,by omega,by omega,by omega,by omega⟩

structure MSt (w wr : World) (a : List Nat) (s0 s1 s2 s3 s4 : Nat) : Prop where
  ba : Blk wr w.heap.size 90 (Us a).toArray
  br : Blk wr (w.heap.size + 1 + 1) 90 z5
  k0 : Blk wr (w.heap.size + 1 + 1 + 1) 138 (W2 s0)
  k1 : Blk wr (w.heap.size + 1 + 1 + 1 + 1) 138 (W2 s1)
  k2 : Blk wr (w.heap.size + 1 + 1 + 1 + 1 + 1) 138 (W2 s2)
  k3 : Blk wr (w.heap.size + 1 + 1 + 1 + 1 + 1 + 1) 138 (W2 s3)
  k4 : Blk wr (w.heap.size + 1 + 1 + 1 + 1 + 1 + 1 + 1) 138 (W2 s4)
  be : Below w.heap.size w wr

section
variable {w wr w1 : World} {a : List Nat} {s0 s1 s2 s3 s4 : Nat}
theorem MSt.step (h : MSt w wr a s0 s1 s2 s3 s4) (hw : Below wr.heap.size wr w1) : MSt w w1 a s0 s1 s2 s3 s4 :=
 ⟨h.ba.below hw h.ba.lt,h.br.below hw h.br.lt,h.k0.below hw h.k0.lt,h.k1.below hw h.k1.lt,h.k2.below hw h.k2.lt,h.k3.below hw h.k3.lt,h.k4.below hw h.k4.lt,h.be.trans (hw.mono h.be.size)⟩
theorem MSt.set0 (h : MSt w wr a s0 s1 s2 s3 s4) (s : Nat) : MSt w (wr.setRow (w.heap.size + 1 + 1 + 1) (W2 s)) a s s1 s2 s3 s4 :=
 ⟨h.ba.rowFar (by omega) _,h.br.rowFar (by omega) _,h.k0.row _,h.k1.rowFar (by omega) _,h.k2.rowFar (by omega) _,h.k3.rowFar (by omega) _,h.k4.rowFar (by omega) _,below_setRow h.be (by omega) _⟩
theorem MSt.set1 (h : MSt w wr a s0 s1 s2 s3 s4) (s : Nat) : MSt w (wr.setRow (w.heap.size + 1 + 1 + 1 + 1) (W2 s)) a s0 s s2 s3 s4 :=
 ⟨h.ba.rowFar (by omega) _,h.br.rowFar (by omega) _,h.k0.rowFar (by omega) _,h.k1.row _,h.k2.rowFar (by omega) _,h.k3.rowFar (by omega) _,h.k4.rowFar (by omega) _,below_setRow h.be (by omega) _⟩
theorem MSt.set2 (h : MSt w wr a s0 s1 s2 s3 s4) (s : Nat) : MSt w (wr.setRow (w.heap.size + 1 + 1 + 1 + 1 + 1) (W2 s)) a s0 s1 s s3 s4 :=
 ⟨h.ba.rowFar (by omega) _,h.br.rowFar (by omega) _,h.k0.rowFar (by omega) _,h.k1.rowFar (by omega) _,h.k2.row _,h.k3.rowFar (by omega) _,h.k4.rowFar (by omega) _,below_setRow h.be (by omega) _⟩
theorem MSt.set3 (h : MSt w wr a s0 s1 s2 s3 s4) (s : Nat) : MSt w (wr.setRow (w.heap.size + 1 + 1 + 1 + 1 + 1 + 1) (W2 s)) a s0 s1 s2 s s4 :=
 ⟨h.ba.rowFar (by omega) _,h.br.rowFar (by omega) _,h.k0.rowFar (by omega) _,h.k1.rowFar (by omega) _,h.k2.rowFar (by omega) _,h.k3.row _,h.k4.rowFar (by omega) _,below_setRow h.be (by omega) _⟩
theorem MSt.set4 (h : MSt w wr a s0 s1 s2 s3 s4) (s : Nat) : MSt w (wr.setRow (w.heap.size + 1 + 1 + 1 + 1 + 1 + 1 + 1) (W2 s)) a s0 s1 s2 s3 s :=
 ⟨h.ba.rowFar (by omega) _,h.br.rowFar (by omega) _,h.k0.rowFar (by omega) _,h.k1.rowFar (by omega) _,h.k2.rowFar (by omega) _,h.k3.rowFar (by omega) _,h.k4.row _,below_setRow h.be (by omega) _⟩
end

theorem mst_start (w : World) (a : List Nat) (o : Obj) :
  MSt w ((((((((w.alloc (.cells (Us a).toArray 90)).alloc o).alloc (.cells z5 90)).alloc (.cells (W2 0) 138)).alloc (.cells (W2 0) 138)).alloc (.cells (W2 0) 138)).alloc (.cells (W2 0) 138)).alloc (.cells (W2 0) 138)).drew a 0 0 0 0 0 where
 ba:=(((((((Blk.new w _ _).alloc _).alloc _).alloc _).alloc _).alloc _).alloc _).alloc _
 br:=by
  have h:=(((((Blk.new ((w.alloc (.cells (Us a).toArray 90)).alloc o) 90 z5).alloc (.cells (W2 0) 138)).alloc (.cells (W2 0) 138)).alloc (.cells (W2 0) 138)).alloc (.cells (W2 0) 138)).alloc (.cells (W2 0) 138);rw [World.size_alloc,World.size_alloc] at h;exact h
 k0:=by
  have h:=((((Blk.new (((w.alloc (.cells (Us a).toArray 90)).alloc o).alloc (.cells z5 90)) 138 (W2 0)).alloc (.cells (W2 0) 138)).alloc (.cells (W2 0) 138)).alloc (.cells (W2 0) 138)).alloc (.cells (W2 0) 138);rw [World.size_alloc,World.size_alloc,World.size_alloc] at h;exact h
 k1:=by
  have h:=(((Blk.new ((((w.alloc (.cells (Us a).toArray 90)).alloc o).alloc (.cells z5 90)).alloc (.cells (W2 0) 138)) 138 (W2 0)).alloc (.cells (W2 0) 138)).alloc (.cells (W2 0) 138)).alloc (.cells (W2 0) 138);rw [World.size_alloc,World.size_alloc,World.size_alloc,World.size_alloc] at h;exact h
 k2:=by
  have h:=((Blk.new (((((w.alloc (.cells (Us a).toArray 90)).alloc o).alloc (.cells z5 90)).alloc (.cells (W2 0) 138)).alloc (.cells (W2 0) 138)) 138 (W2 0)).alloc (.cells (W2 0) 138)).alloc (.cells (W2 0) 138);rw [World.size_alloc,World.size_alloc,World.size_alloc,World.size_alloc,World.size_alloc] at h;exact h
 k3:=by
  have h:=(Blk.new ((((((w.alloc (.cells (Us a).toArray 90)).alloc o).alloc (.cells z5 90)).alloc (.cells (W2 0) 138)).alloc (.cells (W2 0) 138)).alloc (.cells (W2 0) 138)) 138 (W2 0)).alloc (.cells (W2 0) 138);rw [World.size_alloc,World.size_alloc,World.size_alloc,World.size_alloc,World.size_alloc,World.size_alloc] at h;exact h
 k4:=by
  have h:=Blk.new (((((((w.alloc (.cells (Us a).toArray 90)).alloc o).alloc (.cells z5 90)).alloc (.cells (W2 0) 138)).alloc (.cells (W2 0) 138)).alloc (.cells (W2 0) 138)).alloc (.cells (W2 0) 138)) 138 (W2 0);rw [World.size_alloc,World.size_alloc,World.size_alloc,World.size_alloc,World.size_alloc,World.size_alloc,World.size_alloc] at h;exact h
 be:=(((((((((Below.refl _ _).alloc (Nat.le_refl _) _).alloc (by simp) _).alloc (by simp; omega) _).alloc (by simp; omega) _).alloc (by simp; omega) _).alloc (by simp; omega) _).alloc (by simp; omega) _).alloc (by simp; omega) _).drew
end Go.Proofs.YtlcbhbahchiofaaDoor
/-
  STEPS OF WALKS OVER WORDS AND THE FIELD'S NUMBERS, in regions that draw their order too.
-/
namespace Go.Proofs.YtlcbhbahchiofaaDoor
open Go.RowKit Go.IntWalk Nums

theorem own_low : Own 77:=fun _ _=>by go_simp
theorem own_high : Own 78:=fun _ _=>by go_simp
theorem own_carried : Own 79:=fun _ _=>by go_simp
theorem own_whole : Own 82:=fun _ _=>by go_simp
theorem own_elmul : Own 55:=fun _ _=>by go_simp
theorem own_eladd : Own 59:=fun _ _=>by go_simp
theorem own_elsub : Own 57:=fun _ _=>by go_simp
theorem own_hash : Own 63:=fun _ _=>by go_simp
theorem own_small : Own 54:=fun _ _=>by go_simp

section
variable {ops : Array Oper} {C0 : World → Prop} {Q : Act → Prop} {a : Act} {o : Oper} {rest : List Oper}
theorem b_mulu {x y : Operand} {t : TypeId} (p q : Nat) (hg : Region.wanted o (yielded ops a.tmps) = true) (ho : o.op = .binOp .mul 74 x y t) (hx : a.eval x = .int .u64 (p : Int)) (hy : a.eval y = .int .u64 (q : Int)) (hb : p * q < 18446744073709551616)
  (hk : wpB Tryd.prog ops C0 Q rest (a.put o.dst (.int .u64 ((p * q : Nat) : Int)))) : wpB Tryd.prog ops C0 Q (o :: rest) a :=
 b_val hg (fun w _=>by
  have e : IntKind.u64.wrap ((p : Int) * (q : Int)) = ((p * q : Nat) : Int):=by rw [IntKind.wrap_u64,← Int.natCast_mul]; omega
  unfold execOp
  simp only [ho,hx,hy]
  go_simp) hk
theorem b_addu {x y : Operand} {t : TypeId} (p q : Nat) (hg : Region.wanted o (yielded ops a.tmps) = true) (ho : o.op = .binOp .add 74 x y t) (hx : a.eval x = .int .u64 (p : Int)) (hy : a.eval y = .int .u64 (q : Int)) (hb : p + q < 18446744073709551616)
  (hk : wpB Tryd.prog ops C0 Q rest (a.put o.dst (.int .u64 ((p + q : Nat) : Int)))) : wpB Tryd.prog ops C0 Q (o :: rest) a :=
 b_val hg (fun w _=>by
  have e : IntKind.u64.wrap ((p : Int) + (q : Int)) = ((p + q : Nat) : Int):=by rw [IntKind.wrap_u64]; omega
  unfold execOp
  simp only [ho,hx,hy]
  go_simp) hk
theorem b_el {l : List Nat} (g : Nat) (hl : l.length = 5) (x : Operand) (hg : Region.wanted o (yielded ops a.tmps) = true) (ho : o.op = .load 90 x) (hx : a.eval x = .pointer (some ⟨g,0,none⟩))
  (hc : ∀ w,C0 w → Blk w g 90 (Us l).toArray) (hk : wpB Tryd.prog ops C0 Q rest (a.put o.dst (.agg (Us l).toArray))) : wpB Tryd.prog ops C0 Q (o :: rest) a :=
 b_mid hg 90 x ho g 0 hx (Us l) _ (fun w h=>(hc w h).range) Tryd.underlying90 rfl (size_el (Us l).toArray (by rw [List.size_toArray,Us_len,hl])) hk
theorem b_sum {s : Nat} (g : Nat) (x : Operand) (hg : Region.wanted o (yielded ops a.tmps) = true) (ho : o.op = .load 138 x) (hx : a.eval x = .pointer (some ⟨g,0,none⟩))
  (hc : ∀ w,C0 w → Blk w g 138 (W2 s)) (hk : wpB Tryd.prog ops C0 Q rest (a.put o.dst (.agg (W2 s)))) : wpB Tryd.prog ops C0 Q (o :: rest) a :=
 b_mid hg 138 x ho g 0 hx (Us [s / 18446744073709551616,s % 18446744073709551616]) _ (fun w h=>Blk.range (hc w h)) Tryd.underlying138 rfl (size_sum _ rfl) hk
theorem b_fe {f : FuncId} {xs : Array Operand} {ats : Array TypeId} {args : Array Value} {x : F} (hg : Region.wanted o (yielded ops a.tmps) = true)
  (hf : Own f) (hc : ∀ w,C0 w → Calls Tryd.prog f args w (fun e w'=>∃ r,EB r x ∧ e = .returned (.agg (Us r).toArray) ∧ Below w.heap.size w w'))
  (ho : o.op = .call { callee:=.value (.func f),args:=xs,argTypes:=ats }) (hx : xs.toList.map a.eval = args.toList) (hk : ∀ r,EB r x → wpB Tryd.prog ops C0 Q rest (a.put o.dst (.agg (Us r).toArray))) : wpB Tryd.prog ops C0 Q (o :: rest) a:=by
 refine b_call (f:=f) (args:=args) (fun v=>∃ r,EB r x ∧ v = .agg (Us r).toArray) hg (by rw [ho]; rfl) (fun w hw=>(hc w hw).mono ?_) (fun w=>by rw [run_call_fn hf ho,map_eval hx]) ?_
 ·rintro e w2 ⟨r,hr,rfl,hw2⟩
  exact ⟨_,rfl,⟨r,hr,rfl⟩,hw2⟩
 ·rintro _ ⟨r,hr,rfl⟩
  exact hk r hr
end

/-! ### Five words put together -/
theorem built_u5 (v0 v1 v2 v3 v4 : Int) : Tryd.prog.built 88 [(0,.int .u64 v0),(1,.int .u64 v1),(2,.int .u64 v2),(3,.int .u64 v3),(4,.int .u64 v4)] = some #[.int .u64 v0,.int .u64 v1,.int .u64 v2,.int .u64 v3,.int .u64 v4]:=by kernel_rfl
theorem built_el (v0 v1 v2 v3 v4 : Int) : Tryd.prog.built 90 [(0,.agg #[.int .u64 v0,.int .u64 v1,.int .u64 v2,.int .u64 v3,.int .u64 v4])] = some #[.int .u64 v0,.int .u64 v1,.int .u64 v2,.int .u64 v3,.int .u64 v4]:=by kernel_rfl
theorem built_zero : Tryd.prog.built 90 [] = some z5:=by kernel_rfl
end Go.Proofs.YtlcbhbahchiofaaDoor
