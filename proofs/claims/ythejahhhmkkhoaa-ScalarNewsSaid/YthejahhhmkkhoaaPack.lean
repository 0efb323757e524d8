/-
PLAIN NUMBERS: the base point's order divides L. No program is imported.
PLAIN NUMBERS: rows of digits of 16 bits, carries, products digit by digit. No program is imported.
PLAIN NUMBERS: 16 digits of 16 bits as numbers modulo p: carries that come back 38 times, products, the packed row. No program is imported.
PLAIN NUMBERS: the packed row (below p), its bytes, the folded product. No program is imported.
-/
import Derived.Test.YthejahhhmkkhoaaRoot
namespace Nums

/-- A number, reckoned before it is used. -/
def forced {α : Type} (x : Nat) (f : Nat → α) : α :=
  match x with
  | 0 => f 0
  | k + 1 => f (k + 1)
theorem forced_eq {α : Type} (x : Nat) (f : Nat → α) : forced x f = f x := by cases x <;> rfl

structure Tri where
  x : Nat
  y : Nat
  z : Nat

/-- The sum over one z, in plain numbers. -/
def triAdd (a b : Tri) : Tri :=
  forced (a.z * b.z % p) fun z => forced (z * z % p) fun zz => forced (dn * (a.x * b.x % p * (a.y * b.y % p) % p) % p) fun m =>
  forced ((zz + m) % p) fun pl => forced ((zz + p - m) % p) fun mi =>
  forced ((a.x * b.y + a.y * b.x) % p * z % p * mi % p) fun x => forced ((a.y * b.y + a.x * b.x) % p * z % p * pl % p) fun y =>
  forced (pl * mi % p) fun w => ⟨x, y, w⟩

/-- So many, by the bits from below: n bits of k, acc and the doubled point. -/
def triMul : Nat → Nat → Tri → Tri → Tri
  | 0, _, acc, _ => acc
  | n + 1, k, acc, q => triMul n (k / 2) (if k % 2 = 1 then triAdd acc q else acc) (triAdd q q)

def TriRep (t : Tri) (P : Ed.Pt p) : Prop := Ed.Rep (fof t.x) (fof t.y) (fof t.z) P

theorem triAdd_rep {a b : Tri} {P Q : Ed.Pt p} (hP : Ed.On dd P) (hQ : Ed.On dd Q) (ha : TriRep a P) (hb : TriRep b Q) : TriRep (triAdd a b) (Ed.add dd P Q) := by
  unfold triAdd
  simp only [forced_eq]
  have h := Ed.Rep.add good hP hQ ha hb rfl rfl
  unfold TriRep
  simp only
  generalize hz : a.z * b.z % p = z
  generalize hm : dn * (a.x * b.x % p * (a.y * b.y % p) % p) % p = m
  have ez : fof z = fof a.z * fof b.z := by rw [← hz, fof_mod, fof_mul]
  have em : fof m = dd * ((fof a.x * fof b.x) * (fof a.y * fof b.y)) := by
    rw [← hm]
    simp only [fof_mod, fof_mul]
    rfl
  have hmp : m < p := by rw [← hm]; exact Nat.mod_lt _ (by decide)
  have es : fof (z * z % p + p - m) = fof z * fof z - fof m := by
    rw [fof_sub (by omega), fof_add, fof_mod, fof_mul, show fof p = 0 from fof_eq (a := p) (b := 0) (by decide)]
    grind only
  rw [← ez, ← em] at h
  simp only [fof_mod, fof_mul, fof_add, es]
  exact h

theorem triMul_rep : ∀ (n k : Nat) (acc q : Tri) (A Q : Ed.Pt p), k < 2 ^ n → Ed.On dd A → Ed.On dd Q → TriRep acc A → TriRep q Q → TriRep (triMul n k acc q) (Ed.add dd A (Ed.mul dd k Q))
  | 0, k, acc, q, A, Q, hk, hA, hQ, ha, hq => by
    have : k = 0 := by simp at hk; omega
    subst this
    rw [Ed.mul_0, Ed.add_zero good]
    exact ha
  | n + 1, k, acc, q, A, Q, hk, hA, hQ, ha, hq => by
    have hk2 : k / 2 < 2 ^ n := by rw [Nat.pow_succ] at hk; omega
    have h2 := triAdd_rep hQ hQ hq hq
    have o2 := Ed.on_add good hQ hQ
    have e2 : Ed.mul dd (k / 2) (Ed.add dd Q Q) = Ed.mul dd (2 * (k / 2)) Q := by
      rw [Ed.mul_mul good hQ, Ed.mul_2 good]
    show TriRep (triMul n (k / 2) (if k % 2 = 1 then triAdd acc q else acc) (triAdd q q)) _
    by_cases h : k % 2 = 1
    · rw [if_pos h]
      have ih := triMul_rep n (k / 2) (triAdd acc q) (triAdd q q) (Ed.add dd A Q) (Ed.add dd Q Q) hk2 (Ed.on_add good hA hQ) o2 (triAdd_rep hA hQ ha hq) h2
      rw [e2, Ed.add_assoc good hA hQ (Ed.on_mul good hQ _), Ed.add_comm Q, ← Ed.mul_succ, show 2 * (k / 2) + 1 = k by omega] at ih
      exact ih
    · rw [if_neg h]
      have ih := triMul_rep n (k / 2) acc (triAdd q q) A (Ed.add dd Q Q) hk2 hA o2 ha h2
      rw [e2, show 2 * (k / 2) = k by omega] at ih
      exact ih

/-- The order L. -/
def LL : Nat := 7237005577332262213973186563042994240857116359379907606001950938285454250989

def ending : Bool :=
  let t := triMul 253 LL ⟨0, 1, 1⟩ ⟨bx, bY, 1⟩
  forced t.x fun x => forced t.y fun y => forced t.z fun z => Nat.beq (x % p) 0 && Nat.beq (y % p) (z % p)

theorem ending_true : ending = true := by decide +kernel

theorem order : Ed.mul dd LL base = Ed.zero := by
  have ha : TriRep ⟨0, 1, 1⟩ Ed.zero := by
    have := Ed.Rep.zero prime_p
    unfold TriRep
    rw [fof_zero, fof_one]
    exact this
  have hq : TriRep ⟨bx, bY, 1⟩ base := by
    refine ⟨?_, ?_, ?_⟩
    · show fof 1 ≠ 0
      rw [fof_one]
      exact fun h => ne_one prime_p h.symm
    · show fof bx = fof bx * fof 1
      rw [fof_one]
      grind only
    · show fof bY = fof bY * fof 1
      rw [fof_one]
      grind only
  have h := triMul_rep 253 LL _ _ Ed.zero base (by decide) Ed.on_zero on_base ha hq
  rw [Ed.zero_add good] at h
  have e := ending_true
  unfold ending at e
  simp only [forced_eq] at e
  generalize triMul 253 LL ⟨0, 1, 1⟩ ⟨bx, bY, 1⟩ = t at h e
  rw [Bool.and_eq_true] at e
  obtain ⟨e1, e2⟩ := e
  have e1 := Nat.eq_of_beq_eq_true e1
  have e2 := Nat.eq_of_beq_eq_true e2
  have x0 : fof t.x = 0 := Fin.ext e1
  have yz : fof t.y = fof t.z := Fin.ext e2
  have hz : Ed.Rep (fof t.x) (fof t.y) (fof t.z) Ed.zero := by
    refine ⟨h.z, ?_, ?_⟩
    · rw [x0]
      show (0 : F) = 0 * fof t.z
      grind only
    · rw [yz]
      show fof t.z = 1 * fof t.z
      grind only
  exact Ed.Rep.same prime_p h hz

end Nums

namespace Nums

/-- The number of a row of digits, the least first. -/
def V : List Int → Int
  | [] => 0
  | d :: ds => d + 65536 * V ds

/-- 65536 to a power. -/
def W : Nat → Int
  | 0 => 1
  | k + 1 => 65536 * W k

theorem W_pos : ∀ k, 0 < W k
  | 0 => by decide
  | k + 1 => by have := W_pos k; show 0 < 65536 * W k; omega
theorem W_add (j : Nat) : ∀ k, W (j + k) = W j * W k
  | 0 => by show W j = W j * 1; omega
  | k + 1 => by
    show 65536 * W (j + k) = W j * (65536 * W k)
    rw [W_add j k]
    grind only

theorem V_append (a b : List Int) : V (a ++ b) = V a + W a.length * V b := by
  induction a with
  | nil => show V b = 0 + 1 * V b; omega
  | cons d ds ih =>
    show d + 65536 * V (ds ++ b) = d + 65536 * V ds + 65536 * W ds.length * V b
    rw [ih]
    grind only

theorem V_set : ∀ (l : List Int) (k : Nat) (x : Int), k < l.length → V (l.set k x) = V l + (x - l[k]!) * W k
  | [], k, x, h => absurd h (by simp)
  | d :: ds, 0, x, h => by
    show x + 65536 * V ds = d + 65536 * V ds + (x - d) * 1
    omega
  | d :: ds, k + 1, x, h => by
    have ih := V_set ds k x (by simpa using h)
    show d + 65536 * V (ds.set k x) = d + 65536 * V ds + (x - (d :: ds)[k+1]!) * (65536 * W k)
    rw [ih, show (d :: ds)[k+1]! = ds[k]! from rfl]
    grind only

/-- Digits that are small. -/
def Small (l : List Int) : Prop := ∀ x ∈ l, 0 ≤ x ∧ x < 65536

theorem V_small {l : List Int} (h : Small l) : 0 ≤ V l ∧ V l < W l.length := by
  induction l with
  | nil => exact ⟨by decide, by decide⟩
  | cons d ds ih =>
    have h1 := ih (fun x hx => h x (List.mem_cons_of_mem _ hx))
    have h2 := h d (List.mem_cons_self ..)
    show 0 ≤ d + 65536 * V ds ∧ d + 65536 * V ds < 65536 * W ds.length
    omega

/-- Digits that are small are told by their number. -/
theorem V_inj : ∀ {a b : List Int}, a.length = b.length → Small a → Small b → V a = V b → a = b
  | [], [], _, _, _, _ => rfl
  | x :: a, y :: b, hl, ha, hb, h => by
    have h1 := ha x (List.mem_cons_self ..)
    have h2 := hb y (List.mem_cons_self ..)
    have h3 : x + 65536 * V a = y + 65536 * V b := h
    have h4 : x = y := by omega
    have h5 : V a = V b := by omega
    rw [h4, V_inj (by simpa using hl) (fun z hz => ha z (List.mem_cons_of_mem _ hz)) (fun z hz => hb z (List.mem_cons_of_mem _ hz)) h5]

/-- The carries run through a row: the digits made small, and what goes out above. -/
def chain : Int → List Int → List Int × Int
  | c, [] => ([], c)
  | c, d :: ds => (((d + c) % 65536) :: (chain ((d + c) / 65536) ds).1, (chain ((d + c) / 65536) ds).2)

theorem chain_len : ∀ (c : Int) (l : List Int), (chain c l).1.length = l.length
  | _, [] => rfl
  | c, d :: ds => by
    show (chain ((d + c) / 65536) ds).1.length + 1 = ds.length + 1
    rw [chain_len]

theorem chain_small : ∀ (c : Int) (l : List Int), Small (chain c l).1
  | _, [] => fun x hx => absurd hx (by simp [chain])
  | c, d :: ds => by
    intro x hx
    have hx : x ∈ ((d + c) % 65536) :: (chain ((d + c) / 65536) ds).1 := hx
    rcases List.mem_cons.mp hx with rfl | hx
    · omega
    · exact chain_small _ ds x hx

theorem chain_V : ∀ (c : Int) (l : List Int), V (chain c l).1 + (chain c l).2 * W l.length = V l + c
  | c, [] => by show 0 + c * 1 = 0 + c; omega
  | c, d :: ds => by
    have ih := chain_V ((d + c) / 65536) ds
    show ((d + c) % 65536 + 65536 * V (chain ((d + c) / 65536) ds).1) + (chain ((d + c) / 65536) ds).2 * (65536 * W ds.length) = d + 65536 * V ds + c
    generalize V (chain ((d + c) / 65536) ds).1 = v at *
    generalize (chain ((d + c) / 65536) ds).2 = w at *
    have e : w * (65536 * W ds.length) = 65536 * (w * W ds.length) := by grind only
    rw [e]
    generalize w * W ds.length = z at *
    omega

/-- What goes out above is the whole's quotient. -/
theorem chain_out (c : Int) (l : List Int) : (chain c l).2 = (V l + c) / W l.length ∧ V (chain c l).1 = (V l + c) % W l.length := by
  have h := chain_V c l
  have hs := V_small (chain_small c l)
  rw [chain_len] at hs
  have hW := W_pos l.length
  generalize W l.length = w at *
  generalize V (chain c l).1 = v at *
  generalize (chain c l).2 = q at *
  rw [← h]
  constructor
  · rw [Int.add_mul_ediv_right _ _ (by omega), Int.ediv_eq_zero_of_lt hs.1 hs.2]
    omega
  · rw [Int.add_mul_emod_self_right, Int.emod_eq_of_lt hs.1 hs.2]

/-- A bound for what goes out above. -/
theorem div_bound {v w b : Int} (hw : 0 < w) (h : v < b * w) (h' : -(b * w) ≤ v) : -b ≤ v / w ∧ v / w < b := by
  constructor
  · rw [Int.le_ediv_iff_mul_le hw]
    have : -b * w = -(b * w) := by grind only
    omega
  · rw [Int.ediv_lt_iff_lt_mul hw]
    exact h

end Nums

namespace Nums

/-- A whole number modulo p. -/
def zf (v : Int) : F := fof (v % (p : Int)).toNat
theorem zf_eq {a b : Int} (h : a % (p : Int) = b % (p : Int)) : zf a = zf b := by unfold zf; rw [h]
theorem zf_nat (a : Nat) : zf (a : Int) = fof a := by
  unfold zf
  rw [← Int.natCast_emod, Int.toNat_natCast, fof_mod]
theorem zf_val (v : Int) : ((zf v).val : Int) = v % (p : Int) := by
  have h0 : 0 ≤ v % (p : Int) := Int.emod_nonneg _ (by decide)
  have h1 : v % (p : Int) < p := Int.emod_lt_of_pos _ (by decide)
  unfold zf
  rw [fof_val, Nat.mod_eq_of_lt (by omega)]
  omega
theorem zf_inj {a b : Int} (h : zf a = zf b) : a % (p : Int) = b % (p : Int) := by rw [← zf_val, ← zf_val, h]
theorem zf_mod (v : Int) : zf (v % (p : Int)) = zf v := zf_eq (by rw [Int.emod_emod])
theorem zf_mul_p (k : Int) : zf (k * (p : Int)) = 0 := by
  apply Fin.ext
  have h := zf_val (k * (p : Int))
  rw [Int.mul_emod_left] at h
  show (zf (k * (p : Int))).val = 0
  omega
theorem zf_add (a b : Int) : zf (a + b) = zf a + zf b := by
  apply Fin.ext
  have h := zf_val (a + b)
  show (zf (a + b)).val = ((zf a).val + (zf b).val) % p
  have h2 : (((zf a).val + (zf b).val) % p : Nat) = (((zf a).val : Int) + (zf b).val) % (p : Int) := by simp
  have h3 : ((zf (a + b)).val : Int) = (((zf a).val + (zf b).val) % p : Nat) := by
    rw [h2, h, zf_val, zf_val, ← Int.add_emod]
  exact_mod_cast h3
theorem zf_mul (a b : Int) : zf (a * b) = zf a * zf b := by
  apply Fin.ext
  have h := zf_val (a * b)
  show (zf (a * b)).val = ((zf a).val * (zf b).val) % p
  have h2 : (((zf a).val * (zf b).val) % p : Nat) = (((zf a).val : Int) * (zf b).val) % (p : Int) := by simp
  have h3 : ((zf (a * b)).val : Int) = (((zf a).val * (zf b).val) % p : Nat) := by
    rw [h2, h, zf_val, zf_val, ← Int.mul_emod]
  exact_mod_cast h3
theorem zf_sub (a b : Int) : zf (a - b) = zf a - zf b := by
  have h : zf a = zf (a - b) + zf b := by rw [← zf_add]; congr 1; omega
  rw [h]
  grind only
theorem zf_zero : zf 0 = 0 := by have := zf_mul_p 0; rwa [Int.zero_mul] at this
theorem zf_one : zf 1 = 1 := by rw [show (1 : Int) = ((1 : Nat) : Int) from rfl, zf_nat, fof_one]
theorem zf_of (a : F) : zf (a.val : Int) = a := by rw [zf_nat, fof_of]

theorem W16 : W 16 = 2 * (p : Int) + 38 := by decide

/-- The carries of 16 digits, what goes out above coming back 38 times. -/
def carry (l : List Int) : List Int :=
  match chain 0 l with
  | (d :: ds, c) => (d + 38 * c) :: ds
  | ([], _) => []

/-- The digits behind the first are small; the first lies between. -/
def Loose (lo hi : Int) (l : List Int) : Prop := ∃ d ds, l = d :: ds ∧ ds.length = 15 ∧ Small ds ∧ lo ≤ d ∧ d ≤ hi

theorem carry_all {l : List Int} (h : l.length = 16) :
    Loose (38 * (V l / W 16)) (65535 + 38 * (V l / W 16)) (carry l) ∧ V (carry l) = V l % W 16 + 38 * (V l / W 16) := by
  have ho := chain_out 0 l
  have hs := chain_small 0 l
  have hl := chain_len 0 l
  unfold carry
  rw [h] at ho hl
  generalize chain 0 l = q at *
  obtain ⟨ds, c⟩ := q
  match ds with
  | [] => simp at hl
  | d :: ds =>
    have hd := hs d (List.mem_cons_self ..)
    simp only [Int.add_zero] at ho
    simp only
    refine ⟨⟨d + 38 * c, ds, rfl, by simpa using hl, fun x hx => hs x (List.mem_cons_of_mem _ hx), ?_, ?_⟩, ?_⟩
    · rw [← ho.1]; omega
    · rw [← ho.1]; omega
    · rw [← ho.1, ← ho.2]
      show d + 38 * c + 65536 * V ds = d + 65536 * V ds + 38 * c
      omega

theorem Loose.len {lo hi : Int} {l : List Int} (h : Loose lo hi l) : l.length = 16 := by
  obtain ⟨d, ds, rfl, h1, _⟩ := h
  simp [h1]
theorem Loose.small {lo hi : Int} {l : List Int} (h : Loose lo hi l) (h0 : 0 ≤ lo) (h1 : hi < 65536) : Small l := by
  obtain ⟨d, ds, rfl, _, h2, h3, h4⟩ := h
  intro x hx
  rcases List.mem_cons.mp hx with rfl | hx
  · omega
  · exact h2 x hx
theorem Loose.mono {lo hi lo' hi' : Int} {l : List Int} (h : Loose lo hi l) (h0 : lo' ≤ lo) (h1 : hi ≤ hi') : Loose lo' hi' l := by
  obtain ⟨d, ds, e, h1, h2, h3, h4⟩ := h
  exact ⟨d, ds, e, h1, h2, by omega, by omega⟩

theorem carry_zf {l : List Int} (h : l.length = 16) : zf (V (carry l)) = zf (V l) := by
  rw [(carry_all h).2]
  apply zf_eq
  have h1 := Int.emod_add_mul_ediv (V l) (W 16)
  have h2 := W16
  generalize V l / W 16 = c at *
  have h3 : V l % W 16 + 38 * c = V l + (-2 * c) * (p : Int) := by
    rw [← h1, h2]
    grind only
  rw [h3, Int.add_mul_emod_self_right]

theorem big : 1000000000000000000000000000000 < W 16 := by decide

/-- Two carries. -/
theorem carry_two {l : List Int} (h : l.length = 16) (hb : V l < 140737488355328 * W 16) (hb' : -(140737488355328 * W 16) ≤ V l) :
    Loose (-38) 65573 (carry (carry l)) ∧ V (carry (carry l)) = V (carry l) % W 16 + 38 * (V (carry l) / W 16) ∧ (V (carry l) / W 16 = -1 ∨ V (carry l) / W 16 = 0 ∨ V (carry l) / W 16 = 1)
      ∧ (-5348024557502464 ≤ V (carry l) ∧ V (carry l) < W 16 + 5348024557502464) := by
  have c1 := carry_all h
  have c2 := carry_all c1.1.len
  have hc := div_bound (W_pos 16) hb hb'
  have hW := big
  have hr := Int.emod_nonneg (V l) (b := W 16) (by have := W_pos 16; omega)
  have hr2 := Int.emod_lt_of_pos (V l) (W_pos 16)
  rw [c1.2] at c2 ⊢
  generalize V l / W 16 = c at *
  generalize V l % W 16 = r at *
  have hq := div_bound (v := r + 38 * c) (w := W 16) (b := 2) (W_pos 16) (by omega) (by omega)
  have hq2 : -1 ≤ (r + 38 * c) / W 16 := by
    rw [Int.le_ediv_iff_mul_le (W_pos 16)]
    omega
  generalize hqe : (r + 38 * c) / W 16 = q at *
  refine ⟨c2.1.mono (by omega) (by omega), c2.2, by omega, by omega, by omega⟩

/-- Three carries: the digits are small. -/
theorem carry_three {l : List Int} (h : l.length = 16) (hb : V l < 140737488355328 * W 16) (hb' : -(140737488355328 * W 16) ≤ V l) :
    (carry (carry (carry l))).length = 16 ∧ Small (carry (carry (carry l))) ∧ zf (V (carry (carry (carry l)))) = zf (V l) := by
  obtain ⟨k1, k2, k3, k4, k5⟩ := carry_two h hb hb'
  have c1 := carry_all h
  have c2 := carry_all c1.1.len
  have c3 := carry_all k1.len
  refine ⟨c3.1.len, ?_, by rw [carry_zf k1.len, carry_zf c1.1.len, carry_zf h]⟩
  have hW := big
  have hr := Int.emod_nonneg (V (carry l)) (b := W 16) (by have := W_pos 16; omega)
  have hr2 := Int.emod_lt_of_pos (V (carry l)) (W_pos 16)
  have hd := Int.emod_add_mul_ediv (V (carry l)) (W 16)
  have h0 : V (carry (carry l)) / W 16 = 0 := by
    rw [k2]
    generalize V (carry l) = v at *
    apply Int.ediv_eq_zero_of_lt
    · rcases k3 with k3 | k3 | k3
      · rw [k3] at hd ⊢; omega
      · rw [k3] at hd ⊢; omega
      · rw [k3] at hd ⊢; omega
    · rcases k3 with k3 | k3 | k3
      · rw [k3] at hd ⊢; omega
      · rw [k3] at hd ⊢; omega
      · rw [k3] at hd ⊢; omega
  rw [h0] at c3
  exact c3.1.small (by omega) (by omega)

end Nums

namespace Nums

theorem V_zip (f : Int → Int → Int) (k : Int) (hf : ∀ x y, f x y = x + k * y) : ∀ (a b : List Int), a.length = b.length → V (List.zipWith f a b) = V a + k * V b
  | [], [], _ => by show (0 : Int) = 0 + k * 0; omega
  | x :: a, y :: b, h => by
    have ih := V_zip f k hf a b (by simpa using h)
    show f x y + 65536 * V (List.zipWith f a b) = x + 65536 * V a + k * (y + 65536 * V b)
    rw [ih, hf]
    grind only

/-- p's digits. -/
def pdig : List Int := [65517, 65535, 65535, 65535, 65535, 65535, 65535, 65535, 65535, 65535, 65535, 65535, 65535, 65535, 65535, 32767]
theorem V_pdig : V pdig = (p : Int) := by decide
theorem W15 : W 16 = 65536 * W 15 := rfl

/-- The digits less p's. -/
def lessp (l : List Int) : List Int := List.zipWith (fun x y => x - y) l pdig
theorem lessp_len {l : List Int} (h : l.length = 16) : (lessp l).length = 16 := by simp [lessp, h, pdig]
theorem V_lessp {l : List Int} (h : l.length = 16) : V (lessp l) = V l - (p : Int) := by
  rw [lessp, V_zip _ (-1) (fun x y => by omega) l pdig (by simp [h, pdig]), V_pdig]
  omega

/-- The carries (here: what is lent) of all digits but the last. -/
def lent (l : List Int) : List Int := (chain 0 (l.take 15)).1 ++ [l[15]! + (chain 0 (l.take 15)).2]

theorem take15 {l : List Int} (h : l.length = 16) : l = l.take 15 ++ [l[15]!] := by
  have h1 : l.drop 15 = [l[15]!] := by
    rw [List.drop_eq_getElem_cons (by omega), List.drop_eq_nil_of_le (by omega)]
    rw [getElem!_pos l 15 (by omega)]
  calc l = l.take 15 ++ l.drop 15 := (List.take_append_drop 15 l).symm
    _ = _ := by rw [h1]

theorem lent_all {l : List Int} (h : l.length = 16) :
    (lent l).length = 16 ∧ Small ((lent l).take 15) ∧ V (lent l) = V l ∧ (0 ≤ (lent l)[15]! ↔ 0 ≤ V l) ∧ V (lent l) = V ((lent l).take 15) + W 15 * (lent l)[15]! := by
  have ht : (l.take 15).length = 15 := by simp [h]
  have hl := chain_len 0 (l.take 15)
  have hs := chain_small 0 (l.take 15)
  have hv := chain_V 0 (l.take 15)
  have he := take15 h
  have hV : V l = V (l.take 15) + W 15 * (l[15]! + 65536 * 0) := by
    conv => lhs; rw [he]
    rw [V_append, ht]
    rfl
  unfold lent
  rw [ht] at hl hv
  generalize chain 0 (l.take 15) = q at *
  obtain ⟨ds, c⟩ := q
  simp only at hl hs hv ⊢
  have g1 : (ds ++ [l[15]! + c])[15]! = l[15]! + c := by
    rw [getElem!_pos _ 15 (by simp [hl]), List.getElem_append_right (by omega)]
    simp [hl]
  have g2 : (ds ++ [l[15]! + c]).take 15 = ds := by rw [← hl, List.take_left]
  have g3 : V (ds ++ [l[15]! + c]) = V ds + W 15 * (l[15]! + c + 65536 * 0) := by rw [V_append, hl]; rfl
  have hd := V_small hs
  rw [hl] at hd
  have e : V (ds ++ [l[15]! + c]) = V l := by
    rw [g3, hV]
    have : c * W 15 = W 15 * c := by grind only
    grind only
  refine ⟨by simp [hl], by rw [g2]; exact hs, e, ?_, by rw [g1, g2, g3]; simp⟩
  rw [g1, ← e, g3]
  have hW := W_pos 15
  generalize l[15]! + c = x at *
  constructor
  · intro hx
    have : 0 ≤ W 15 * (x + 65536 * 0) := Int.mul_nonneg (by omega) (by omega)
    omega
  · intro hx
    apply Classical.byContradiction
    intro hn
    have h2 : W 15 * (x + 65536 * 0) ≤ W 15 * (-1) := Int.mul_le_mul_of_nonneg_left (by omega) (by omega)
    omega

/-- Once less p, if it is p or more. -/
def redp (l : List Int) : List Int := if 0 ≤ (lent (lessp l))[15]! then lent (lessp l) else l

theorem redp_all {l : List Int} (h : l.length = 16) (hs : Small l) :
    (redp l).length = 16 ∧ Small (redp l) ∧ V (redp l) = if (p : Int) ≤ V l then V l - (p : Int) else V l := by
  have ha := lent_all (lessp_len h)
  rw [V_lessp h] at ha
  have hv := V_small hs
  rw [h] at hv
  have hp : (0 : Int) < (p : Int) := by decide
  unfold redp
  by_cases hc : 0 ≤ (lent (lessp l))[15]!
  · have h1 := ha.2.2.2.1.mp hc
    rw [if_pos hc, if_pos (by omega)]
    refine ⟨ha.1, ?_, ha.2.2.1⟩
    have h2 := ha.2.2.2.2
    have h3 := ha.2.2.1
    have h4 := V_small ha.2.1
    intro x hx
    rw [take15 ha.1] at hx
    rcases List.mem_append.mp hx with hx | hx
    · exact ha.2.1 x hx
    · have hx : x = (lent (lessp l))[15]! := by simpa using hx
      subst hx
      refine ⟨hc, ?_⟩
      generalize (lent (lessp l))[15]! = y at *
      apply Classical.byContradiction
      intro hn
      have h5 : W 15 * 65536 ≤ W 15 * y := Int.mul_le_mul_of_nonneg_left (by omega) (by have := W_pos 15; omega)
      have h6 := W15
      omega
  · have h1 : ¬ 0 ≤ V l - (p : Int) := fun h => hc (ha.2.2.2.1.mpr h)
    rw [if_neg hc, if_neg (by omega)]
    exact ⟨h, hs, rfl⟩

/-- The row of a number's digits, below p. -/
def pack (l : List Int) : List Int := redp (redp (carry (carry (carry l))))

theorem pack_all {l : List Int} (h : l.length = 16) (hb : V l < 140737488355328 * W 16) (hb' : -(140737488355328 * W 16) ≤ V l) :
    (pack l).length = 16 ∧ Small (pack l) ∧ V (pack l) = ((zf (V l)).val : Int) := by
  obtain ⟨a1, a2, a3⟩ := carry_three h hb hb'
  unfold pack
  generalize carry (carry (carry l)) = t at *
  have r1 := redp_all a1 a2
  have r2 := redp_all r1.1 r1.2.1
  refine ⟨r2.1, r2.2.1, ?_⟩
  have hv := V_small a2
  rw [a1, W16] at hv
  have hz : V (redp (redp t)) % (p : Int) = V l % (p : Int) := by
    rw [← zf_inj a3, r2.2.2, r1.2.2]
    by_cases h1 : (p : Int) ≤ V t
    · rw [if_pos h1]
      by_cases h2 : (p : Int) ≤ V t - (p : Int)
      · rw [if_pos h2, Int.sub_emod_right, Int.sub_emod_right]
      · rw [if_neg h2, Int.sub_emod_right]
    · rw [if_neg h1, if_neg h1]
  rw [zf_val, ← hz]
  have hp : (38 : Int) < (p : Int) := by decide
  have hlt : 0 ≤ V (redp (redp t)) ∧ V (redp (redp t)) < (p : Int) := by
    rw [r2.2.2, r1.2.2]
    by_cases h1 : (p : Int) ≤ V t
    · rw [if_pos h1]
      by_cases h2 : (p : Int) ≤ V t - (p : Int)
      · rw [if_pos h2]; omega
      · rw [if_neg h2]; omega
    · rw [if_neg h1, if_neg h1]; omega
  rw [Int.emod_eq_of_lt hlt.1 hlt.2]

/-- The product's 31 digits, folded: what lies above 2^256 comes back 38 times. -/
def folded (t : List Int) : List Int := List.zipWith (fun x y => x + 38 * y) (t.take 16) (t.drop 16 ++ [0])

theorem V_folded {t : List Int} (h : t.length = 31) : (folded t).length = 16 ∧ zf (V (folded t)) = zf (V t) := by
  refine ⟨by simp [folded, h], ?_⟩
  have h1 := V_append (t.take 16) (t.drop 16)
  rw [List.take_append_drop, show (t.take 16).length = 16 by simp [h]] at h1
  have h2 := V_append (t.drop 16) [0]
  rw [show V [0] = 0 from rfl, Int.mul_zero, Int.add_zero] at h2
  apply zf_eq
  rw [folded, V_zip _ 38 (fun x y => rfl) _ _ (by simp [h]), h2, h1, W16]
  generalize V (t.take 16) = a
  generalize V (t.drop 16) = b
  have : a + (2 * (p : Int) + 38) * b = a + 38 * b + (2 * b) * (p : Int) := by grind only
  rw [this, Int.add_mul_emod_self_right]

/-- A row whose digits are bounded. -/
def Bnd (B : Int) (l : List Int) : Prop := ∀ x ∈ l, -B ≤ x ∧ x ≤ B

theorem V_bnd {B : Int} {l : List Int} (h : Bnd B l) : -(B * (W l.length - 1)) ≤ 65535 * V l ∧ 65535 * V l ≤ B * (W l.length - 1) := by
  induction l with
  | nil =>
    show -(B * (1 - 1)) ≤ 65535 * 0 ∧ 65535 * 0 ≤ B * (1 - 1)
    omega
  | cons d ds ih =>
    have h2 := h d (List.mem_cons_self ..)
    have h1 := ih (fun x hx => h x (List.mem_cons_of_mem _ hx))
    show -(B * (65536 * W ds.length - 1)) ≤ 65535 * (d + 65536 * V ds) ∧ 65535 * (d + 65536 * V ds) ≤ B * (65536 * W ds.length - 1)
    have e : B * (65536 * W ds.length - 1) = 65536 * (B * (W ds.length - 1)) + 65535 * B := by grind only
    rw [e]
    generalize B * (W ds.length - 1) = z at *
    omega

/-- What the carries need: digits of half a machine's width. -/
theorem V_room {l : List Int} (hl : l.length = 16) (h : Bnd 4611686018427387904 l) : V l < 140737488355328 * W 16 ∧ -(140737488355328 * W 16) ≤ V l := by
  have h1 := V_bnd h
  rw [hl] at h1
  have h2 := W_pos 16
  omega

theorem Small.bnd {l : List Int} (h : Small l) : Bnd 65535 l := fun x hx => by have := h x hx; omega
theorem Bnd.mono {B C : Int} {l : List Int} (h : Bnd B l) (hc : B ≤ C) : Bnd C l := fun x hx => by have := h x hx; omega
theorem Loose.bnd {lo hi B : Int} {l : List Int} (h : Loose lo hi l) (h0 : -B ≤ lo) (h1 : hi ≤ B) (h2 : 65535 ≤ B) : Bnd B l := by
  obtain ⟨d, ds, rfl, _, h3, h4, h5⟩ := h
  intro x hx
  rcases List.mem_cons.mp hx with rfl | hx
  · omega
  · have := h3 x hx; omega

/-- Bytes, the least first. -/
def le : List UInt8 → Nat
  | [] => 0
  | b :: bs => b.toNat + 256 * le bs

/-- The bytes of digits, the digits of bytes. -/
def split : List Int → List UInt8
  | [] => []
  | d :: ds => UInt8.ofNat (d % 256).toNat :: UInt8.ofNat (d / 256).toNat :: split ds
def join : List UInt8 → List Int
  | a :: b :: bs => ((a.toNat : Int) + 256 * (b.toNat : Int)) :: join bs
  | _ => []

theorem split_len : ∀ l : List Int, (split l).length = 2 * l.length
  | [] => rfl
  | d :: ds => by
    show (split ds).length + 1 + 1 = 2 * (ds.length + 1)
    rw [split_len ds]
    omega

theorem le_split : ∀ {l : List Int}, Small l → (le (split l) : Int) = V l
  | [], _ => rfl
  | d :: ds, h => by
    have h1 := h d (List.mem_cons_self ..)
    have ih := le_split (l := ds) (fun x hx => h x (List.mem_cons_of_mem _ hx))
    show (((UInt8.ofNat (d % 256).toNat).toNat + 256 * ((UInt8.ofNat (d / 256).toNat).toNat + 256 * le (split ds)) : Nat) : Int) = d + 65536 * V ds
    rw [← ih, UInt8.toNat_ofNat', UInt8.toNat_ofNat']
    omega

theorem join_small : ∀ l : List UInt8, Small (join l)
  | [] => fun x hx => absurd hx (by simp [join])
  | [_] => fun x hx => absurd hx (by simp [join])
  | a :: b :: bs => fun x hx => by
    have ha := a.toNat_lt
    have hb := b.toNat_lt
    rcases List.mem_cons.mp (show x ∈ ((a.toNat : Int) + 256 * (b.toNat : Int)) :: join bs from hx) with rfl | hx
    · omega
    · exact join_small bs x hx

theorem V_join : ∀ (k : Nat) (l : List UInt8), l.length = 2 * k → (join l).length = k ∧ V (join l) = (le l : Int)
  | 0, [], _ => ⟨rfl, rfl⟩
  | 0, _ :: _, h => absurd h (by simp)
  | k + 1, [], h => absurd h (by simp)
  | k + 1, [_], h => by simp at h; omega
  | k + 1, a :: b :: bs, h => by
    obtain ⟨h1, h2⟩ := V_join k bs (by simp at h; omega)
    refine ⟨by show (join bs).length + 1 = k + 1; rw [h1], ?_⟩
    show (a.toNat : Int) + 256 * (b.toNat : Int) + 65536 * V (join bs) = ((a.toNat + 256 * (b.toNat + 256 * le bs) : Nat) : Int)
    rw [h2]
    omega

theorem le_inj : ∀ {a b : List UInt8}, a.length = b.length → le a = le b → a = b
  | [], [], _, _ => rfl
  | x :: a, y :: b, hl, h => by
    have h1 := x.toNat_lt
    have h2 := y.toNat_lt
    have h3 : x.toNat + 256 * le a = y.toNat + 256 * le b := h
    have h4 : x = y := UInt8.toNat.inj (by omega)
    have h5 := le_inj (a := a) (b := b) (by simpa using hl) (by omega)
    rw [h4, h5]

/-- So many bytes of a number, the least first. -/
def bytes : Nat → Nat → List UInt8
  | 0, _ => []
  | k + 1, v => UInt8.ofNat v :: bytes k (v / 256)
theorem bytes_len : ∀ k v, (bytes k v).length = k
  | 0, _ => rfl
  | k + 1, v => by show (bytes k (v / 256)).length + 1 = k + 1; rw [bytes_len]
theorem le_bytes : ∀ k v, le (bytes k v) = v % 256 ^ k
  | 0, v => by show 0 = v % 1; omega
  | k + 1, v => by
    show (UInt8.ofNat v).toNat + 256 * le (bytes k (v / 256)) = v % 256 ^ (k + 1)
    rw [le_bytes, UInt8.toNat_ofNat', show 256 ^ (k + 1) = 256 * 256 ^ k by rw [Nat.pow_succ, Nat.mul_comm], Nat.mod_mul]

/-- The bytes of a number modulo p. -/
def enc (x : F) : List UInt8 := bytes 32 x.val
theorem enc_len (x : F) : (enc x).length = 32 := bytes_len _ _
theorem le_enc (x : F) : le (enc x) = x.val := by
  unfold enc
  rw [le_bytes]
  exact Nat.mod_eq_of_lt (Nat.lt_trans x.isLt (by decide))
theorem enc_inj {x y : F} (h : enc x = enc y) : x = y := by
  apply Fin.ext
  rw [← le_enc, ← le_enc, h]
theorem enc_of {b : List UInt8} (hb : b.length = 32) {x : F} (h : le b = x.val) : b = enc x :=
  le_inj (by rw [hb, enc_len]) (by rw [h, le_enc])
theorem fof_enc (x : F) : fof (le (enc x)) = x := by rw [le_enc, fof_of]

/-- The packed bytes are the number's own. -/
theorem split_pack {l : List Int} (h : l.length = 16) (hb : Bnd 4611686018427387904 l) : split (pack l) = enc (zf (V l)) := by
  obtain ⟨v1, v2⟩ := V_room h hb
  obtain ⟨a1, a2, a3⟩ := pack_all h v1 v2
  apply enc_of
  · rw [split_len, a1]
  · have := le_split a2
    omega

end Nums
