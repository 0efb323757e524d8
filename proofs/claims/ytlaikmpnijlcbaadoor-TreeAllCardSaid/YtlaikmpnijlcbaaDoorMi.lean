/-
  SEVERAL TEXTS IN ONE: Pack, ShaP, TrP, TrB, TrG, UsB, Ref02.
-/
import Derived.Test.YtlaikmpnijlcbaaDoorMh
import Derived.Test.YtlaikmpnijlcbaaDoorMg
import Derived.Test.YtlaikmpnijlcbaaDoorMc
/-
PLAIN NUMBERS: the base point's order divides L. No program is imported.
PLAIN NUMBERS: rows of digits of 16 bits, carries, products digit by digit. No program is imported.
PLAIN NUMBERS: 16 digits of 16 bits as numbers modulo p: carries that come back 38 times, products, the packed row. No program is imported.
PLAIN NUMBERS: the packed row (below p), its bytes, the folded product. No program is imported.
-/
namespace Nums

/-- A number, reckoned before it is used. -/
def forced {α : Type} (x : Nat) (f : Nat → α) : α :=
  match x with
  | 0 => f 0
  | k + 1 => f (k + 1)
theorem forced_eq {α : Type} (x : Nat) (f : Nat → α) : forced x f = f x := by cases x <;> rfl

structure Tri where
  x : Nat
  y : Nat
  z : Nat

/-- The sum over one z, in plain numbers. -/
def triAdd (a b : Tri) : Tri :=
  forced (a.z * b.z % p) fun z => forced (z * z % p) fun zz => forced (dn * (a.x * b.x % p * (a.y * b.y % p) % p) % p) fun m =>
  forced ((zz + m) % p) fun pl => forced ((zz + p - m) % p) fun mi =>
  forced ((a.x * b.y + a.y * b.x) % p * z % p * mi % p) fun x => forced ((a.y * b.y + a.x * b.x) % p * z % p * pl % p) fun y =>
  forced (pl * mi % p) fun w => ⟨x, y, w⟩

/-- So many, by the bits from below: n bits of k, acc and the doubled point. -/
def triMul : Nat → Nat → Tri → Tri → Tri
  | 0, _, acc, _ => acc
  | n + 1, k, acc, q => triMul n (k / 2) (if k % 2 = 1 then triAdd acc q else acc) (triAdd q q)

def TriRep (t : Tri) (P : Ed.Pt p) : Prop := Ed.Rep (fof t.x) (fof t.y) (fof t.z) P

theorem triAdd_rep {a b : Tri} {P Q : Ed.Pt p} (hP : Ed.On dd P) (hQ : Ed.On dd Q) (ha : TriRep a P) (hb : TriRep b Q) : TriRep (triAdd a b) (Ed.add dd P Q) := by
  unfold triAdd
  simp only [forced_eq]
  have h := Ed.Rep.add good hP hQ ha hb rfl rfl
  unfold TriRep
  simp only
  generalize hz : a.z * b.z % p = z
  generalize hm : dn * (a.x * b.x % p * (a.y * b.y % p) % p) % p = m
  have ez : fof z = fof a.z * fof b.z := by rw [← hz, fof_mod, fof_mul]
  have em : fof m = dd * ((fof a.x * fof b.x) * (fof a.y * fof b.y)) := by
    rw [← hm]
    simp only [fof_mod, fof_mul]
    rfl
  have hmp : m < p := by rw [← hm]; exact Nat.mod_lt _ (by decide)
  have es : fof (z * z % p + p - m) = fof z * fof z - fof m := by
    rw [fof_sub (by omega), fof_add, fof_mod, fof_mul, show fof p = 0 from fof_eq (a := p) (b := 0) (by decide)]
    grind only
  rw [← ez, ← em] at h
  simp only [fof_mod, fof_mul, fof_add, es]
  exact h

theorem triMul_rep : ∀ (n k : Nat) (acc q : Tri) (A Q : Ed.Pt p), k < 2 ^ n → Ed.On dd A → Ed.On dd Q → TriRep acc A → TriRep q Q → TriRep (triMul n k acc q) (Ed.add dd A (Ed.mul dd k Q))
  | 0, k, acc, q, A, Q, hk, hA, hQ, ha, hq => by
    have : k = 0 := by simp at hk; omega
    subst this
    rw [Ed.mul_0, Ed.add_zero good]
    exact ha
  | n + 1, k, acc, q, A, Q, hk, hA, hQ, ha, hq => by
    have hk2 : k / 2 < 2 ^ n := by rw [Nat.pow_succ] at hk; omega
    have h2 := triAdd_rep hQ hQ hq hq
    have o2 := Ed.on_add good hQ hQ
    have e2 : Ed.mul dd (k / 2) (Ed.add dd Q Q) = Ed.mul dd (2 * (k / 2)) Q := by
      rw [Ed.mul_mul good hQ, Ed.mul_2 good]
    show TriRep (triMul n (k / 2) (if k % 2 = 1 then triAdd acc q else acc) (triAdd q q)) _
    by_cases h : k % 2 = 1
    · rw [if_pos h]
      have ih := triMul_rep n (k / 2) (triAdd acc q) (triAdd q q) (Ed.add dd A Q) (Ed.add dd Q Q) hk2 (Ed.on_add good hA hQ) o2 (triAdd_rep hA hQ ha hq) h2
      rw [e2, Ed.add_assoc good hA hQ (Ed.on_mul good hQ _), Ed.add_comm Q, ← Ed.mul_succ, show 2 * (k / 2) + 1 = k by omega] at ih
      exact ih
    · rw [if_neg h]
      have ih := triMul_rep n (k / 2) acc (triAdd q q) A (Ed.add dd Q Q) hk2 hA o2 ha h2
      rw [e2, show 2 * (k / 2) = k by omega] at ih
      exact ih

/-- The order L. -/
def LL : Nat := 7237005577332262213973186563042994240857116359379907606001950938285454250989

def ending : Bool :=
  let t := triMul 253 LL ⟨0, 1, 1⟩ ⟨bx, bY, 1⟩
  forced t.x fun x => forced t.y fun y => forced t.z fun z => Nat.beq (x % p) 0 && Nat.beq (y % p) (z % p)

theorem ending_true : ending = true := by decide +kernel

theorem order : Ed.mul dd LL base = Ed.zero := by
  have ha : TriRep ⟨0, 1, 1⟩ Ed.zero := by
    have := Ed.Rep.zero prime_p
    unfold TriRep
    rw [fof_zero, fof_one]
    exact this
  have hq : TriRep ⟨bx, bY, 1⟩ base := by
    refine ⟨?_, ?_, ?_⟩
    · show fof 1 ≠ 0
      rw [fof_one]
      exact fun h => ne_one prime_p h.symm
    · show fof bx = fof bx * fof 1
      rw [fof_one]
      grind only
    · show fof bY = fof bY * fof 1
      rw [fof_one]
      grind only
  have h := triMul_rep 253 LL _ _ Ed.zero base (by decide) Ed.on_zero on_base ha hq
  rw [Ed.zero_add good] at h
  have e := ending_true
  unfold ending at e
  simp only [forced_eq] at e
  generalize triMul 253 LL ⟨0, 1, 1⟩ ⟨bx, bY, 1⟩ = t at h e
  rw [Bool.and_eq_true] at e
  obtain ⟨e1, e2⟩ := e
  have e1 := Nat.eq_of_beq_eq_true e1
  have e2 := Nat.eq_of_beq_eq_true e2
  have x0 : fof t.x = 0 := Fin.ext e1
  have yz : fof t.y = fof t.z := Fin.ext e2
  have hz : Ed.Rep (fof t.x) (fof t.y) (fof t.z) Ed.zero := by
    refine ⟨h.z, ?_, ?_⟩
    · rw [x0]
      show (0 : F) = 0 * fof t.z
      grind only
    · rw [yz]
      show fof t.z = 1 * fof t.z
      grind only
  exact Ed.Rep.same prime_p h hz

end Nums

namespace Nums

/-- The number of a row of digits, the least first. -/
def V : List Int → Int
  | [] => 0
  | d :: ds => d + 65536 * V ds

/-- 65536 to a power. -/
def W : Nat → Int
  | 0 => 1
  | k + 1 => 65536 * W k

theorem W_pos : ∀ k, 0 < W k
  | 0 => by decide
  | k + 1 => by have := W_pos k; show 0 < 65536 * W k; omega
theorem W_add (j : Nat) : ∀ k, W (j + k) = W j * W k
  | 0 => by show W j = W j * 1; omega
  | k + 1 => by
    show 65536 * W (j + k) = W j * (65536 * W k)
    rw [W_add j k]
    grind only

theorem V_append (a b : List Int) : V (a ++ b) = V a + W a.length * V b := by
  induction a with
  | nil => show V b = 0 + 1 * V b; omega
  | cons d ds ih =>
    show d + 65536 * V (ds ++ b) = d + 65536 * V ds + 65536 * W ds.length * V b
    rw [ih]
    grind only

theorem V_set : ∀ (l : List Int) (k : Nat) (x : Int), k < l.length → V (l.set k x) = V l + (x - l[k]!) * W k
  | [], k, x, h => absurd h (by simp)
  | d :: ds, 0, x, h => by
    show x + 65536 * V ds = d + 65536 * V ds + (x - d) * 1
    omega
  | d :: ds, k + 1, x, h => by
    have ih := V_set ds k x (by simpa using h)
    show d + 65536 * V (ds.set k x) = d + 65536 * V ds + (x - (d :: ds)[k+1]!) * (65536 * W k)
    rw [ih, show (d :: ds)[k+1]! = ds[k]! from rfl]
    grind only

/-- Digits that are small. -/
def Small (l : List Int) : Prop := ∀ x ∈ l, 0 ≤ x ∧ x < 65536

theorem V_small {l : List Int} (h : Small l) : 0 ≤ V l ∧ V l < W l.length := by
  induction l with
  | nil => exact ⟨by decide, by decide⟩
  | cons d ds ih =>
    have h1 := ih (fun x hx => h x (List.mem_cons_of_mem _ hx))
    have h2 := h d (List.mem_cons_self ..)
    show 0 ≤ d + 65536 * V ds ∧ d + 65536 * V ds < 65536 * W ds.length
    omega

/-- Digits that are small are told by their number. -/
theorem V_inj : ∀ {a b : List Int}, a.length = b.length → Small a → Small b → V a = V b → a = b
  | [], [], _, _, _, _ => rfl
  | x :: a, y :: b, hl, ha, hb, h => by
    have h1 := ha x (List.mem_cons_self ..)
    have h2 := hb y (List.mem_cons_self ..)
    have h3 : x + 65536 * V a = y + 65536 * V b := h
    have h4 : x = y := by omega
    have h5 : V a = V b := by omega
    rw [h4, V_inj (by simpa using hl) (fun z hz => ha z (List.mem_cons_of_mem _ hz)) (fun z hz => hb z (List.mem_cons_of_mem _ hz)) h5]

/-- The carries run through a row: the digits made small, and what goes out above. -/
def chain : Int → List Int → List Int × Int
  | c, [] => ([], c)
  | c, d :: ds => (((d + c) % 65536) :: (chain ((d + c) / 65536) ds).1, (chain ((d + c) / 65536) ds).2)

theorem chain_len : ∀ (c : Int) (l : List Int), (chain c l).1.length = l.length
  | _, [] => rfl
  | c, d :: ds => by
    show (chain ((d + c) / 65536) ds).1.length + 1 = ds.length + 1
    rw [chain_len]

theorem chain_small : ∀ (c : Int) (l : List Int), Small (chain c l).1
  | _, [] => fun x hx => absurd hx (by simp [chain])
  | c, d :: ds => by
    intro x hx
    have hx : x ∈ ((d + c) % 65536) :: (chain ((d + c) / 65536) ds).1 := hx
    rcases List.mem_cons.mp hx with rfl | hx
    · omega
    · exact chain_small _ ds x hx

theorem chain_V : ∀ (c : Int) (l : List Int), V (chain c l).1 + (chain c l).2 * W l.length = V l + c
  | c, [] => by show 0 + c * 1 = 0 + c; omega
  | c, d :: ds => by
    have ih := chain_V ((d + c) / 65536) ds
    show ((d + c) % 65536 + 65536 * V (chain ((d + c) / 65536) ds).1) + (chain ((d + c) / 65536) ds).2 * (65536 * W ds.length) = d + 65536 * V ds + c
    generalize V (chain ((d + c) / 65536) ds).1 = v at *
    generalize (chain ((d + c) / 65536) ds).2 = w at *
    have e : w * (65536 * W ds.length) = 65536 * (w * W ds.length) := by grind only
    rw [e]
    generalize w * W ds.length = z at *
    omega

/-- What goes out above is the whole's quotient. -/
theorem chain_out (c : Int) (l : List Int) : (chain c l).2 = (V l + c) / W l.length ∧ V (chain c l).1 = (V l + c) % W l.length := by
  have h := chain_V c l
  have hs := V_small (chain_small c l)
  rw [chain_len] at hs
  have hW := W_pos l.length
  generalize W l.length = w at *
  generalize V (chain c l).1 = v at *
  generalize (chain c l).2 = q at *
  rw [← h]
  constructor
  · rw [Int.add_mul_ediv_right _ _ (by omega), Int.ediv_eq_zero_of_lt hs.1 hs.2]
    omega
  · rw [Int.add_mul_emod_self_right, Int.emod_eq_of_lt hs.1 hs.2]

/-- A bound for what goes out above. -/
theorem div_bound {v w b : Int} (hw : 0 < w) (h : v < b * w) (h' : -(b * w) ≤ v) : -b ≤ v / w ∧ v / w < b := by
  constructor
  · rw [Int.le_ediv_iff_mul_le hw]
    have : -b * w = -(b * w) := by grind only
    omega
  · rw [Int.ediv_lt_iff_lt_mul hw]
    exact h

end Nums

namespace Nums

/-- A whole number modulo p. -/
def zf (v : Int) : F := fof (v % (p : Int)).toNat
theorem zf_eq {a b : Int} (h : a % (p : Int) = b % (p : Int)) : zf a = zf b := by unfold zf; rw [h]
theorem zf_nat (a : Nat) : zf (a : Int) = fof a := by
  unfold zf
  rw [← Int.natCast_emod, Int.toNat_natCast, fof_mod]
theorem zf_val (v : Int) : ((zf v).val : Int) = v % (p : Int) := by
  have h0 : 0 ≤ v % (p : Int) := Int.emod_nonneg _ (by decide)
  have h1 : v % (p : Int) < p := Int.emod_lt_of_pos _ (by decide)
  unfold zf
  rw [fof_val, Nat.mod_eq_of_lt (by omega)]
  omega
theorem zf_inj {a b : Int} (h : zf a = zf b) : a % (p : Int) = b % (p : Int) := by rw [← zf_val, ← zf_val, h]
theorem zf_mod (v : Int) : zf (v % (p : Int)) = zf v := zf_eq (by rw [Int.emod_emod])
theorem zf_mul_p (k : Int) : zf (k * (p : Int)) = 0 := by
  apply Fin.ext
  have h := zf_val (k * (p : Int))
  rw [Int.mul_emod_left] at h
  show (zf (k * (p : Int))).val = 0
  omega
theorem zf_add (a b : Int) : zf (a + b) = zf a + zf b := by
  apply Fin.ext
  have h := zf_val (a + b)
  show (zf (a + b)).val = ((zf a).val + (zf b).val) % p
  have h2 : (((zf a).val + (zf b).val) % p : Nat) = (((zf a).val : Int) + (zf b).val) % (p : Int) := by simp
  have h3 : ((zf (a + b)).val : Int) = (((zf a).val + (zf b).val) % p : Nat) := by
    rw [h2, h, zf_val, zf_val, ← Int.add_emod]
  exact_mod_cast h3
theorem zf_mul (a b : Int) : zf (a * b) = zf a * zf b := by
  apply Fin.ext
  have h := zf_val (a * b)
  show (zf (a * b)).val = ((zf a).val * (zf b).val) % p
  have h2 : (((zf a).val * (zf b).val) % p : Nat) = (((zf a).val : Int) * (zf b).val) % (p : Int) := by simp
  have h3 : ((zf (a * b)).val : Int) = (((zf a).val * (zf b).val) % p : Nat) := by
    rw [h2, h, zf_val, zf_val, ← Int.mul_emod]
  exact_mod_cast h3
theorem zf_sub (a b : Int) : zf (a - b) = zf a - zf b := by
  have h : zf a = zf (a - b) + zf b := by rw [← zf_add]; congr 1; omega
  rw [h]
  grind only
theorem zf_zero : zf 0 = 0 := by have := zf_mul_p 0; rwa [Int.zero_mul] at this
theorem zf_one : zf 1 = 1 := by rw [show (1 : Int) = ((1 : Nat) : Int) from rfl, zf_nat, fof_one]
theorem zf_of (a : F) : zf (a.val : Int) = a := by rw [zf_nat, fof_of]

theorem W16 : W 16 = 2 * (p : Int) + 38 := by decide

/-- The carries of 16 digits, what goes out above coming back 38 times. -/
def carry (l : List Int) : List Int :=
  match chain 0 l with
  | (d :: ds, c) => (d + 38 * c) :: ds
  | ([], _) => []

/-- The digits behind the first are small; the first lies between. -/
def Loose (lo hi : Int) (l : List Int) : Prop := ∃ d ds, l = d :: ds ∧ ds.length = 15 ∧ Small ds ∧ lo ≤ d ∧ d ≤ hi

theorem carry_all {l : List Int} (h : l.length = 16) :
    Loose (38 * (V l / W 16)) (65535 + 38 * (V l / W 16)) (carry l) ∧ V (carry l) = V l % W 16 + 38 * (V l / W 16) := by
  have ho := chain_out 0 l
  have hs := chain_small 0 l
  have hl := chain_len 0 l
  unfold carry
  rw [h] at ho hl
  generalize chain 0 l = q at *
  obtain ⟨ds, c⟩ := q
  match ds with
  | [] => simp at hl
  | d :: ds =>
    have hd := hs d (List.mem_cons_self ..)
    simp only [Int.add_zero] at ho
    simp only
    refine ⟨⟨d + 38 * c, ds, rfl, by simpa using hl, fun x hx => hs x (List.mem_cons_of_mem _ hx), ?_, ?_⟩, ?_⟩
    · rw [← ho.1]; omega
    · rw [← ho.1]; omega
    · rw [← ho.1, ← ho.2]
      show d + 38 * c + 65536 * V ds = d + 65536 * V ds + 38 * c
      omega

theorem Loose.len {lo hi : Int} {l : List Int} (h : Loose lo hi l) : l.length = 16 := by
  obtain ⟨d, ds, rfl, h1, _⟩ := h
  simp [h1]
theorem Loose.small {lo hi : Int} {l : List Int} (h : Loose lo hi l) (h0 : 0 ≤ lo) (h1 : hi < 65536) : Small l := by
  obtain ⟨d, ds, rfl, _, h2, h3, h4⟩ := h
  intro x hx
  rcases List.mem_cons.mp hx with rfl | hx
  · omega
  · exact h2 x hx
theorem Loose.mono {lo hi lo' hi' : Int} {l : List Int} (h : Loose lo hi l) (h0 : lo' ≤ lo) (h1 : hi ≤ hi') : Loose lo' hi' l := by
  obtain ⟨d, ds, e, h1, h2, h3, h4⟩ := h
  exact ⟨d, ds, e, h1, h2, by omega, by omega⟩

theorem carry_zf {l : List Int} (h : l.length = 16) : zf (V (carry l)) = zf (V l) := by
  rw [(carry_all h).2]
  apply zf_eq
  have h1 := Int.emod_add_mul_ediv (V l) (W 16)
  have h2 := W16
  generalize V l / W 16 = c at *
  have h3 : V l % W 16 + 38 * c = V l + (-2 * c) * (p : Int) := by
    rw [← h1, h2]
    grind only
  rw [h3, Int.add_mul_emod_self_right]

theorem big : 1000000000000000000000000000000 < W 16 := by decide

/-- Two carries. -/
theorem carry_two {l : List Int} (h : l.length = 16) (hb : V l < 140737488355328 * W 16) (hb' : -(140737488355328 * W 16) ≤ V l) :
    Loose (-38) 65573 (carry (carry l)) ∧ V (carry (carry l)) = V (carry l) % W 16 + 38 * (V (carry l) / W 16) ∧ (V (carry l) / W 16 = -1 ∨ V (carry l) / W 16 = 0 ∨ V (carry l) / W 16 = 1)
      ∧ (-5348024557502464 ≤ V (carry l) ∧ V (carry l) < W 16 + 5348024557502464) := by
  have c1 := carry_all h
  have c2 := carry_all c1.1.len
  have hc := div_bound (W_pos 16) hb hb'
  have hW := big
  have hr := Int.emod_nonneg (V l) (b := W 16) (by have := W_pos 16; omega)
  have hr2 := Int.emod_lt_of_pos (V l) (W_pos 16)
  rw [c1.2] at c2 ⊢
  generalize V l / W 16 = c at *
  generalize V l % W 16 = r at *
  have hq := div_bound (v := r + 38 * c) (w := W 16) (b := 2) (W_pos 16) (by omega) (by omega)
  have hq2 : -1 ≤ (r + 38 * c) / W 16 := by
    rw [Int.le_ediv_iff_mul_le (W_pos 16)]
    omega
  generalize hqe : (r + 38 * c) / W 16 = q at *
  refine ⟨c2.1.mono (by omega) (by omega), c2.2, by omega, by omega, by omega⟩

/-- Three carries: the digits are small. -/
theorem carry_three {l : List Int} (h : l.length = 16) (hb : V l < 140737488355328 * W 16) (hb' : -(140737488355328 * W 16) ≤ V l) :
    (carry (carry (carry l))).length = 16 ∧ Small (carry (carry (carry l))) ∧ zf (V (carry (carry (carry l)))) = zf (V l) := by
  obtain ⟨k1, k2, k3, k4, k5⟩ := carry_two h hb hb'
  have c1 := carry_all h
  have c2 := carry_all c1.1.len
  have c3 := carry_all k1.len
  refine ⟨c3.1.len, ?_, by rw [carry_zf k1.len, carry_zf c1.1.len, carry_zf h]⟩
  have hW := big
  have hr := Int.emod_nonneg (V (carry l)) (b := W 16) (by have := W_pos 16; omega)
  have hr2 := Int.emod_lt_of_pos (V (carry l)) (W_pos 16)
  have hd := Int.emod_add_mul_ediv (V (carry l)) (W 16)
  have h0 : V (carry (carry l)) / W 16 = 0 := by
    rw [k2]
    generalize V (carry l) = v at *
    apply Int.ediv_eq_zero_of_lt
    · rcases k3 with k3 | k3 | k3
      · rw [k3] at hd ⊢; omega
      · rw [k3] at hd ⊢; omega
      · rw [k3] at hd ⊢; omega
    · rcases k3 with k3 | k3 | k3
      · rw [k3] at hd ⊢; omega
      · rw [k3] at hd ⊢; omega
      · rw [k3] at hd ⊢; omega
  rw [h0] at c3
  exact c3.1.small (by omega) (by omega)

end Nums

namespace Nums

theorem V_zip (f : Int → Int → Int) (k : Int) (hf : ∀ x y, f x y = x + k * y) : ∀ (a b : List Int), a.length = b.length → V (List.zipWith f a b) = V a + k * V b
  | [], [], _ => by show (0 : Int) = 0 + k * 0; omega
  | x :: a, y :: b, h => by
    have ih := V_zip f k hf a b (by simpa using h)
    show f x y + 65536 * V (List.zipWith f a b) = x + 65536 * V a + k * (y + 65536 * V b)
    rw [ih, hf]
    grind only

/-- p's digits. -/
def pdig : List Int := [65517, 65535, 65535, 65535, 65535, 65535, 65535, 65535, 65535, 65535, 65535, 65535, 65535, 65535, 65535, 32767]
theorem V_pdig : V pdig = (p : Int) := by decide
theorem W15 : W 16 = 65536 * W 15 := rfl

/-- The digits less p's. -/
def lessp (l : List Int) : List Int := List.zipWith (fun x y => x - y) l pdig
theorem lessp_len {l : List Int} (h : l.length = 16) : (lessp l).length = 16 := by simp [lessp, h, pdig]
theorem V_lessp {l : List Int} (h : l.length = 16) : V (lessp l) = V l - (p : Int) := by
  rw [lessp, V_zip _ (-1) (fun x y => by omega) l pdig (by simp [h, pdig]), V_pdig]
  omega

/-- The carries (here: what is lent) of all digits but the last. -/
def lent (l : List Int) : List Int := (chain 0 (l.take 15)).1 ++ [l[15]! + (chain 0 (l.take 15)).2]

theorem take15 {l : List Int} (h : l.length = 16) : l = l.take 15 ++ [l[15]!] := by
  have h1 : l.drop 15 = [l[15]!] := by
    rw [List.drop_eq_getElem_cons (by omega), List.drop_eq_nil_of_le (by omega)]
    rw [getElem!_pos l 15 (by omega)]
  calc l = l.take 15 ++ l.drop 15 := (List.take_append_drop 15 l).symm
    _ = _ := by rw [h1]

theorem lent_all {l : List Int} (h : l.length = 16) :
    (lent l).length = 16 ∧ Small ((lent l).take 15) ∧ V (lent l) = V l ∧ (0 ≤ (lent l)[15]! ↔ 0 ≤ V l) ∧ V (lent l) = V ((lent l).take 15) + W 15 * (lent l)[15]! := by
  have ht : (l.take 15).length = 15 := by simp [h]
  have hl := chain_len 0 (l.take 15)
  have hs := chain_small 0 (l.take 15)
  have hv := chain_V 0 (l.take 15)
  have he := take15 h
  have hV : V l = V (l.take 15) + W 15 * (l[15]! + 65536 * 0) := by
    conv => lhs; rw [he]
    rw [V_append, ht]
    rfl
  unfold lent
  rw [ht] at hl hv
  generalize chain 0 (l.take 15) = q at *
  obtain ⟨ds, c⟩ := q
  simp only at hl hs hv ⊢
  have g1 : (ds ++ [l[15]! + c])[15]! = l[15]! + c := by
    rw [getElem!_pos _ 15 (by simp [hl]), List.getElem_append_right (by omega)]
    simp [hl]
  have g2 : (ds ++ [l[15]! + c]).take 15 = ds := by rw [← hl, List.take_left]
  have g3 : V (ds ++ [l[15]! + c]) = V ds + W 15 * (l[15]! + c + 65536 * 0) := by rw [V_append, hl]; rfl
  have hd := V_small hs
  rw [hl] at hd
  have e : V (ds ++ [l[15]! + c]) = V l := by
    rw [g3, hV]
    have : c * W 15 = W 15 * c := by grind only
    grind only
  refine ⟨by simp [hl], by rw [g2]; exact hs, e, ?_, by rw [g1, g2, g3]; simp⟩
  rw [g1, ← e, g3]
  have hW := W_pos 15
  generalize l[15]! + c = x at *
  constructor
  · intro hx
    have : 0 ≤ W 15 * (x + 65536 * 0) := Int.mul_nonneg (by omega) (by omega)
    omega
  · intro hx
    apply Classical.byContradiction
    intro hn
    have h2 : W 15 * (x + 65536 * 0) ≤ W 15 * (-1) := Int.mul_le_mul_of_nonneg_left (by omega) (by omega)
    omega

/-- Once less p, if it is p or more. -/
def redp (l : List Int) : List Int := if 0 ≤ (lent (lessp l))[15]! then lent (lessp l) else l

theorem redp_all {l : List Int} (h : l.length = 16) (hs : Small l) :
    (redp l).length = 16 ∧ Small (redp l) ∧ V (redp l) = if (p : Int) ≤ V l then V l - (p : Int) else V l := by
  have ha := lent_all (lessp_len h)
  rw [V_lessp h] at ha
  have hv := V_small hs
  rw [h] at hv
  have hp : (0 : Int) < (p : Int) := by decide
  unfold redp
  by_cases hc : 0 ≤ (lent (lessp l))[15]!
  · have h1 := ha.2.2.2.1.mp hc
    rw [if_pos hc, if_pos (by omega)]
    refine ⟨ha.1, ?_, ha.2.2.1⟩
    have h2 := ha.2.2.2.2
    have h3 := ha.2.2.1
    have h4 := V_small ha.2.1
    intro x hx
    rw [take15 ha.1] at hx
    rcases List.mem_append.mp hx with hx | hx
    · exact ha.2.1 x hx
    · have hx : x = (lent (lessp l))[15]! := by simpa using hx
      subst hx
      refine ⟨hc, ?_⟩
      generalize (lent (lessp l))[15]! = y at *
      apply Classical.byContradiction
      intro hn
      have h5 : W 15 * 65536 ≤ W 15 * y := Int.mul_le_mul_of_nonneg_left (by omega) (by have := W_pos 15; omega)
      have h6 := W15
      omega
  · have h1 : ¬ 0 ≤ V l - (p : Int) := fun h => hc (ha.2.2.2.1.mpr h)
    rw [if_neg hc, if_neg (by omega)]
    exact ⟨h, hs, rfl⟩

/-- The row of a number's digits, below p. -/
def pack (l : List Int) : List Int := redp (redp (carry (carry (carry l))))

theorem pack_all {l : List Int} (h : l.length = 16) (hb : V l < 140737488355328 * W 16) (hb' : -(140737488355328 * W 16) ≤ V l) :
    (pack l).length = 16 ∧ Small (pack l) ∧ V (pack l) = ((zf (V l)).val : Int) := by
  obtain ⟨a1, a2, a3⟩ := carry_three h hb hb'
  unfold pack
  generalize carry (carry (carry l)) = t at *
  have r1 := redp_all a1 a2
  have r2 := redp_all r1.1 r1.2.1
  refine ⟨r2.1, r2.2.1, ?_⟩
  have hv := V_small a2
  rw [a1, W16] at hv
  have hz : V (redp (redp t)) % (p : Int) = V l % (p : Int) := by
    rw [← zf_inj a3, r2.2.2, r1.2.2]
    by_cases h1 : (p : Int) ≤ V t
    · rw [if_pos h1]
      by_cases h2 : (p : Int) ≤ V t - (p : Int)
      · rw [if_pos h2, Int.sub_emod_right, Int.sub_emod_right]
      · rw [if_neg h2, Int.sub_emod_right]
    · rw [if_neg h1, if_neg h1]
  rw [zf_val, ← hz]
  have hp : (38 : Int) < (p : Int) := by decide
  have hlt : 0 ≤ V (redp (redp t)) ∧ V (redp (redp t)) < (p : Int) := by
    rw [r2.2.2, r1.2.2]
    by_cases h1 : (p : Int) ≤ V t
    · rw [if_pos h1]
      by_cases h2 : (p : Int) ≤ V t - (p : Int)
      · rw [if_pos h2]; omega
      · rw [if_neg h2]; omega
    · rw [if_neg h1, if_neg h1]; omega
  rw [Int.emod_eq_of_lt hlt.1 hlt.2]

/-- The product's 31 digits, folded: what lies above 2^256 comes back 38 times. -/
def folded (t : List Int) : List Int := List.zipWith (fun x y => x + 38 * y) (t.take 16) (t.drop 16 ++ [0])

theorem V_folded {t : List Int} (h : t.length = 31) : (folded t).length = 16 ∧ zf (V (folded t)) = zf (V t) := by
  refine ⟨by simp [folded, h], ?_⟩
  have h1 := V_append (t.take 16) (t.drop 16)
  rw [List.take_append_drop, show (t.take 16).length = 16 by simp [h]] at h1
  have h2 := V_append (t.drop 16) [0]
  rw [show V [0] = 0 from rfl, Int.mul_zero, Int.add_zero] at h2
  apply zf_eq
  rw [folded, V_zip _ 38 (fun x y => rfl) _ _ (by simp [h]), h2, h1, W16]
  generalize V (t.take 16) = a
  generalize V (t.drop 16) = b
  have : a + (2 * (p : Int) + 38) * b = a + 38 * b + (2 * b) * (p : Int) := by grind only
  rw [this, Int.add_mul_emod_self_right]

/-- A row whose digits are bounded. -/
def Bnd (B : Int) (l : List Int) : Prop := ∀ x ∈ l, -B ≤ x ∧ x ≤ B

theorem V_bnd {B : Int} {l : List Int} (h : Bnd B l) : -(B * (W l.length - 1)) ≤ 65535 * V l ∧ 65535 * V l ≤ B * (W l.length - 1) := by
  induction l with
  | nil =>
    show -(B * (1 - 1)) ≤ 65535 * 0 ∧ 65535 * 0 ≤ B * (1 - 1)
    omega
  | cons d ds ih =>
    have h2 := h d (List.mem_cons_self ..)
    have h1 := ih (fun x hx => h x (List.mem_cons_of_mem _ hx))
    show -(B * (65536 * W ds.length - 1)) ≤ 65535 * (d + 65536 * V ds) ∧ 65535 * (d + 65536 * V ds) ≤ B * (65536 * W ds.length - 1)
    have e : B * (65536 * W ds.length - 1) = 65536 * (B * (W ds.length - 1)) + 65535 * B := by grind only
    rw [e]
    generalize B * (W ds.length - 1) = z at *
    omega

/-- What the carries need: digits of half a machine's width. -/
theorem V_room {l : List Int} (hl : l.length = 16) (h : Bnd 4611686018427387904 l) : V l < 140737488355328 * W 16 ∧ -(140737488355328 * W 16) ≤ V l := by
  have h1 := V_bnd h
  rw [hl] at h1
  have h2 := W_pos 16
  omega

theorem Small.bnd {l : List Int} (h : Small l) : Bnd 65535 l := fun x hx => by have := h x hx; omega
theorem Bnd.mono {B C : Int} {l : List Int} (h : Bnd B l) (hc : B ≤ C) : Bnd C l := fun x hx => by have := h x hx; omega
theorem Loose.bnd {lo hi B : Int} {l : List Int} (h : Loose lo hi l) (h0 : -B ≤ lo) (h1 : hi ≤ B) (h2 : 65535 ≤ B) : Bnd B l := by
  obtain ⟨d, ds, rfl, _, h3, h4, h5⟩ := h
  intro x hx
  rcases List.mem_cons.mp hx with rfl | hx
  · omega
  · have := h3 x hx; omega

/-- Bytes, the least first. -/
def le : List UInt8 → Nat
  | [] => 0
  | b :: bs => b.toNat + 256 * le bs

/-- The bytes of digits, the digits of bytes. -/
def split : List Int → List UInt8
  | [] => []
  | d :: ds => UInt8.ofNat (d % 256).toNat :: UInt8.ofNat (d / 256).toNat :: split ds
def join : List UInt8 → List Int
  | a :: b :: bs => ((a.toNat : Int) + 256 * (b.toNat : Int)) :: join bs
  | _ => []

theorem split_len : ∀ l : List Int, (split l).length = 2 * l.length
  | [] => rfl
  | d :: ds => by
    show (split ds).length + 1 + 1 = 2 * (ds.length + 1)
    rw [split_len ds]
    omega

theorem le_split : ∀ {l : List Int}, Small l → (le (split l) : Int) = V l
  | [], _ => rfl
  | d :: ds, h => by
    have h1 := h d (List.mem_cons_self ..)
    have ih := le_split (l := ds) (fun x hx => h x (List.mem_cons_of_mem _ hx))
    show (((UInt8.ofNat (d % 256).toNat).toNat + 256 * ((UInt8.ofNat (d / 256).toNat).toNat + 256 * le (split ds)) : Nat) : Int) = d + 65536 * V ds
    rw [← ih, UInt8.toNat_ofNat', UInt8.toNat_ofNat']
    omega

theorem join_small : ∀ l : List UInt8, Small (join l)
  | [] => fun x hx => absurd hx (by simp [join])
  | [_] => fun x hx => absurd hx (by simp [join])
  | a :: b :: bs => fun x hx => by
    have ha := a.toNat_lt
    have hb := b.toNat_lt
    rcases List.mem_cons.mp (show x ∈ ((a.toNat : Int) + 256 * (b.toNat : Int)) :: join bs from hx) with rfl | hx
    · omega
    · exact join_small bs x hx

theorem V_join : ∀ (k : Nat) (l : List UInt8), l.length = 2 * k → (join l).length = k ∧ V (join l) = (le l : Int)
  | 0, [], _ => ⟨rfl, rfl⟩
  | 0, _ :: _, h => absurd h (by simp)
  | k + 1, [], h => absurd h (by simp)
  | k + 1, [_], h => by simp at h; omega
  | k + 1, a :: b :: bs, h => by
    obtain ⟨h1, h2⟩ := V_join k bs (by simp at h; omega)
    refine ⟨by show (join bs).length + 1 = k + 1; rw [h1], ?_⟩
    show (a.toNat : Int) + 256 * (b.toNat : Int) + 65536 * V (join bs) = ((a.toNat + 256 * (b.toNat + 256 * le bs) : Nat) : Int)
    rw [h2]
    omega

theorem le_inj : ∀ {a b : List UInt8}, a.length = b.length → le a = le b → a = b
  | [], [], _, _ => rfl
  | x :: a, y :: b, hl, h => by
    have h1 := x.toNat_lt
    have h2 := y.toNat_lt
    have h3 : x.toNat + 256 * le a = y.toNat + 256 * le b := h
    have h4 : x = y := UInt8.toNat.inj (by omega)
    have h5 := le_inj (a := a) (b := b) (by simpa using hl) (by omega)
    rw [h4, h5]

/-- So many bytes of a number, the least first. -/
def bytes : Nat → Nat → List UInt8
  | 0, _ => []
  | k + 1, v => UInt8.ofNat v :: bytes k (v / 256)
theorem bytes_len : ∀ k v, (bytes k v).length = k
  | 0, _ => rfl
  | k + 1, v => by show (bytes k (v / 256)).length + 1 = k + 1; rw [bytes_len]
theorem le_bytes : ∀ k v, le (bytes k v) = v % 256 ^ k
  | 0, v => by show 0 = v % 1; omega
  | k + 1, v => by
    show (UInt8.ofNat v).toNat + 256 * le (bytes k (v / 256)) = v % 256 ^ (k + 1)
    rw [le_bytes, UInt8.toNat_ofNat', show 256 ^ (k + 1) = 256 * 256 ^ k by rw [Nat.pow_succ, Nat.mul_comm], Nat.mod_mul]

/-- The bytes of a number modulo p. -/
def enc (x : F) : List UInt8 := bytes 32 x.val
theorem enc_len (x : F) : (enc x).length = 32 := bytes_len _ _
theorem le_enc (x : F) : le (enc x) = x.val := by
  unfold enc
  rw [le_bytes]
  exact Nat.mod_eq_of_lt (Nat.lt_trans x.isLt (by decide))
theorem enc_inj {x y : F} (h : enc x = enc y) : x = y := by
  apply Fin.ext
  rw [← le_enc, ← le_enc, h]
theorem enc_of {b : List UInt8} (hb : b.length = 32) {x : F} (h : le b = x.val) : b = enc x :=
  le_inj (by rw [hb, enc_len]) (by rw [h, le_enc])
theorem fof_enc (x : F) : fof (le (enc x)) = x := by rw [le_enc, fof_of]

/-- The packed bytes are the number's own. -/
theorem split_pack {l : List Int} (h : l.length = 16) (hb : Bnd 4611686018427387904 l) : split (pack l) = enc (zf (V l)) := by
  obtain ⟨v1, v2⟩ := V_room h hb
  obtain ⟨a1, a2, a3⟩ := pack_all h v1 v2
  apply enc_of
  · rw [split_len, a1]
  · have := le_split a2
    omega

end Nums
/-
  PLAIN NUMBERS: the digests of FIPS 180-4 over words of w bits: turned words, the message's words, rounds, blocks, the message's end. No program is imported.
-/
namespace Nums

/-- A word turned to the right. -/
def rotw (w n x : Nat) : Nat := x / 2 ^ n + x % 2 ^ n * 2 ^ (w - n)
def chw (w e f g : Nat) : Nat := (e &&& f) ^^^ ((2 ^ w - 1 - e) &&& g)
def maw (a b c : Nat) : Nat := (a &&& b) ^^^ (a &&& c) ^^^ (b &&& c)

/-- Which digest: the words' bits, how many rounds, how words are turned, and the rounds' numbers. -/
structure Sha where
  w : Nat
  n : Nat
  big1 : Nat × Nat × Nat
  big0 : Nat × Nat × Nat
  low1 : Nat × Nat × Nat
  low0 : Nat × Nat × Nat
  k : Nat → Nat
  start : List Nat
def bigw (w : Nat) (t : Nat × Nat × Nat) (x : Nat) : Nat := rotw w t.1 x ^^^ rotw w t.2.1 x ^^^ rotw w t.2.2 x
def loww (w : Nat) (t : Nat × Nat × Nat) (x : Nat) : Nat := rotw w t.1 x ^^^ rotw w t.2.1 x ^^^ x / 2 ^ t.2.2

/-- The first 64 bits of the fractions of the first primes' square roots, and cube roots. -/
def sqs : List Nat := [7640891576956012808, 13503953896175478587, 4354685564936845355, 11912009170470909681, 5840696475078001361, 11170449401992604703, 2270897969802886507, 6620516959819538809]
def cbs : List Nat := [4794697086780616226, 8158064640168781261, 13096744586834688815, 16840607885511220156, 4131703408338449720, 6480981068601479193, 10538285296894168987, 12329834152419229976, 15566598209576043074, 1334009975649890238, 2608012711638119052, 6128411473006802146, 8268148722764581231, 9286055187155687089, 11230858885718282805, 13951009754708518548, 16472876342353939154, 17275323862435702243, 1135362057144423861, 2597628984639134821, 3308224258029322869, 5365058923640841347, 6679025012923562964, 8573033837759648693, 10970295158949994411, 12119686244451234320, 12683024718118986047, 13788192230050041572, 14330467153632333762, 15395433587784984357, 489312712824947311, 1452737877330783856, 2861767655752347644, 3322285676063803686, 5560940570517711597, 5996557281743188959, 7280758554555802590, 8532644243296465576, 9350256976987008742, 10552545826968843579, 11727347734174303076, 12113106623233404929, 14000437183269869457, 14369950271660146224, 15101387698204529176, 15463397548674623760, 17586052441742319658, 1182934255886127544, 1847814050463011016, 2177327727835720531, 2830643537854262169, 3796741975233480872, 4115178125766777443, 5681478168544905931, 6601373596472566643, 7507060721942968483, 8399075790359081724, 8693463985226723168, 9568029438360202098, 10144078919501101548, 10430055236837252648, 11840083180663258601, 13761210420658862357, 14299343276471374635, 14566680578165727644, 15097957966210449927, 16922976911328602910, 17689382322260857208, 500013540394364858, 748580250866718886, 1242879168328830382, 1977374033974150939, 2944078676154940804, 3659926193048069267, 4368137639120453308, 4836135668995329356, 5532061633213252278, 6448918945643986474, 6902733635092675308, 7801388544844847127]
def s512 : Sha where
  w := 64
  n := 80
  big1 := (14, 18, 41)
  big0 := (28, 34, 39)
  low1 := (19, 61, 6)
  low0 := (1, 8, 7)
  k := fun t => cbs[t]!
  start := sqs
def s256 : Sha where
  w := 32
  n := 64
  big1 := (6, 11, 25)
  big0 := (2, 13, 22)
  low1 := (17, 19, 10)
  low0 := (7, 18, 3)
  k := fun t => cbs[t]! / 4294967296
  start := sqs.map (· / 4294967296)

/-- Bytes f 0, f 1 .. as a number, the greatest first. -/
def ben (f : Nat → Nat) : Nat → Nat
  | 0 => 0
  | j + 1 => ben f j * 256 + f j
theorem ben_lt {f : Nat → Nat} (h : ∀ j, f j < 256) : ∀ j, ben f j < 256 ^ j
  | 0 => Nat.one_pos
  | j + 1 => by
    have h1 := ben_lt h j
    have h2 := h j
    show ben f j * 256 + f j < 256 ^ (j + 1)
    rw [Nat.pow_succ]
    omega
/-- A block's word. -/
def bword (s : Sha) (b : List UInt8) (t : Nat) : Nat := ben (fun k => (b[t * (s.w / 8) + k]!).toNat) (s.w / 8)
/-- The message's words. -/
def sx (s : Sha) (b : List UInt8) (t : Nat) : Nat :=
  if _h : t < 16 then bword s b t else (loww s.w s.low1 (sx s b (t - 2)) + sx s b (t - 7) + loww s.w s.low0 (sx s b (t - 15)) + sx s b (t - 16)) % 2 ^ s.w
termination_by t
decreasing_by all_goals omega

/-- Eight words, and a round. -/
structure Oct where
  a : Nat
  b : Nat
  c : Nat
  d : Nat
  e : Nat
  f : Nat
  g : Nat
  h : Nat
def Oct.list (o : Oct) : List Nat := [o.a, o.b, o.c, o.d, o.e, o.f, o.g, o.h]
def t1w (s : Sha) (k x : Nat) (o : Oct) : Nat := o.h + bigw s.w s.big1 o.e + chw s.w o.e o.f o.g + k + x
def t2w (s : Sha) (o : Oct) : Nat := bigw s.w s.big0 o.a + maw o.a o.b o.c
def rnd (s : Sha) (k x : Nat) (o : Oct) : Oct := ⟨(t1w s k x o + t2w s o) % 2 ^ s.w, o.a, o.b, o.c, (o.d + t1w s k x o) % 2 ^ s.w, o.e, o.f, o.g⟩
def rnds (s : Sha) (b : List UInt8) (o : Oct) : Nat → Oct
  | 0 => o
  | t + 1 => rnd s (s.k t) (sx s b t) (rnds s b o t)
def add8 (w : Nat) (o p : Oct) : Oct := ⟨(o.a + p.a) % 2 ^ w, (o.b + p.b) % 2 ^ w, (o.c + p.c) % 2 ^ w, (o.d + p.d) % 2 ^ w, (o.e + p.e) % 2 ^ w, (o.f + p.f) % 2 ^ w, (o.g + p.g) % 2 ^ w, (o.h + p.h) % 2 ^ w⟩
/-- The eight words turned by a block. -/
def turnw (s : Sha) (o : Oct) (b : List UInt8) : Oct := add8 s.w o (rnds s b o s.n)

/-! ### Bounds -/
theorem xor_lt {a b w : Nat} (ha : a < 2 ^ w) (hb : b < 2 ^ w) : a ^^^ b < 2 ^ w := Nat.xor_lt_two_pow ha hb
theorem and_lt {a b w : Nat} (ha : a < 2 ^ w) : a &&& b < 2 ^ w := Nat.lt_of_le_of_lt Nat.and_le_left ha
theorem rotw_lt {w n x : Nat} (hn : n ≤ w) (hx : x < 2 ^ w) : rotw w n x < 2 ^ w := by
  have e : (2 : Nat) ^ w = 2 ^ n * 2 ^ (w - n) := by rw [← Nat.pow_add, Nat.add_sub_cancel' hn]
  have h1 : x / 2 ^ n < 2 ^ (w - n) := Nat.div_lt_of_lt_mul (by rw [← e]; exact hx)
  have h2 : x % 2 ^ n + 1 ≤ 2 ^ n := Nat.mod_lt _ (Nat.two_pow_pos n)
  have h3 := Nat.mul_le_mul_right (2 ^ (w - n)) h2
  rw [← e, Nat.add_mul, Nat.one_mul] at h3
  unfold rotw
  omega
theorem bigw_lt {w x : Nat} {t : Nat × Nat × Nat} (h : t.1 ≤ w ∧ t.2.1 ≤ w ∧ t.2.2 ≤ w) (hx : x < 2 ^ w) : bigw w t x < 2 ^ w :=
  xor_lt (xor_lt (rotw_lt h.1 hx) (rotw_lt h.2.1 hx)) (rotw_lt h.2.2 hx)
theorem loww_lt {w x : Nat} {t : Nat × Nat × Nat} (h : t.1 ≤ w ∧ t.2.1 ≤ w) (hx : x < 2 ^ w) : loww w t x < 2 ^ w :=
  xor_lt (xor_lt (rotw_lt h.1 hx) (rotw_lt h.2 hx)) (Nat.lt_of_le_of_lt (Nat.div_le_self _ _) hx)
theorem chw_lt {w e f g : Nat} (he : e < 2 ^ w) : chw w e f g < 2 ^ w := xor_lt (and_lt he) (and_lt (by have := Nat.two_pow_pos w; omega))
theorem maw_lt {w a b c : Nat} (ha : a < 2 ^ w) (hb : b < 2 ^ w) : maw a b c < 2 ^ w := xor_lt (xor_lt (and_lt ha) (and_lt ha)) (and_lt hb)
theorem sx_lt (s : Sha) (b : List UInt8) (hw : s.w / 8 * 8 = s.w) (t : Nat) : sx s b t < 2 ^ s.w := by
  rw [sx]
  split
  · have h := ben_lt (f := fun k => (b[t * (s.w / 8) + k]!).toNat) (fun j => UInt8.toNat_lt _) (s.w / 8)
    rw [show (256 : Nat) = 2 ^ 8 from rfl, ← Nat.pow_mul, Nat.mul_comm 8, hw] at h
    exact h
  · exact Nat.mod_lt _ (Nat.two_pow_pos _)
/-- All eight are words. -/
structure OB (w : Nat) (o : Oct) : Prop where
  a : o.a < 2 ^ w
  b : o.b < 2 ^ w
  c : o.c < 2 ^ w
  d : o.d < 2 ^ w
  e : o.e < 2 ^ w
  f : o.f < 2 ^ w
  g : o.g < 2 ^ w
  h : o.h < 2 ^ w
theorem OB.rnd {s : Sha} {o : Oct} (h : OB s.w o) (k x : Nat) : OB s.w (rnd s k x o) :=
  ⟨Nat.mod_lt _ (Nat.two_pow_pos _), h.a, h.b, h.c, Nat.mod_lt _ (Nat.two_pow_pos _), h.e, h.f, h.g⟩
theorem OB.rnds {s : Sha} {b : List UInt8} {o : Oct} (h : OB s.w o) : ∀ t, OB s.w (rnds s b o t)
  | 0 => h
  | t + 1 => (OB.rnds h t).rnd _ _
theorem OB.add8 (w : Nat) (o p : Oct) : OB w (add8 w o p) := by
  constructor <;> exact Nat.mod_lt _ (Nat.two_pow_pos _)
theorem OB.turnw (s : Sha) (o : Oct) (b : List UInt8) : OB s.w (turnw s o b) := OB.add8 _ _ _

/-! ### The other spellings -/
theorem ch_or {w e f g : Nat} (he : e < 2 ^ w) : (e &&& f) ||| ((2 ^ w - 1 - e) &&& g) = chw w e f g := by
  unfold chw
  apply Nat.eq_of_testBit_eq
  intro i
  simp only [Nat.testBit_or, Nat.testBit_xor, Nat.testBit_and]
  have h := Nat.testBit_two_pow_sub_succ he i
  rw [show 2 ^ w - 1 - e = 2 ^ w - (e + 1) by omega, h]
  cases e.testBit i <;> cases f.testBit i <;> cases g.testBit i <;> simp
theorem ma_or (a b c : Nat) : (a &&& b) ||| (a &&& c) ||| (b &&& c) = maw a b c := by
  unfold maw
  apply Nat.eq_of_testBit_eq
  intro i
  simp only [Nat.testBit_or, Nat.testBit_xor, Nat.testBit_and]
  cases a.testBit i <;> cases b.testBit i <;> cases c.testBit i <;> rfl

/-! ### The whole message -/
/-- Block behind block. -/
def runw (s : Sha) (B : Nat) (o : Oct) (l : List UInt8) : Oct :=
  if _h : B = 0 ∨ l.length < B then o else runw s B (turnw s o (l.take B)) (l.drop B)
termination_by l.length
decreasing_by
  rw [List.length_drop]
  omega
theorem runw_short {s : Sha} {B : Nat} {o : Oct} {l : List UInt8} (h : l.length < B) : runw s B o l = o := by
  rw [runw, dif_pos (.inr h)]
theorem runw_block {s : Sha} {B : Nat} {o : Oct} {b l : List UInt8} (hB : 0 < B) (h : b.length = B) : runw s B o (b ++ l) = runw s B (turnw s o b) l := by
  rw [runw, dif_neg (by rw [List.length_append]; omega), ← h, List.take_left, List.drop_left]
/-- Whole blocks, then the rest. -/
theorem runw_append {s : Sha} {B : Nat} (hB : 0 < B) : ∀ (n : Nat) {o : Oct} {a l : List UInt8}, a.length = n * B → runw s B o (a ++ l) = runw s B (runw s B o a) l
  | 0, o, a, l, h => by
    have h0 : a = [] := List.eq_nil_of_length_eq_zero (by omega)
    subst h0
    rw [List.nil_append, runw_short (l := []) (by simpa using hB)]
  | n + 1, o, a, l, h => by
    have hl : (a.take B).length = B := by rw [List.length_take, h, Nat.add_mul]; omega
    have hd : (a.drop B).length = n * B := by rw [List.length_drop, h, Nat.add_mul]; omega
    have e : a = a.take B ++ a.drop B := (List.take_append_drop B a).symm
    rw [e, List.append_assoc, runw_block hB hl, runw_block hB hl, runw_append hB n hd]
/-- Eight bytes of a number, the greatest first. -/
def be64 (v : Nat) : List UInt8 := (bytes 8 v).reverse
/-- What stands behind the message: r bytes of its last block are there, it has v bits. -/
def tailw (B r v : Nat) : List UInt8 := 128 :: (List.replicate ((if r + 1 ≤ B - B / 8 then B else 2 * B) - 9 - r) 0 ++ be64 v)
/-- The digest's words. -/
def sumw (s : Sha) (m : List UInt8) : Oct := runw s (2 * s.w) (⟨s.start[0]!, s.start[1]!, s.start[2]!, s.start[3]!, s.start[4]!, s.start[5]!, s.start[6]!, s.start[7]!⟩) (m ++ tailw (2 * s.w) (m.length % (2 * s.w)) (8 * m.length))
/-- A word's bytes, the greatest first. -/
def layw (s : Sha) (x : Nat) : List UInt8 := (bytes (s.w / 8) x).reverse
def digest (s : Sha) (m : List UInt8) : List UInt8 := ((sumw s m).list.map (layw s)).flatten
end Nums
/-
  PLAIN NUMBERS: pairs of keys and values in their order, keys' bits, the root of pairs. No program is imported.
-/
namespace Nums

/-- A key's bit. -/
def bitT (k : List UInt8) (n : Nat) : Nat := (k[n / 8]!).toNat / 2 ^ (7 - n % 8) % 2
/-- Byte by byte. -/
def lessT : List UInt8 → List UInt8 → Bool
  | a :: az, b :: bs => if a = b then lessT az bs else decide (a.toNat < b.toNat)
  | _, _ => false
abbrev PairT := List UInt8 × List UInt8
def putT : List PairT → PairT → List PairT
  | [], p => [p]
  | q :: r, p => if lessT q.1 p.1 then q :: putT r p else if q.1 = p.1 then p :: r else p :: q :: r
def getT (l : List PairT) (k : List UInt8) : Option (List UInt8) := (l.find? fun q => q.1 == k).map (·.2)
def z32T : List UInt8 := List.replicate 32 0
def leafT (p : PairT) : List UInt8 := digest s256 (0 :: (p.1 ++ p.2))
def nodeT (a b : List UInt8) : List UInt8 := digest s256 (1 :: (a ++ b))
/-- The root of pairs whose keys have r bits left. -/
def rootT : Nat → List PairT → List UInt8
  | _, [] => z32T
  | _, [p] => leafT p
  | 0, _ :: _ :: _ => z32T
  | r + 1, p :: q :: l => nodeT (rootT r ((p :: q :: l).filter fun x => bitT x.1 (255 - r) == 0)) (rootT r ((p :: q :: l).filter fun x => bitT x.1 (255 - r) != 0))

/-! ### The order -/
theorem lessT_irrefl : ∀ a : List UInt8, lessT a a = false
  | [] => rfl
  | a :: az => by unfold lessT; rw [if_pos rfl]; exact lessT_irrefl az
theorem lessT_trans : ∀ {a b c : List UInt8}, lessT a b = true → lessT b c = true → lessT a c = true
  | [], _, _, h, _ => by cases ‹List UInt8› <;> cases h
  | _ :: _, [], _, h, _ => by cases h
  | _ :: _, _ :: _, [], _, h => by cases h
  | a :: az, b :: bs, c :: cs, h, k => by
    unfold lessT at h k ⊢
    by_cases e1 : a = b
    · subst e1
      rw [if_pos rfl] at h
      by_cases e2 : a = c
      · rw [if_pos e2] at k ⊢
        exact lessT_trans h k
      · rw [if_neg e2] at k ⊢
        exact k
    · rw [if_neg e1] at h
      have h := of_decide_eq_true h
      by_cases e2 : b = c
      · subst e2
        rw [if_neg e1]
        exact decide_eq_true h
      · rw [if_neg e2] at k
        have k := of_decide_eq_true k
        have e3 : a ≠ c := fun e => by subst e; omega
        rw [if_neg e3]
        exact decide_eq_true (by omega)
theorem lessT_total : ∀ {a b : List UInt8}, a.length = b.length → lessT a b = false → a ≠ b → lessT b a = true
  | [], [], _, _, h => absurd rfl h
  | [], _ :: _, h, _, _ => by cases h
  | _ :: _, [], h, _, _ => by cases h
  | a :: az, b :: bs, hl, h, hn => by
    unfold lessT at h ⊢
    by_cases e : a = b
    · subst e
      rw [if_pos rfl] at h ⊢
      exact lessT_total (by simpa using hl) h fun e => hn (by rw [e])
    · rw [if_neg e] at h
      rw [if_neg fun x => e x.symm]
      have h := of_decide_eq_false h
      have : a.toNat ≠ b.toNat := fun x => e (UInt8.toNat_inj.1 x)
      exact decide_eq_true (by omega)
theorem lessT_asymm {a b : List UInt8} (h : lessT a b = true) : lessT b a = false := by
  cases hb : lessT b a with
  | false => rfl
  | true => have := lessT_trans h hb; rw [lessT_irrefl] at this; cases this

/-! ### Pairs in their order -/
def SortT (l : List PairT) : Prop := l.Pairwise fun p q => lessT p.1 q.1 = true
/-- Keys are whole. -/
def KeysT (l : List PairT) : Prop := ∀ p ∈ l, p.1.length = 32
theorem SortT.cons {p : PairT} {l : List PairT} : SortT (p :: l) ↔ (∀ q ∈ l, lessT p.1 q.1 = true) ∧ SortT l := List.pairwise_cons
theorem SortT.filter {l : List PairT} (h : SortT l) (f : PairT → Bool) : SortT (l.filter f) := List.Pairwise.filter f h
theorem KeysT.filter {l : List PairT} (h : KeysT l) (f : PairT → Bool) : KeysT (l.filter f) := fun p hp => h p (List.mem_filter.1 hp).1
/-- The order tells the list. -/
theorem SortT.ext : ∀ {l m : List PairT}, SortT l → SortT m → (∀ p, p ∈ l ↔ p ∈ m) → l = m
  | [], [], _, _, _ => rfl
  | [], q :: m, _, _, h => absurd ((h q).2 List.mem_cons_self) (by simp)
  | p :: l, [], _, _, h => absurd ((h p).1 List.mem_cons_self) (by simp)
  | p :: l, q :: m, hl, hm, h => by
    obtain ⟨h1, h2⟩ := SortT.cons.1 hl
    obtain ⟨k1, k2⟩ := SortT.cons.1 hm
    have e : p = q := by
      rcases List.mem_cons.1 ((h p).1 List.mem_cons_self) with e | hp
      · exact e
      · rcases List.mem_cons.1 ((h q).2 List.mem_cons_self) with e | hq
        · exact e.symm
        · have a := h1 q hq
          rw [lessT_asymm (k1 p hp)] at a
          cases a
    subst e
    refine congrArg (p :: ·) (SortT.ext h2 k2 fun x => ⟨fun hx => ?_, fun hx => ?_⟩)
    · rcases List.mem_cons.1 ((h x).1 (List.mem_cons_of_mem _ hx)) with e | hx2
      · subst e
        have a := h1 x hx
        rw [lessT_irrefl] at a
        cases a
      · exact hx2
    · rcases List.mem_cons.1 ((h x).2 (List.mem_cons_of_mem _ hx)) with e | hx2
      · subst e
        have a := k1 x hx
        rw [lessT_irrefl] at a
        cases a
      · exact hx2
/-- One key, one pair. -/
theorem SortT.key {l : List PairT} (h : SortT l) {p q : PairT} (hp : p ∈ l) (hq : q ∈ l) (e : p.1 = q.1) : p = q := by
  induction l with
  | nil => cases hp
  | cons x l ih =>
    obtain ⟨h1, h2⟩ := SortT.cons.1 h
    rcases List.mem_cons.1 hp with e1 | hp2 <;> rcases List.mem_cons.1 hq with e2 | hq2
    · rw [e1, e2]
    · have := h1 q hq2
      rw [← e1, ← e, lessT_irrefl] at this
      cases this
    · have := h1 p hp2
      rw [← e2, e, lessT_irrefl] at this
      cases this
    · exact ih h2 hp2 hq2
theorem putT_mem : ∀ {l : List PairT} {p : PairT}, SortT l → KeysT l → p.1.length = 32 → ∀ x, x ∈ putT l p ↔ x = p ∨ (x ∈ l ∧ x.1 ≠ p.1)
  | [], p, _, _, _, x => by simp [putT]
  | q :: l, p, hs, hk, hp, x => by
    obtain ⟨h1, h2⟩ := SortT.cons.1 hs
    have hq : q.1.length = 32 := hk q List.mem_cons_self
    have hkl : KeysT l := fun y hy => hk y (List.mem_cons_of_mem _ hy)
    unfold putT
    by_cases h : lessT q.1 p.1 = true
    · rw [if_pos h, List.mem_cons, putT_mem h2 hkl hp x, List.mem_cons]
      have hne : q.1 ≠ p.1 := fun e => by rw [e, lessT_irrefl] at h; cases h
      constructor
      · rintro (rfl | rfl | ⟨a, b⟩)
        · exact .inr ⟨.inl rfl, hne⟩
        · exact .inl rfl
        · exact .inr ⟨.inr a, b⟩
      · rintro (rfl | ⟨rfl | a, b⟩)
        · exact .inr (.inl rfl)
        · exact .inl rfl
        · exact .inr (.inr ⟨a, b⟩)
    · rw [if_neg h]
      by_cases e : q.1 = p.1
      · rw [if_pos e, List.mem_cons, List.mem_cons]
        constructor
        · rintro (rfl | a)
          · exact .inl rfl
          · exact .inr ⟨.inr a, fun e2 => by have := h1 x a; rw [e, e2, lessT_irrefl] at this; cases this⟩
        · rintro (rfl | ⟨rfl | a, b⟩)
          · exact .inl rfl
          · exact absurd e b
          · exact .inr a
      · rw [if_neg e, List.mem_cons, List.mem_cons]
        have hgt := lessT_total (by rw [hq, hp]) (by simpa using h) e
        constructor
        · rintro (rfl | rfl | a)
          · exact .inl rfl
          · exact .inr ⟨.inl rfl, e⟩
          · exact .inr ⟨.inr a, fun e2 => by have := lessT_trans hgt (h1 x a); rw [e2, lessT_irrefl] at this; cases this⟩
        · rintro (rfl | ⟨rfl | a, b⟩)
          · exact .inl rfl
          · exact .inr (.inl rfl)
          · exact .inr (.inr a)
theorem putT_keys {l : List PairT} {p : PairT} (hs : SortT l) (hk : KeysT l) (hp : p.1.length = 32) : KeysT (putT l p) := fun x hx => by
  rcases (putT_mem hs hk hp x).1 hx with rfl | h
  · exact hp
  · exact hk x h.1
theorem putT_sort : ∀ {l : List PairT} {p : PairT}, SortT l → KeysT l → p.1.length = 32 → SortT (putT l p)
  | [], p, _, _, _ => by simp [putT, SortT]
  | q :: l, p, hs, hk, hp => by
    obtain ⟨h1, h2⟩ := SortT.cons.1 hs
    have hq : q.1.length = 32 := hk q List.mem_cons_self
    have hkl : KeysT l := fun y hy => hk y (List.mem_cons_of_mem _ hy)
    unfold putT
    by_cases h : lessT q.1 p.1 = true
    · rw [if_pos h]
      refine SortT.cons.2 ⟨fun x hx => ?_, putT_sort h2 hkl hp⟩
      rcases (putT_mem h2 hkl hp x).1 hx with rfl | hx
      · exact h
      · exact h1 x hx.1
    · rw [if_neg h]
      by_cases e : q.1 = p.1
      · rw [if_pos e]
        exact SortT.cons.2 ⟨fun x hx => by rw [← e]; exact h1 x hx, h2⟩
      · rw [if_neg e]
        have hgt := lessT_total (by rw [hq, hp]) (by simpa using h) e
        refine SortT.cons.2 ⟨fun x hx => ?_, hs⟩
        rcases List.mem_cons.1 hx with rfl | hx
        · exact hgt
        · exact lessT_trans hgt (h1 x hx)
theorem getT_some {l : List PairT} {k v : List UInt8} (hs : SortT l) : getT l k = some v ↔ (k, v) ∈ l := by
  unfold getT
  constructor
  · intro h
    cases hf : l.find? (fun q => q.1 == k) with
    | none => rw [hf] at h; cases h
    | some q =>
      rw [hf] at h
      simp only [Option.map_some, Option.some.injEq] at h
      have h1 := List.find?_some hf
      have h2 := List.mem_of_find?_eq_some hf
      have e : q.1 = k := by simpa using h1
      subst e
      subst h
      exact h2
  · intro h
    cases hf : l.find? (fun q => q.1 == k) with
    | none =>
      have := List.find?_eq_none.1 hf (k, v) h
      simp at this
    | some q =>
      have h1 := List.find?_some hf
      have h2 := List.mem_of_find?_eq_some hf
      have e : q.1 = k := by simpa using h1
      have := hs.key h2 h e
      subst this
      rfl
theorem getT_none {l : List PairT} {k : List UInt8} : getT l k = none ↔ ∀ q ∈ l, q.1 ≠ k := by
  unfold getT
  rw [Option.map_eq_none_iff, List.find?_eq_none]
  simp

/-! ### Bits -/
theorem bitT_lt (k : List UInt8) (n : Nat) : bitT k n < 2 := Nat.mod_lt _ (by decide)
/-- Bytes whose bits are one and the same are so. -/
theorem byte_bits (a b : Nat) (ha : a < 256) (hb : b < 256) (h : ∀ j, j < 8 → a / 2 ^ (7 - j) % 2 = b / 2 ^ (7 - j) % 2) : a = b := by
  have h0 := h 0 (by decide)
  have h1 := h 1 (by decide)
  have h2 := h 2 (by decide)
  have h3 := h 3 (by decide)
  have h4 := h 4 (by decide)
  have h5 := h 5 (by decide)
  have h6 := h 6 (by decide)
  have h7 := h 7 (by decide)
  simp only [Nat.reduceSub, Nat.reducePow] at h0 h1 h2 h3 h4 h5 h6 h7
  omega
/-- The first bit that isn't the same tells which byte is less. -/
theorem byte_less (a b j : Nat) (ha : a < 256) (hb : b < 256) (hj : j < 8) (h : ∀ i, i < j → a / 2 ^ (7 - i) % 2 = b / 2 ^ (7 - i) % 2) (h0 : a / 2 ^ (7 - j) % 2 = 0) (h1 : b / 2 ^ (7 - j) % 2 ≠ 0) : a < b := by
  have hj8 : j = 0 ∨ j = 1 ∨ j = 2 ∨ j = 3 ∨ j = 4 ∨ j = 5 ∨ j = 6 ∨ j = 7 := by omega
  rcases hj8 with rfl | rfl | rfl | rfl | rfl | rfl | rfl | rfl
  · simp only [Nat.reduceSub, Nat.reducePow] at h0 h1; omega
  · have e0 := h 0 (by decide); simp only [Nat.reduceSub, Nat.reducePow] at h0 h1 e0; omega
  · have e0 := h 0 (by decide); have e1 := h 1 (by decide); simp only [Nat.reduceSub, Nat.reducePow] at h0 h1 e0 e1; omega
  · have e0 := h 0 (by decide); have e1 := h 1 (by decide); have e2 := h 2 (by decide); simp only [Nat.reduceSub, Nat.reducePow] at h0 h1 e0 e1 e2; omega
  · have e0 := h 0 (by decide); have e1 := h 1 (by decide); have e2 := h 2 (by decide); have e3 := h 3 (by decide); simp only [Nat.reduceSub, Nat.reducePow] at h0 h1 e0 e1 e2 e3; omega
  · have e0 := h 0 (by decide); have e1 := h 1 (by decide); have e2 := h 2 (by decide); have e3 := h 3 (by decide); have e4 := h 4 (by decide); simp only [Nat.reduceSub, Nat.reducePow] at h0 h1 e0 e1 e2 e3 e4; omega
  · have e0 := h 0 (by decide); have e1 := h 1 (by decide); have e2 := h 2 (by decide); have e3 := h 3 (by decide); have e4 := h 4 (by decide); have e5 := h 5 (by decide); simp only [Nat.reduceSub, Nat.reducePow] at h0 h1 e0 e1 e2 e3 e4 e5; omega
  · have e0 := h 0 (by decide); have e1 := h 1 (by decide); have e2 := h 2 (by decide); have e3 := h 3 (by decide); have e4 := h 4 (by decide); have e5 := h 5 (by decide); have e6 := h 6 (by decide); simp only [Nat.reduceSub, Nat.reducePow] at h0 h1 e0 e1 e2 e3 e4 e5 e6; omega
theorem bitT_byte (k : List UInt8) (i j : Nat) (hj : j < 8) : bitT k (8 * i + j) = (k[i]!).toNat / 2 ^ (7 - j) % 2 := by
  unfold bitT
  rw [show (8 * i + j) / 8 = i by omega, show (8 * i + j) % 8 = j by omega]
/-- The first d bits are the same. -/
def ShareT (d : Nat) (a b : List UInt8) : Prop := ∀ n, n < d → bitT a n = bitT b n
theorem ShareT.all {a b : List UInt8} (ha : a.length = 32) (hb : b.length = 32) (h : ShareT 256 a b) : a = b := by
  apply List.ext_getElem (by rw [ha, hb])
  intro i h1 h2
  have e := byte_bits (a[i]!).toNat (b[i]!).toNat (UInt8.toNat_lt _) (UInt8.toNat_lt _) fun j hj => by
    rw [← bitT_byte a i j hj, ← bitT_byte b i j hj]
    exact h _ (by omega)
  have e := UInt8.toNat_inj.1 e
  rw [getElem!_pos a i h1, getElem!_pos b i h2] at e
  exact e
theorem lessT_at : ∀ (i : Nat) {a b : List UInt8}, i < a.length → i < b.length → (∀ j, j < i → a[j]! = b[j]!) → (a[i]!).toNat < (b[i]!).toNat → lessT a b = true
  | _, [], _, h, _, _, _ => by cases h
  | _, _ :: _, [], _, h, _, _ => by cases h
  | 0, a :: az, b :: bs, _, _, _, h => by
    have h : a.toNat < b.toNat := h
    unfold lessT
    rw [if_neg fun e => by subst e; omega]
    exact decide_eq_true h
  | i + 1, a :: az, b :: bs, ha, hb, he, h => by
    have e0 : a = b := he 0 (by omega)
    unfold lessT
    rw [if_pos e0]
    exact lessT_at i (by simpa using ha) (by simpa using hb) (fun j hj => he (j + 1) (by omega)) h
/-- Who has the first other bit 0 comes first. -/
theorem ShareT.less {d : Nat} {a b : List UInt8} (hd : d < 256) (ha : a.length = 32) (hb : b.length = 32) (h : ShareT d a b) (h0 : bitT a d = 0) (h1 : bitT b d ≠ 0) : lessT a b = true := by
  refine lessT_at (d / 8) (by omega) (by omega) (fun i hi => ?_) ?_
  · refine UInt8.toNat_inj.1 (byte_bits _ _ (UInt8.toNat_lt _) (UInt8.toNat_lt _) fun j hj => ?_)
    rw [← bitT_byte a i j hj, ← bitT_byte b i j hj]
    exact h _ (by omega)
  · refine byte_less _ _ (d % 8) (UInt8.toNat_lt _) (UInt8.toNat_lt _) (by omega) (fun j hj => ?_) h0 h1
    rw [← bitT_byte a (d / 8) j (by omega), ← bitT_byte b (d / 8) j (by omega)]
    exact h _ (by omega)
/-- Keys that share their first d bits. -/
def SharesT (d : Nat) (l : List PairT) : Prop := ∀ p ∈ l, ∀ q ∈ l, ShareT d p.1 q.1
def leftT (d : Nat) (l : List PairT) : List PairT := l.filter fun x => bitT x.1 d == 0
def rightT (d : Nat) (l : List PairT) : List PairT := l.filter fun x => bitT x.1 d != 0
theorem leftT_mem {d : Nat} {l : List PairT} {x : PairT} : x ∈ leftT d l ↔ x ∈ l ∧ bitT x.1 d = 0 := by simp [leftT]
theorem rightT_mem {d : Nat} {l : List PairT} {x : PairT} : x ∈ rightT d l ↔ x ∈ l ∧ bitT x.1 d ≠ 0 := by simp [rightT]
theorem SharesT.left {d : Nat} {l : List PairT} (h : SharesT d l) : SharesT (d + 1) (leftT d l) := fun p hp q hq n hn => by
  obtain ⟨hp, bp⟩ := leftT_mem.1 hp
  obtain ⟨hq, bq⟩ := leftT_mem.1 hq
  by_cases e : n = d
  · subst e; rw [bp, bq]
  · exact h p hp q hq n (by omega)
theorem SharesT.right {d : Nat} {l : List PairT} (h : SharesT d l) : SharesT (d + 1) (rightT d l) := fun p hp q hq n hn => by
  obtain ⟨hp, bp⟩ := rightT_mem.1 hp
  obtain ⟨hq, bq⟩ := rightT_mem.1 hq
  by_cases e : n = d
  · subst e
    have := bitT_lt p.1 n
    have := bitT_lt q.1 n
    omega
  · exact h p hp q hq n (by omega)
/-- Both sides, one behind the other. -/
theorem sides_app {d : Nat} {l : List PairT} (hd : d < 256) (hs : SortT l) (hk : KeysT l) (h : SharesT d l) : leftT d l ++ rightT d l = l := by
  refine SortT.ext (List.pairwise_append.2 ⟨hs.filter _, hs.filter _, fun p hp q hq => ?_⟩) hs fun x => ?_
  · obtain ⟨hp, bp⟩ := leftT_mem.1 hp
    obtain ⟨hq, bq⟩ := rightT_mem.1 hq
    exact (h p hp q hq).less hd (hk p hp) (hk q hq) bp bq
  · rw [List.mem_append, leftT_mem, rightT_mem]
    constructor
    · rintro (h | h) <;> exact h.1
    · intro hx
      by_cases e : bitT x.1 d = 0
      · exact .inl ⟨hx, e⟩
      · exact .inr ⟨hx, e⟩
/-- At the end one pair is left. -/
theorem SharesT.one {l : List PairT} (hs : SortT l) (hk : KeysT l) (h : SharesT 256 l) : l.length ≤ 1 := by
  match l, hs, hk, h with
  | [], _, _, _ => decide
  | [_], _, _, _ => exact Nat.le_refl _
  | p :: q :: l, hs, hk, h =>
    have e := (h p (by simp) q (by simp)).all (hk p (by simp)) (hk q (by simp))
    have := (SortT.cons.1 hs).1 q (by simp)
    rw [e, lessT_irrefl] at this
    cases this
/-- A pair is put into its side. -/
theorem putT_left {d : Nat} {l : List PairT} {p : PairT} (hs : SortT l) (hk : KeysT l) (hp : p.1.length = 32) : leftT d (putT l p) = if bitT p.1 d = 0 then putT (leftT d l) p else leftT d l := by
  refine SortT.ext ((putT_sort hs hk hp).filter _) (by split; exact putT_sort (hs.filter _) (hk.filter _) hp; exact hs.filter _) fun x => ?_
  rw [leftT_mem, putT_mem hs hk hp]
  split
  · rename_i e
    rw [putT_mem (l := leftT d l) (hs.filter _) (hk.filter _) hp, leftT_mem]
    constructor
    · rintro ⟨rfl | ⟨a, b⟩, c⟩
      · exact .inl rfl
      · exact .inr ⟨⟨a, c⟩, b⟩
    · rintro (rfl | ⟨⟨a, c⟩, b⟩)
      · exact ⟨.inl rfl, e⟩
      · exact ⟨.inr ⟨a, b⟩, c⟩
  · rename_i e
    rw [leftT_mem]
    constructor
    · rintro ⟨rfl | ⟨a, b⟩, c⟩
      · exact absurd c e
      · exact ⟨a, c⟩
    · rintro ⟨a, c⟩
      exact ⟨.inr ⟨a, fun e2 => e (by rw [← e2]; exact c)⟩, c⟩
theorem putT_right {d : Nat} {l : List PairT} {p : PairT} (hs : SortT l) (hk : KeysT l) (hp : p.1.length = 32) : rightT d (putT l p) = if bitT p.1 d = 0 then rightT d l else putT (rightT d l) p := by
  refine SortT.ext ((putT_sort hs hk hp).filter _) (by split; exact hs.filter _; exact putT_sort (hs.filter _) (hk.filter _) hp) fun x => ?_
  rw [rightT_mem, putT_mem hs hk hp]
  split
  · rename_i e
    rw [rightT_mem]
    constructor
    · rintro ⟨rfl | ⟨a, b⟩, c⟩
      · exact absurd e c
      · exact ⟨a, c⟩
    · rintro ⟨a, c⟩
      exact ⟨.inr ⟨a, fun e2 => c (by rw [e2]; exact e)⟩, c⟩
  · rename_i e
    rw [putT_mem (l := rightT d l) (hs.filter _) (hk.filter _) hp, rightT_mem]
    constructor
    · rintro ⟨rfl | ⟨a, b⟩, c⟩
      · exact .inl rfl
      · exact .inr ⟨⟨a, c⟩, b⟩
    · rintro (rfl | ⟨⟨a, c⟩, b⟩)
      · exact ⟨.inl rfl, e⟩
      · exact ⟨.inr ⟨a, b⟩, c⟩
/-- The root of more than one pair. -/
theorem rootT_node {r : Nat} {l : List PairT} (h : 2 ≤ l.length) : rootT (r + 1) l = nodeT (rootT r (leftT (255 - r) l)) (rootT r (rightT (255 - r) l)) := by
  match l, h with
  | p :: q :: l, _ => rfl
theorem rootT_nil (r : Nat) : rootT r [] = z32T := by cases r <;> rfl
theorem rootT_one (r : Nat) (p : PairT) : rootT r [p] = leafT p := by cases r <;> rfl
/-- A pair that is there, put again, changes nothing. -/
theorem putT_same {l : List PairT} {p : PairT} (hs : SortT l) (hk : KeysT l) (hp : p ∈ l) : putT l p = l := by
  have h32 := hk p hp
  refine SortT.ext (putT_sort hs hk h32) hs fun x => ?_
  rw [putT_mem hs hk h32]
  constructor
  · rintro (rfl | ⟨a, _⟩)
    · exact hp
    · exact a
  · intro hx
    by_cases e : x.1 = p.1
    · exact .inl (hs.key hx hp e)
    · exact .inr ⟨hx, e⟩
/-- Two pairs of one key: the later one stays. -/
theorem putT_twice {l : List PairT} {p q : PairT} (hs : SortT l) (hk : KeysT l) (hp : p.1.length = 32) (e : p.1 = q.1) : putT (putT l p) q = putT l q := by
  have hq : q.1.length = 32 := by rw [← e]; exact hp
  have hs1 := putT_sort hs hk hp
  have hk1 := putT_keys hs hk hp
  refine SortT.ext (putT_sort hs1 hk1 hq) (putT_sort hs hk hq) fun x => ?_
  rw [putT_mem hs1 hk1 hq, putT_mem hs hk hp, putT_mem hs hk hq]
  constructor
  · rintro (rfl | ⟨rfl | ⟨a, _⟩, b⟩)
    · exact .inl rfl
    · exact absurd e b
    · exact .inr ⟨a, b⟩
  · rintro (rfl | ⟨a, b⟩)
    · exact .inl rfl
    · exact .inr ⟨.inr ⟨a, by rw [e]; exact b⟩, b⟩
theorem putT_get {l : List PairT} {p : PairT} (hs : SortT l) (hk : KeysT l) (hp : p.1.length = 32) (k : List UInt8) : getT (putT l p) k = if k = p.1 then some p.2 else getT l k := by
  have hs1 := putT_sort hs hk hp
  split
  · rename_i e
    subst e
    exact (getT_some hs1).2 ((putT_mem hs hk hp _).2 (.inl rfl))
  · rename_i e
    cases h : getT l k with
    | some v =>
      have h := (getT_some hs).1 h
      exact (getT_some hs1).2 ((putT_mem hs hk hp _).2 (.inr ⟨h, e⟩))
    | none =>
      refine getT_none.2 fun q hq e2 => ?_
      rcases (putT_mem hs hk hp q).1 hq with rfl | ⟨a, _⟩
      · exact e e2.symm
      · exact getT_none.1 h q a e2
end Nums
/-
  THE DOCUMENT'S TREE: a key's bit; is a key ahead of another one.
-/
namespace Go.Proofs.YtlaikmpnijlcbaaDoor
open Go.RowKit Go.IntWalk Nums

theorem own_rbit9 : Own 21 := fun _ _ => by go_simp
theorem own_rless9 : Own 23 := fun _ _ => by go_simp
theorem row_at {n : Nat} {l : List UInt8} {j : Nat} (hj : j < l.length) : (catP [.agg n (By l).toArray])[0 + 1 * j]? = some (.int .u8 ((l[j]!).toNat : Int)) := by
  rw [Nat.zero_add, Nat.one_mul]
  show (By l).toArray[j]? = _
  exact By_get hj
theorem div_pow_succ (v i : Nat) : v / 2 ^ (i + 1) = v / 2 ^ i / 2 := by rw [Nat.pow_succ, Nat.div_div_eq_div_mul]

set_option maxRecDepth 100000 in
set_option maxHeartbeats 1000000 in
theorem rbit_S {k : List UInt8} (hk : k.length = 32) (n : Nat) (hn : n < 256) : Spec 21 [(eY 32 k).den, .int .i64 (n : Int)] [] (fun _ => True) (one (.v (.int .i64 ((bitT k n : Nat) : Int)))) := by
  refine spec_S [eY 32 k, .c (.v (.int .i64 (n : Int)))] 23 Tryd.func21 rfl (by rw [Tryd.ntmps21]; rfl) (two_ok (eY_ok hk).1 trivial) fun b => ?_
  refine s_auto TY_ok rfl ?_
  refine s_regA TY_ok rfl fun K hK => ?_
  refine l_num 8 ((n / 8 : Nat) : Int) rfl (wrapQ n 8 (by omega)) ?_
  refine l_op (.a 2 (0 + 1 * (n / 8))) trivial rfl rfl rfl (runO_ixA (n / 8) rfl Tryd.underlying30 rfl rfl rfl (by omega)) ?_
  refine l_opV (.v (.int .u8 ((k[n / 8]!).toNat : Int))) trivial rfl rfl rfl (runO_ldA _ rfl rfl rfl (row_at (by omega)) Tryd.underlying5 rfl) ?_
  refine l_autoS TY_ok rfl ?_
  have hlt := (k[n / 8]!).toNat_lt
  generalize hv : (k[n / 8]!).toNat = v at *
  refine l_num 5 (v : Int) rfl (wrapI rfl (by omega) (by omega)) ?_
  refine s_end (hK _ ?_)
  have hrem : IntKind.i64.wrap (7 - (n : Int).tmod 8) = ((7 - n % 8 : Nat) : Int) := wrapI (by rw [Int.tmod_eq_emod_of_nonneg (by omega)]; omega) (by omega) (by omega)
  refine s_seq fun Kl hKl => ?_
  refine s_auto TY_ok rfl ?_
  refine s_block ?_
  let F : Nat → Env := fun i => ⟨[(6, .v (.int .i64 (i : Int))), (5, .v (.int .i64 ((v / 2 ^ i : Nat) : Int))), (1, .v (.int .i64 (n : Int)))], [], [], fun _ => True, fun _ => True⟩
  refine c_weak (e' := F 0) ⟨⟨rfl, congrArg some (congrArg SV.v (congrArg (Value.int .i64) (by rw [Nat.pow_zero, Nat.div_one]))), rfl, trivial⟩, trivial, .refl _, fun _ _ _ => trivial, fun _ _ => trivial⟩ (s_loop (fun i => 7 - n % 8 - i) F (fun i => i ≤ 7 - n % 8) ?_ 0 (Nat.zero_le _))
  intro i hi
  refine s_seq fun K1 hK1 => ?_
  refine s_auto TY_ok rfl ?_
  refine s_ifD ((i : Int) < IntKind.i64.wrap (7 - (n : Int).tmod 8)) rfl (fun hlt2 => ?_) (fun hge => ?_)
  · rw [hrem] at hlt2
    have hil : i < 7 - n % 8 := by omega
    refine s_skip (hK1 _ ?_)
    refine s_seq fun K4 hK4 => ?_
    refine s_block ?_
    refine s_autoE TY_ok rfl ?_
    refine hK4 _ ?_
    refine s_autoE TY_ok rfl ?_
    have hb : v / 2 ^ i ≤ v := Nat.div_le_self _ _
    exact k_next (i + 1) hil (by omega) ⟨⟨congrArg some (congrArg SV.v (congrArg (Value.int .i64) (wrapI rfl (by omega) (by omega)))), congrArg some (congrArg SV.v (congrArg (Value.int .i64) (by rw [div_pow_succ]; exact wrapQ (v / 2 ^ i) 2 (by omega)))), rfl, trivial⟩, trivial, .refl _, fun _ _ _ => trivial, fun _ _ => trivial⟩
  · rw [hrem] at hge
    obtain rfl : i = 7 - n % 8 := by omega
    refine s_exit (k_pass (k_pass (k_out ?_)))
    refine hKl _ ?_
    have hb : v / 2 ^ (7 - n % 8) ≤ v := Nat.div_le_self _ _
    refine s_auto TY_ok rfl ?_
    have hbit : bitT k n = v / 2 ^ (7 - n % 8) % 2 := by unfold bitT; rw [hv]
    exact s_ret (k_retD TY_ok () rfl (by decide) rfl (by
      show Value.int .i64 ((bitT k n : Nat) : Int) = Value.int .i64 (((v / 2 ^ (7 - n % 8) : Nat) : Int).tmod 2)
      exact congrArg (Value.int .i64) (by rw [hbit]; generalize v / 2 ^ (7 - n % 8) = z; rw [Int.tmod_eq_emod_of_nonneg (Int.natCast_nonneg z)]; omega)) trivial rfl (fun _ _ _ => trivial) (fun _ _ => trivial))

/-- The first byte that isn't the same. -/
theorem lessT_take : ∀ (i : Nat) {a b : List UInt8}, i < a.length → i < b.length → a.take i = b.take i → a[i]! ≠ b[i]! → lessT a b = decide ((a[i]!).toNat < (b[i]!).toNat)
  | _, [], _, h, _, _, _ => by cases h
  | _, _ :: _, [], _, h, _, _ => by cases h
  | 0, a :: p, b :: q, _, _, _, h => by
    have h : a ≠ b := h
    show (if a = b then _ else _) = _
    rw [if_neg h]
    rfl
  | i + 1, a :: p, b :: q, ha, hb, ht, h => by
    simp only [List.take_succ_cons, List.cons.injEq] at ht
    show (if a = b then _ else _) = _
    rw [if_pos ht.1]
    exact lessT_take i (a := p) (b := q) (by simpa using ha) (by simpa using hb) ht.2 h
theorem take_moreT {i : Nat} {a b : List UInt8} (ha : i < a.length) (hb : i < b.length) (ht : a.take i = b.take i) (h : a[i]! = b[i]!) : a.take (i + 1) = b.take (i + 1) := by
  rw [List.take_succ_eq_append_getElem ha, List.take_succ_eq_append_getElem hb, ht]
  rw [getElem!_pos a i ha, getElem!_pos b i hb] at h
  rw [h]
set_option maxRecDepth 100000 in
set_option maxHeartbeats 1000000 in
theorem rless_S {x y : List UInt8} (hx : x.length = 32) (hy : y.length = 32) : Spec 23 [(eY 32 x).den, (eY 32 y).den] [] (fun _ => True) (one (.q (.c (.b (lessT x y))))) := by
  refine spec_S [eY 32 x, eY 32 y] 24 Tryd.func23 rfl (by rw [Tryd.ntmps23]; rfl) (two_ok (eY_ok hx).1 (eY_ok hy).1) fun b => ?_
  refine s_auto TY_ok rfl ?_
  refine s_seq fun K hK => ?_
  refine s_auto TY_ok rfl ?_
  refine s_block ?_
  let F : Nat → Env := fun i => ⟨[(6, .v (.int .i64 (i : Int))), (2, .a 2 0), (3, .a 3 0)], [⟨3, none, 30, [.agg 32 (By y).toArray]⟩, ⟨2, none, 30, [.agg 32 (By x).toArray]⟩], [], fun _ => True, fun _ => True⟩
  refine c_weak (e' := F 0) ⟨⟨rfl, rfl, rfl, trivial⟩, ⟨rfl, rfl, rfl, rfl, trivial⟩, .refl _, fun _ _ _ => trivial, fun _ _ => trivial⟩ (s_loop (fun i => 32 - i) F (fun i => i ≤ 32 ∧ x.take i = y.take i) ?_ 0 ⟨Nat.zero_le _, rfl⟩)
  rintro i ⟨hi, ht⟩
  refine s_auto TY_ok rfl ?_
  refine s_seq fun K1 hK1 => ?_
  refine s_ifD ((i : Int) < 32) rfl (fun hlt => ?_) (fun hge => ?_)
  · have hil : i < 32 := by omega
    refine s_skip (hK1 _ ?_)
    refine s_seq fun K2 hK2 => ?_
    refine s_block ?_
    refine s_auto TY_ok rfl ?_
    refine s_regD 7 (by decide) (by kernel_rfl) (by kernel_rfl) fun K3 hK3 G S w0 hst => ?_
    refine g_autoS TY_ok hst rfl ?_
    refine g_opS (.a 2 (0 + 1 * i)) trivial rfl rfl rfl (runO_ixA i rfl Tryd.underlying30 rfl rfl rfl hil) ?_
    refine g_opV hst (.v (.int .u8 ((x[i]!).toNat : Int))) trivial rfl rfl rfl (runO_ldA _ rfl rfl rfl (row_at (by omega)) Tryd.underlying5 rfl) ?_
    refine g_autoS TY_ok hst rfl ?_
    refine g_opS (.a 3 (0 + 1 * i)) trivial rfl rfl rfl (runO_ixA i rfl Tryd.underlying30 rfl rfl rfl hil) ?_
    refine g_opV hst (.v (.int .u8 ((y[i]!).toNat : Int))) trivial rfl rfl rfl (runO_ldA _ rfl rfl rfl (row_at (by omega)) Tryd.underlying5 rfl) ?_
    refine g_autoS TY_ok hst rfl ?_
    refine g_endS hst ?_
    refine s_end (hK3 _ ?_)
    refine s_ifD (((x[i]!).toNat : Int) ≠ ((y[i]!).toNat : Int)) rfl (fun hne => ?_) (fun he => ?_)
    · have hne : x[i]! ≠ y[i]! := fun e => hne (by rw [e])
      refine s_regD 7 (by decide) (by kernel_rfl) (by kernel_rfl) fun K4 hK4 G S w0 hst => ?_
      refine g_autoS TY_ok hst rfl ?_
      refine g_opS (.a 2 (0 + 1 * i)) trivial rfl rfl rfl (runO_ixA i rfl Tryd.underlying30 rfl rfl rfl hil) ?_
      refine g_opV hst (.v (.int .u8 ((x[i]!).toNat : Int))) trivial rfl rfl rfl (runO_ldA _ rfl rfl rfl (row_at (by omega)) Tryd.underlying5 rfl) ?_
      refine g_autoS TY_ok hst rfl ?_
      refine g_opS (.a 3 (0 + 1 * i)) trivial rfl rfl rfl (runO_ixA i rfl Tryd.underlying30 rfl rfl rfl hil) ?_
      refine g_opV hst (.v (.int .u8 ((y[i]!).toNat : Int))) trivial rfl rfl rfl (runO_ldA _ rfl rfl rfl (row_at (by omega)) Tryd.underlying5 rfl) ?_
      refine g_autoS TY_ok hst rfl ?_
      refine g_endS hst ?_
      refine l_autoS TY_ok rfl ?_
      refine s_end (hK4 _ ?_)
      exact s_ret (k_retD TY_ok () rfl (by decide) rfl (by
        rw [lessT_take i (by omega) (by omega) ht hne]
        show Value.bool _ = Value.bool _
        congr 1
        exact decide_eq_decide.2 (by omega)) trivial rfl (fun _ _ _ => trivial) (fun _ _ => trivial))
    · have he : x[i]! = y[i]! := UInt8.toNat_inj.1 (by omega)
      refine s_skip (hK2 _ ?_)
      refine s_autoE TY_ok rfl ?_
      exact k_next (i + 1) ⟨hil, take_moreT (by omega) (by omega) ht he⟩ (by omega) ⟨⟨congrArg some (congrArg SV.v (congrArg (Value.int .i64) (wrapI rfl (by omega) (by omega)))), rfl, rfl, trivial⟩, ⟨rfl, rfl, rfl, rfl, trivial⟩, .refl _, fun _ _ _ => trivial, fun _ _ => trivial⟩
  · obtain rfl : i = 32 := by omega
    have e : x = y := by
      rw [List.take_of_length_le (by omega), List.take_of_length_le (by omega)] at ht
      exact ht
    refine s_exit (k_pass (k_pass (k_out ?_)))
    refine hK _ ?_
    refine s_auto TY_ok rfl ?_
    exact s_ret (k_retD TY_ok () rfl (by decide) rfl (by rw [e, lessT_irrefl]; rfl) trivial rfl (fun _ _ _ => trivial) (fun _ _ => trivial))
end Go.Proofs.YtlaikmpnijlcbaaDoor
/-
  THE DOCUMENT'S TREE: the value of a key; pairs with one more.
-/
namespace Go.Proofs.YtlaikmpnijlcbaaDoor
open Go.RowKit Go.IntWalk Nums

theorem own_rget9 : Own 12 := fun _ _ => by go_simp
theorem own_rput9 : Own 10 := fun _ _ => by go_simp
/-- A pair's cells. -/
def eP (p : PairT) : SQ := .p [.agg 32 (By p.1).toArray, .agg 32 (By p.2).toArray]
def OkT2 (p : PairT) : Prop := p.1.length = 32 ∧ p.2.length = 32
theorem eP_ok {p : PairT} (h : OkT2 p) : OkP (eP p).parts1 ∧ (eP p).cl.length = 64 := by
  have h1 : (By p.1).toArray.size = 32 := by rw [List.size_toArray, By_len, h.1]
  have h2 : (By p.2).toArray.size = 32 := by rw [List.size_toArray, By_len, h.2]
  refine ⟨fun q hq => ?_, ?_⟩
  · rcases List.mem_cons.1 hq with rfl | hq
    · exact ⟨h1, By_one p.1⟩
    · rw [List.mem_singleton.1 hq]
      exact ⟨h2, By_one p.2⟩
  · rw [SQ.cl, Array.length_toList]
    show (catP [Pt.agg 32 (By p.1).toArray, .agg 32 (By p.2).toArray]).size = 64
    rw [catP_cons, Array.size_append]
    simp [Pt.cells, catP, By_len, h.1, h.2]
theorem eP_len {p : PairT} (h : OkP (eP p).parts1) : OkT2 p := by
  have h1 := (h (.agg 32 (By p.1).toArray) (by simp [eP, SQ.parts1])).1
  have h2 := (h (.agg 32 (By p.2).toArray) (by simp [eP, SQ.parts1])).1
  rw [List.size_toArray, By_len] at h1 h2
  exact ⟨h1, h2⟩
theorem find_takeT {α : Type} (p : α → Bool) (l : List α) (i : Nat) {x : α} (h : ∀ y ∈ l.take i, p y = false) (hx : l[i]? = some x) (hp : p x = true) : l.find? p = some x := by
  have e : l = l.take i ++ x :: l.drop (i + 1) := by
    have hlt := (List.getElem?_eq_some_iff.1 hx).1
    have := List.take_append_drop i l
    rw [List.drop_eq_getElem_cons hlt, (List.getElem?_eq_some_iff.1 hx).2] at this
    exact this.symm
  rw [e, List.find?_append, List.find?_eq_none.2 (fun y hy => by rw [h y hy]; decide), Option.none_or, List.find?_cons_of_pos hp]
theorem take_nextT {α : Type} {p : α → Prop} {l : List α} {i : Nat} {x : α} (h : ∀ y ∈ l.take i, p y) (hx : l[i]? = some x) (hp : p x) : ∀ y ∈ l.take (i + 1), p y := fun y hy => by
  rw [List.take_add_one, hx] at hy
  rcases List.mem_append.1 hy with hy | hy
  · exact h y hy
  · simp at hy
    rw [hy]
    exact hp
def retG : Option (List UInt8) → RV
  | some v => .t [eY 32 v, .c (.v (.bool true))]
  | none => .t [eY 32 z32T, .c (.v (.bool false))]
set_option maxRecDepth 100000 in
set_option maxHeartbeats 2000000 in
theorem rget_S {A : Option Addr} {c : Nat} (l : List PairT) {k : List UInt8} (hk : k.length = 32) : Spec 12 [.slice A l.length c, (eY 32 k).den] [] (Rd 64 eP A c l) { ret := fun _ : Unit => retG (getT l k), own := fun _ => [] } := by
  refine spec_S [.c (.v (.slice A l.length c)), eY 32 k] 22 Tryd.func12 rfl (by rw [Tryd.ntmps12]; rfl) (two_ok trivial (eY_ok hk).1) fun b => ?_
  refine s_pure (l.length ≤ 9223372036854775807 ∧ ∀ x ∈ l, OkT2 x) (fun w h _ => ⟨Nat.le_trans h.1 h.2.1, fun x hx => eP_len (h.2.2.2.1 x hx).1⟩) fun ⟨hl, hs⟩ => ?_
  refine s_auto TY_ok rfl ?_
  refine s_seq fun K hK => ?_
  refine s_auto TY_ok rfl ?_
  refine s_block ?_
  let F : Nat → Env := fun i => ⟨[(10, .v (.int .i64 (i : Int))), (9, .v (.int .i64 (l.length : Int))), (8, .v (.slice A l.length c)), (3, .a 3 0), (4, .a 4 0)], [⟨4, none, 30, [.agg 32 (By z32T).toArray]⟩, ⟨3, none, 30, [.agg 32 (By k).toArray]⟩], [], Rd 64 eP A c l, fun _ => True⟩
  refine c_weak (e' := F 0) ⟨⟨rfl, rfl, rfl, rfl, rfl, trivial⟩, ⟨rfl, rfl, rfl, rfl, trivial⟩, .refl _, fun _ h _ => h, fun _ _ => trivial⟩ (s_loop (fun i => l.length - i) F (fun i => i ≤ l.length ∧ ∀ y ∈ l.take i, (y.1 == k) = false) ?_ 0 ⟨Nat.zero_le _, by simp⟩)
  rintro i ⟨hi, hno⟩
  refine s_auto TY_ok rfl ?_
  refine s_seq fun K1 hK1 => ?_
  refine s_ifD ((i : Int) < (l.length : Int)) rfl (fun hlt => ?_) (fun hge => ?_)
  · have hlt : i < l.length := by omega
    obtain ⟨x, hx⟩ : ∃ x, l[i]? = some x := ⟨_, List.getElem?_eq_getElem hlt⟩
    have hx2 := hs x (List.mem_of_getElem? hx)
    refine s_skip (hK1 _ ?_)
    refine s_seq fun K2 hK2 => ?_
    refine s_block ?_
    refine s_regA TY_ok rfl fun K3 hK3 => ?_
    refine l_elem TY_ok rfl rfl rfl i rfl hx rfl rfl (rd_fact fun _ h _ => h) ?_
    refine l_autoS TY_ok rfl ?_
    refine s_end (hK3 _ ?_)
    refine s_regA TY_ok rfl fun K4 hK4 => ?_
    refine l_op (.b (decide (x.1 = k))) trivial rfl rfl rfl (run_eqY rfl rfl rfl Tryd.underlying30 (by kernel_rfl) hx2.1 hk) ?_
    refine l_autoS TY_ok rfl ?_
    refine s_end (hK4 _ ?_)
    refine s_ifD (x.1 = k) rfl (fun he => ?_) (fun hne => ?_)
    · have hg : getT l k = some x.2 := by
        unfold getT
        rw [find_takeT _ l i hno hx (by simpa using he)]
        rfl
      refine s_auto TY_ok rfl ?_
      exact s_ret (k_ret TY_ok () rfl (by decide) rfl (congrArg retG hg) rfl (fun _ _ _ => trivial) (fun _ _ => trivial))
    · refine s_skip (hK2 _ ?_)
      refine s_autoE TY_ok rfl ?_
      exact k_next (i + 1) ⟨hlt, take_nextT hno hx (by simpa using hne)⟩ (by omega) ⟨⟨congrArg some (congrArg SV.v (congrArg (Value.int .i64) (wrapI rfl (by omega) (by omega)))), rfl, rfl, rfl, rfl, trivial⟩, ⟨rfl, rfl, rfl, rfl, trivial⟩, .refl _, fun _ h _ => h, fun _ _ => trivial⟩
  · obtain rfl : i = l.length := by omega
    rw [List.take_length] at hno
    have hg : getT l k = none := by
      unfold getT
      rw [List.find?_eq_none.2 fun y hy => by rw [hno y hy]; decide]
      rfl
    refine s_exit (k_pass (k_pass (k_out ?_)))
    refine hK _ ?_
    refine s_auto TY_ok rfl ?_
    exact s_ret (k_ret TY_ok () rfl (by decide) rfl (congrArg retG hg) rfl (fun _ _ _ => trivial) (fun _ _ => trivial))

/-- What comes of the pairs that are left. -/
def finT (o : List PairT) (d : Bool) (r : List PairT) (p : PairT) : List PairT := if d then o ++ r else o ++ putT r p
theorem finT_done (o r : List PairT) (q p : PairT) : finT o true (q :: r) p = finT (o ++ [q]) true r p := by simp [finT]
theorem finT_less {o r : List PairT} {q p : PairT} (h : lessT q.1 p.1 = true) : finT o false (q :: r) p = finT (o ++ [q]) false r p := by
  simp [finT, putT, h]
theorem finT_same {o r : List PairT} {q p : PairT} (e : q.1 = p.1) : finT o false (q :: r) p = finT (o ++ [p]) true r p := by
  have h2 : lessT p.1 p.1 = false := lessT_irrefl _
  simp [finT, putT, h2, e]
theorem finT_new {o r : List PairT} {q p : PairT} (h : lessT q.1 p.1 = false) (e : q.1 ≠ p.1) : finT o false (q :: r) p = finT (o ++ [p] ++ [q]) true r p := by
  simp [finT, putT, h, e]
abbrev PX := Option Addr × Nat
set_option maxRecDepth 100000 in
set_option maxHeartbeats 4000000 in
theorem rput_S {A : Option Addr} {c : Nat} (l : List PairT) {p : PairT} (hp : OkT2 p) (hl : l.length ≤ 1000000) : Spec 10 [.slice A l.length c, (eP p).den] [] (Rd 64 eP A c l) { ret := fun x : PX => .v (.slice x.1 (putT l p).length x.2), own := fun _ => [], n := fun x => Rd 64 eP x.1 x.2 (putT l p) } := by
  refine spec_S [.c (.v (.slice A l.length c)), eP p] 46 Tryd.func10 rfl (by rw [Tryd.ntmps10]; rfl) (two_ok trivial (eP_ok hp).1) fun b => ?_
  refine s_pure (∀ x ∈ l, OkT2 x) (fun _ h _ => fun x hx => eP_len (h.2.2.2.1 x hx).1) fun hs => ?_
  refine s_auto TY_ok rfl ?_
  refine s_auto TY_ok rfl ?_
  refine s_auto TY_ok rfl ?_
  refine s_nil0 b.B.heap.size 32 64 eP ?_
  refine s_seq fun K hK => ?_
  refine s_auto TY_ok rfl ?_
  refine s_block ?_
  let F : Nat × List PairT × Bool × Option Addr × Nat → Env := fun ⟨i, o, d, B, e⟩ => ⟨[(11, .v (.int .i64 (i : Int))), (10, .v (.int .i64 (l.length : Int))), (9, .v (.slice A l.length c)), (5, .v (.slice B o.length e)), (6, .v (.bool d)), (3, .a 3 0)], [⟨3, none, 32, [.agg 32 (By p.1).toArray, .agg 32 (By p.2).toArray]⟩], [OwnS b.B.heap.size 32 64 eP B e o], Rd 64 eP A c l, fun _ => True⟩
  refine c_weak (e' := F (0, [], false, none, 0)) ⟨⟨rfl, rfl, rfl, rfl, rfl, rfl, trivial⟩, ⟨rfl, rfl, trivial⟩, .refl _, fun _ h _ => h, fun _ _ => trivial⟩ (s_loop (fun x => l.length - x.1) F (fun x => x.1 ≤ l.length ∧ x.2.1.length ≤ x.1 + x.2.2.1.toNat ∧ finT x.2.1 x.2.2.1 (l.drop x.1) p = putT l p) ?_ (0, [], false, none, 0) ⟨Nat.zero_le _, Nat.zero_le _, rfl⟩)
  rintro ⟨i, o, d, B, e⟩ ⟨hi, ho, hf⟩
  dsimp only at hi ho hf
  have hd0 : d.toNat ≤ 1 := Bool.toNat_le d
  refine s_auto TY_ok rfl ?_
  refine s_seq fun K1 hK1 => ?_
  refine s_ifD ((i : Int) < (l.length : Int)) rfl (fun hlt => ?_) (fun hge => ?_)
  · have hlt : i < l.length := by omega
    obtain ⟨x, hx⟩ : ∃ x, l[i]? = some x := ⟨_, List.getElem?_eq_getElem hlt⟩
    have hx2 := hs x (List.mem_of_getElem? hx)
    have hdr : l.drop i = x :: l.drop (i + 1) := by
      rw [List.drop_eq_getElem_cons hlt]
      rw [List.getElem?_eq_getElem hlt] at hx
      injection hx with hx
      rw [hx]
    rw [hdr] at hf
    refine s_skip (hK1 _ ?_)
    refine s_seq fun K2 hK2 => ?_
    refine s_block ?_
    refine s_regA TY_ok rfl fun K3 hK3 => ?_
    refine l_elem TY_ok rfl rfl rfl i rfl hx rfl rfl (rd_fact fun _ h _ => h) ?_
    refine l_autoS TY_ok rfl ?_
    refine s_end (hK3 _ ?_)
    refine s_seq fun K4 hK4 => ?_
    have hpush : ∀ (o' : List PairT) (d' : Bool) (B' : Option Addr) (e' : Nat), o'.length ≤ i + d'.toNat → finT (o' ++ [x]) d' (l.drop (i + 1)) p = putT l p → ∀ en, Weak en ⟨[(11, .v (.int .i64 (i : Int))), (10, .v (.int .i64 (l.length : Int))), (9, .v (.slice A l.length c)), (5, .v (.slice B' o'.length e')), (6, .v (.bool d')), (3, .a 3 0), (8, .a 8 0)], [⟨8, none, 32, [.agg 32 (By x.1).toArray, .agg 32 (By x.2).toArray]⟩, ⟨3, none, 32, [.agg 32 (By p.1).toArray, .agg 32 (By p.2).toArray]⟩], [OwnS b.B.heap.size 32 64 eP B' e' o'], Rd 64 eP A c l, fun _ => True⟩ → kS b K4 46 en := by
      intro o' d' B' e' ho' hf' en hw
      have hd1 : d'.toNat ≤ 1 := Bool.toNat_le d'
      refine k_weak hw (hK4 _ ?_)
      refine s_lit ?_
      refine l_autoS TY_ok rfl ?_
      refine l_push TY_ok 0 x rfl rfl rfl rfl rfl rfl rfl (eP_ok hx2) (by decide) (by decide) (by show (_ + 1) * 64 ≤ _; omega) (by omega) (Nat.le_refl _) fun B2 e2 => ?_
      refine l_autoS TY_ok rfl ?_
      refine s_end (hK2 _ ?_)
      refine s_autoE TY_ok rfl ?_
      exact k_next (i + 1, o' ++ [x], d', B2, e2) ⟨hlt, by show (o' ++ [x]).length ≤ i + 1 + d'.toNat; rw [List.length_append, List.length_singleton]; omega, hf'⟩ (by show l.length - (i + 1) < l.length - i; omega) ⟨⟨congrArg some (congrArg SV.v (congrArg (Value.int .i64) (wrapI rfl (by omega) (by omega)))), rfl, rfl, rfl, rfl, rfl, trivial⟩, ⟨rfl, rfl, trivial⟩, .refl _, fun _ h _ => h, fun _ _ => trivial⟩
    cases d with
    | true =>
      rw [finT_done] at hf
      refine s_auto TY_ok rfl ?_
      refine s_no rfl ?_
      exact s_skip (hpush o true B e ho hf _ ⟨⟨rfl, rfl, rfl, rfl, rfl, rfl, rfl, trivial⟩, ⟨rfl, rfl, rfl, rfl, trivial⟩, .refl _, fun _ h _ => h, fun _ _ => trivial⟩)
    | false =>
      refine s_regA TY_ok rfl fun K5 hK5 => ?_
      refine l_call0 [.agg (By x.1).toArray, .agg (By p.1).toArray] rfl rfl rfl own_rless9 rfl rfl (fun _ _ => rfl) (rless_S hx2.1 hp.1) (fun _ _ _ => trivial) fun _ => ?_
      cases hls : lessT x.1 p.1 with
      | true =>
        rw [finT_less hls] at hf
        refine l_is 22 true rfl rfl ?_
        refine l_autoS TY_ok rfl ?_
        refine s_end (hK5 _ ?_)
        refine s_no rfl ?_
        exact s_skip (hpush o false B e ho hf _ ⟨⟨rfl, rfl, rfl, rfl, rfl, rfl, rfl, trivial⟩, ⟨rfl, rfl, rfl, rfl, trivial⟩, .refl _, fun _ h _ => h.2, fun _ _ => trivial⟩)
      | false =>
        refine l_is 22 false rfl rfl ?_
        refine l_autoS TY_ok rfl ?_
        refine s_end (hK5 _ ?_)
        refine s_yes rfl ?_
        refine s_seq fun K6 hK6 => ?_
        refine s_lit ?_
        refine l_autoS TY_ok rfl ?_
        refine l_push TY_ok 0 p rfl rfl rfl rfl rfl rfl rfl (eP_ok hp) (by decide) (by decide) (by show (_ + 1) * 64 ≤ _; omega) (by omega) (Nat.le_refl _) fun B2 e2 => ?_
        refine l_autoS TY_ok rfl ?_
        refine s_end (hK6 _ ?_)
        refine s_auto TY_ok rfl ?_
        refine s_regA TY_ok rfl fun K7 hK7 => ?_
        refine l_op (.b (decide (x.1 = p.1))) trivial rfl rfl rfl (run_eqY rfl rfl rfl Tryd.underlying30 (by kernel_rfl) hx2.1 hp.1) ?_
        refine l_autoS TY_ok rfl ?_
        refine s_end (hK7 _ ?_)
        refine s_ifD (x.1 = p.1) rfl (fun he => ?_) (fun hne => ?_)
        · rw [finT_same he] at hf
          refine s_exit (k_pass (k_out ?_))
          refine hK2 _ ?_
          refine s_autoE TY_ok rfl ?_
          exact k_next (i + 1, o ++ [p], true, B2, e2) ⟨hlt, by show (o ++ [p]).length ≤ i + 1 + 1; rw [List.length_append, List.length_singleton]; omega, hf⟩ (by show l.length - (i + 1) < l.length - i; omega) ⟨⟨congrArg some (congrArg SV.v (congrArg (Value.int .i64) (wrapI rfl (by omega) (by omega)))), rfl, rfl, rfl, rfl, rfl, trivial⟩, ⟨rfl, rfl, trivial⟩, .refl _, fun _ h _ => h.2, fun _ _ => trivial⟩
        · rw [finT_new hls hne] at hf
          have ho1 : o.length ≤ i := ho
          exact s_skip (hpush (o ++ [p]) true B2 e2 (by show (o ++ [p]).length ≤ i + 1; rw [List.length_append, List.length_singleton]; omega) hf _ ⟨⟨rfl, rfl, rfl, rfl, rfl, rfl, rfl, trivial⟩, ⟨rfl, rfl, rfl, rfl, trivial⟩, .refl _, fun _ h _ => h.2, fun _ _ => trivial⟩)
  · obtain rfl : i = l.length := by omega
    rw [List.drop_length] at hf
    refine s_exit (k_pass (k_pass (k_out ?_)))
    refine hK _ ?_
    cases d with
    | true =>
      have hf : o = putT l p := by simpa [finT] using hf
      subst hf
      refine s_seq fun Kc hKc => ?_
      refine s_auto TY_ok rfl ?_
      refine s_no rfl ?_
      refine s_skip (hKc _ ?_)
      refine s_auto TY_ok rfl ?_
      exact s_ret (k_freeM 0 rfl (Nat.le_refl _) (k_ret TY_ok (B, e) rfl (by decide) rfl rfl rfl (fun _ _ _ => trivial) (fun _ h => h.1)))
    | false =>
      have hf : o ++ [p] = putT l p := by simpa [finT, putT] using hf
      refine s_seq fun Kc hKc => ?_
      refine s_auto TY_ok rfl ?_
      refine s_yes rfl ?_
      refine s_lit ?_
      refine l_autoS TY_ok rfl ?_
      refine l_push TY_ok 0 p rfl rfl rfl rfl rfl rfl rfl (eP_ok hp) (by decide) (by decide) (by show (_ + 1) * 64 ≤ _; omega) (by omega) (Nat.le_refl _) fun B2 e2 => ?_
      rw [hf]
      refine l_autoS TY_ok rfl ?_
      refine s_end (hKc _ ?_)
      refine s_auto TY_ok rfl ?_
      exact s_ret (k_freeM 0 rfl (Nat.le_refl _) (k_ret TY_ok (B2, e2) rfl (by decide) rfl rfl rfl (fun _ _ _ => trivial) (fun _ h => h.1)))
end Go.Proofs.YtlaikmpnijlcbaaDoor
/-
  BYTES OF A NUMBER, ONE BY ONE.
-/
namespace Go.Proofs.YtlaikmpnijlcbaaDoor
open Go.RowKit Go.IntWalk

theorem bytes_get : ∀ (k v : Nat) {m : Nat}, m < k → ((Nums.bytes k v)[m]!).toNat = v / 256 ^ m % 256
  | k + 1, v, 0, _ => by
    show (UInt8.ofNat v).toNat = v / 1 % 256
    rw [UInt8.toNat_ofNat', Nat.div_one]
  | k + 1, v, m + 1, h => by
    have ih := bytes_get k (v / 256) (m := m) (by omega)
    show ((Nums.bytes k (v / 256))[m]!).toNat = v / 256 ^ (m + 1) % 256
    rw [ih, Nat.div_div_eq_div_mul, Nat.pow_succ, Nat.mul_comm 256]

end Go.Proofs.YtlaikmpnijlcbaaDoor
/-
  THE DOCUMENT'S OWN DIGESTS: turn, three, cut.
-/
namespace Go.Proofs.YtlaikmpnijlcbaaDoor
open Go.RowKit Go.IntWalk Nums

theorem rot_sum (w n x : Nat) (hn : n ≤ w) (hx : x < 2 ^ w) : x * 2 ^ (w - n) % 2 ^ w = x % 2 ^ n * 2 ^ (w - n) ∧ x / 2 ^ n < 2 ^ (w - n) := by
  have e : (2 : Nat) ^ w = 2 ^ n * 2 ^ (w - n) := by rw [← Nat.pow_add, Nat.add_sub_cancel' hn]
  refine ⟨?_, Nat.div_lt_of_lt_mul (by rw [← e]; exact hx)⟩
  rw [e, Nat.mul_mod_mul_right]

theorem rot_mod32 (x n : Nat) (hx : x < 4294967296) (hn : n < 32) : (x * 2 ^ (32 - n) + x / 2 ^ n) % 4294967296 = rotw 32 n x := by
  obtain ⟨e1, e2⟩ := rot_sum 32 n x (by omega) hx
  have h4 : x % 2 ^ n + 1 ≤ 2 ^ n := Nat.mod_lt _ (Nat.two_pow_pos n)
  have h5 := Nat.mul_le_mul_right (2 ^ (32 - n)) h4
  have h6 : (2 : Nat) ^ n * 2 ^ (32 - n) = 4294967296 := by
    rw [← Nat.pow_add, Nat.add_sub_cancel' (show n ≤ 32 by omega)]
  rw [h6, Nat.add_mul, Nat.one_mul] at h5
  rw [show (2 : Nat) ^ 32 = 4294967296 from rfl] at e1
  unfold rotw
  generalize x / 2 ^ n = d at *
  generalize x * 2 ^ (32 - n) = y at *
  generalize x % 2 ^ n * 2 ^ (32 - n) = z at *
  generalize (2 : Nat) ^ (32 - n) = c at *
  omega

set_option maxRecDepth 100000 in
set_option maxHeartbeats 1000000 in
theorem rturn64_f (x n : Nat) (hx : x < 18446744073709551616) (hn : n < 64) (w : World) :
    Calls Tryd.prog 56 #[.int .u64 (x : Int), .int .u64 (n : Int), .int .u64 64] w fun e w' => e = .returned (.int .u64 ((rotw 64 n x : Nat) : Int)) ∧ w' = w := by
  obtain ⟨e1, e2⟩ := rot_sum 64 n x (by omega) hx
  have q3 : IntKind.u64.wrap ((x : Int) * 2 ^ (64 - n)) = ((x % 2 ^ n * 2 ^ (64 - n) : Nat) : Int) := by
    rw [← e1, IntKind.wrap_u64]
    simp
  have q4 : IntKind.u64.wrap (64 - (n : Int)) = ((64 - n : Nat) : Int) := by
    rw [IntKind.wrap_u64]
    omega
  have f1 : ((x : Int) / 2 ^ n) = ((x / 2 ^ n : Nat) : Int) := by simp
  have hm : x % 2 ^ n * 2 ^ (64 - n) < 18446744073709551616 := by
    rw [← e1]
    exact Nat.mod_lt _ (by decide)
  have hd : x / 2 ^ n < 18446744073709551616 := Nat.lt_of_le_of_lt (Nat.div_le_self _ _) hx
  have q5 : bits .or .u64 ((x / 2 ^ n : Nat) : Int) ((x % 2 ^ n * 2 ^ (64 - n) : Nat) : Int) = ((rotw 64 n x : Nat) : Int) := by
    rw [u64_or_nat _ _ hd hm, Nat.or_comm, nat_join (64 - n) _ _ (Nat.mul_mod_left _ _) e2]
    unfold rotw
    rw [Nat.add_comm]
  have g1 : ((64 - n : Nat) : Int) ≤ 64 := by omega
  have g2 : (n : Int) ≤ 64 := by omega
  clear e1 e2 hm hd
  generalize rotw 64 n x = r at *
  generalize x % 2 ^ n * 2 ^ (64 - n) = m at *
  generalize x / 2 ^ n = d at *
  generalize hs : 64 - n = s at *
  clear hs
  go_enter Tryd.func56, Tryd.ntmps56
  go_wp2
  go_ret
  exact ⟨rfl, rfl⟩

set_option maxRecDepth 100000 in
set_option maxHeartbeats 1000000 in
theorem rturn32_f (x n : Nat) (hx : x < 4294967296) (hn : n < 32) (w : World) :
    Calls Tryd.prog 56 #[.int .u64 (x : Int), .int .u64 (n : Int), .int .u64 32] w fun e w' => e = .returned (.int .u64 ((rotw 32 n x : Nat) : Int)) ∧ w' = w := by
  obtain ⟨e1, e2⟩ := rot_sum 32 n x (by omega) hx
  have hp : (2 : Nat) ^ (32 - n) ≤ 2 ^ 32 := Nat.pow_le_pow_right (by decide) (by omega)
  have hb : x * 2 ^ (32 - n) < 18446744073709551616 := by
    have h1 := Nat.mul_le_mul (show x ≤ 4294967295 by omega) hp
    have : (4294967295 : Nat) * 2 ^ 32 < 18446744073709551616 := by decide
    omega
  have q3 : IntKind.u64.wrap ((x : Int) * 2 ^ (32 - n)) = ((x * 2 ^ (32 - n) : Nat) : Int) := by
    rw [show ((x : Int) * 2 ^ (32 - n)) = ((x * 2 ^ (32 - n) : Nat) : Int) by simp]
    exact wrapN _ hb
  have q4 : IntKind.u64.wrap (32 - (n : Int)) = ((32 - n : Nat) : Int) := by
    rw [IntKind.wrap_u64]
    omega
  have f1 : ((x : Int) / 2 ^ n) = ((x / 2 ^ n : Nat) : Int) := by simp
  have hd : x / 2 ^ n < 18446744073709551616 := Nat.lt_of_le_of_lt (Nat.div_le_self _ _) (by omega)
  have q5 : bits .or .u64 ((x / 2 ^ n : Nat) : Int) ((x * 2 ^ (32 - n) : Nat) : Int) = ((x * 2 ^ (32 - n) + x / 2 ^ n : Nat) : Int) := by
    rw [u64_or_nat _ _ hd hb, Nat.or_comm, nat_join (32 - n) _ _ (Nat.mul_mod_left _ _) e2]
  have q6 := rot_mod32 x n hx hn
  have q7 : ((x * 2 ^ (32 - n) + x / 2 ^ n : Nat) : Int).tmod 4294967296 = ((rotw 32 n x : Nat) : Int) := by
    rw [← q6]
    rfl
  have g1 : ((32 - n : Nat) : Int) ≤ 64 := by omega
  have g2 : (n : Int) ≤ 64 := by omega
  clear e1 e2 hb hd q6 hp
  generalize rotw 32 n x = r at *
  generalize x * 2 ^ (32 - n) + x / 2 ^ n = y at *
  generalize x * 2 ^ (32 - n) = m at *
  generalize x / 2 ^ n = d at *
  generalize hs : 32 - n = s at *
  clear hs
  go_enter Tryd.func56, Tryd.ntmps56
  go_wp2
  go_ret
  exact ⟨rfl, rfl⟩

theorem own_rturn : Own 56 := fun _ _ => by go_simp
theorem own_rthree : Own 51 := fun _ _ => by go_simp
theorem own_rcut : Own 50 := fun _ _ => by go_simp
theorem own_rcube : Own 52 := fun _ _ => by go_simp
theorem own_rsquare : Own 49 := fun _ _ => by go_simp

set_option maxRecDepth 100000 in
set_option maxHeartbeats 1000000 in
theorem rcut64_f (x : Nat) (w : World) : Calls Tryd.prog 50 #[.int .u64 (x : Int), .int .u64 64] w fun e w' => e = .returned (.int .u64 (x : Int)) ∧ w' = w := by
  go_enter Tryd.func50, Tryd.ntmps50
  go_wp2
  go_ret
  exact ⟨rfl, rfl⟩
set_option maxRecDepth 100000 in
set_option maxHeartbeats 1000000 in
theorem rcut32_f (x : Nat) (w : World) : Calls Tryd.prog 50 #[.int .u64 (x : Int), .int .u64 32] w fun e w' => e = .returned (.int .u64 ((x % 4294967296 : Nat) : Int)) ∧ w' = w := by
  have q : (x : Int).tmod 4294967296 = ((x % 4294967296 : Nat) : Int) := rfl
  generalize x % 4294967296 = y at *
  go_enter Tryd.func50, Tryd.ntmps50
  go_wp2
  go_ret
  exact ⟨rfl, rfl⟩

set_option maxRecDepth 100000 in
set_option maxHeartbeats 1000000 in
theorem rbig64_f (x a b c : Nat) (hx : x < 18446744073709551616) (ha : a < 64) (hb : b < 64) (hc : c < 64) (w : World) :
    Calls Tryd.prog 51 #[.int .u64 (x : Int), .int .u64 64, .int .u64 (a : Int), .int .u64 (b : Int), .int .u64 (c : Int), .bool false] w fun e w' => e = .returned (.int .u64 ((bigw 64 (a, b, c) x : Nat) : Int)) ∧ w' = w := by
  have r1 := rotw_lt (w := 64) (n := a) (x := x) (by omega) hx
  have r2 := rotw_lt (w := 64) (n := b) (x := x) (by omega) hx
  have r3 := rotw_lt (w := 64) (n := c) (x := x) (by omega) hx
  have R1 := fun w1 => Lib.hid (rturn64_f x a hx ha w1)
  have R2 := fun w1 => Lib.hid (rturn64_f x b hx hb w1)
  have R3 := fun w1 => Lib.hid (rturn64_f x c hx hc w1)
  have x1 := u64_xor_nat _ _ r1 r2
  have x2 := u64_xor_nat _ _ (xor_lt r1 r2) r3
  have e1 : bigw 64 (a, b, c) x = rotw 64 a x ^^^ rotw 64 b x ^^^ rotw 64 c x := rfl
  rw [← e1] at x2
  clear e1 r1 r2 r3
  generalize bigw 64 (a, b, c) x = z at *
  generalize rotw 64 a x ^^^ rotw 64 b x = y at *
  generalize rotw 64 a x = p1 at *
  generalize rotw 64 b x = p2 at *
  generalize rotw 64 c x = p3 at *
  go_enter Tryd.func51, Tryd.ntmps51
  go_wp2_with (fail)
  refine (R1 _).out.mono ?_
  rintro e w4 ⟨rfl, rfl⟩
  go_wp2_with (fail)
  refine (R2 _).out.mono ?_
  rintro e w4 ⟨rfl, rfl⟩
  go_wp2_with (fail)
  refine (R3 _).out.mono ?_
  rintro e w4 ⟨rfl, rfl⟩
  go_wp2_with (fail)
  go_ret
  exact ⟨rfl, rfl⟩

set_option maxRecDepth 100000 in
set_option maxHeartbeats 1000000 in
theorem rlow64_f (x a b c : Nat) (hx : x < 18446744073709551616) (ha : a < 64) (hb : b < 64) (hc : c < 64) (w : World) :
    Calls Tryd.prog 51 #[.int .u64 (x : Int), .int .u64 64, .int .u64 (a : Int), .int .u64 (b : Int), .int .u64 (c : Int), .bool true] w fun e w' => e = .returned (.int .u64 ((loww 64 (a, b, c) x : Nat) : Int)) ∧ w' = w := by
  have r1 := rotw_lt (w := 64) (n := a) (x := x) (by omega) hx
  have r2 := rotw_lt (w := 64) (n := b) (x := x) (by omega) hx
  have r3 : x / 2 ^ c < 2 ^ 64 := Nat.lt_of_le_of_lt (Nat.div_le_self _ _) hx
  have R1 := fun w1 => Lib.hid (rturn64_f x a hx ha w1)
  have R2 := fun w1 => Lib.hid (rturn64_f x b hx hb w1)
  have x1 := u64_xor_nat _ _ r1 r2
  have x2 := u64_xor_nat _ _ (xor_lt r1 r2) r3
  have e1 : loww 64 (a, b, c) x = rotw 64 a x ^^^ rotw 64 b x ^^^ x / 2 ^ c := rfl
  rw [← e1] at x2
  clear e1 r1 r2 r3
  have f1 : ((x : Int) / 2 ^ c) = ((x / 2 ^ c : Nat) : Int) := by simp
  have g2 : (c : Int) ≤ 64 := by omega
  generalize loww 64 (a, b, c) x = z at *
  generalize rotw 64 a x ^^^ rotw 64 b x = y at *
  generalize rotw 64 a x = p1 at *
  generalize rotw 64 b x = p2 at *
  generalize x / 2 ^ c = p3 at *
  go_enter Tryd.func51, Tryd.ntmps51
  go_wp2_with (fail)
  refine (R1 _).out.mono ?_
  rintro e w4 ⟨rfl, rfl⟩
  go_wp2_with (fail)
  refine (R2 _).out.mono ?_
  rintro e w4 ⟨rfl, rfl⟩
  go_wp2_with (fail)
  go_ret
  exact ⟨rfl, rfl⟩

set_option maxRecDepth 100000 in
set_option maxHeartbeats 2000000 in
theorem rcube_f (i : Nat) (hi : i < 80) (w : World) :
    Calls Tryd.prog 52 #[.int .i64 (i : Int)] w fun e w' => e = .returned (.int .u64 (cbs[i]! : Nat)) ∧ Below w.heap.size w w' := by
  go_enter Tryd.func52, Tryd.ntmps52
  go_wp2
  go_ret
  refine ⟨?_, (Below.refl _ _).alloc (Nat.le_refl _) _⟩
  have hod : i < cbs.length := hi
  have e : (Us cbs)[i]'(by rw [Us_len]; exact hod) = .int .u64 (cbs[i]! : Nat) := by
    rw [getElem!_pos cbs i hod]
    simp [Us]
  exact congrArg Ending.returned e
set_option maxRecDepth 100000 in
set_option maxHeartbeats 2000000 in
theorem rsquare_f (i : Nat) (hi : i < 8) (w : World) :
    Calls Tryd.prog 49 #[.int .i64 (i : Int)] w fun e w' => e = .returned (.int .u64 (sqs[i]! : Nat)) ∧ Below w.heap.size w w' := by
  go_enter Tryd.func49, Tryd.ntmps49
  go_wp2
  go_ret
  refine ⟨?_, (Below.refl _ _).alloc (Nat.le_refl _) _⟩
  have hod : i < sqs.length := hi
  have e : (Us sqs)[i]'(by rw [Us_len]; exact hod) = .int .u64 (sqs[i]! : Nat) := by
    rw [getElem!_pos sqs i hod]
    simp [Us]
  exact congrArg Ending.returned e
end Go.Proofs.YtlaikmpnijlcbaaDoor
