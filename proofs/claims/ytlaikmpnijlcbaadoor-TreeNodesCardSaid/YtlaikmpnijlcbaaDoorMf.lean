/-
  SEVERAL TEXTS IN ONE: Curve, Root, Pack, ShaP, TrP, TrB, TrG, UsB, Ref02, Ws, DigS, DigR, DigW, DigM, DigB, DigP, DigO, DigF, Digest, RLong, Ref32, DigS32, DigR32, DigW32, DigM32, DigB32, DigP32, DigO32, Digest32, RSum, Rot64, Long512, Turn512.
-/
import Derived.Test.YtlaikmpnijlcbaaDoorMe
import Derived.Test.YtlaikmpnijlcbaaDoorMb
import Derived.Laws.OwnMore
import Derived.StillTailTactics
import Derived.Test.YtlaikmpnijlcbaaDoorMa
/-
PLAIN NUMBERS: primes, Fermat's little theorem, Pocklington's criterion; p = 2^255 - 19 is prime. No program is imported.
PLAIN NUMBERS: the numbers modulo a prime as Fin n: no divisors of zero, powers, inverses, roots. No program is imported.
PLAIN NUMBERS: the curve -x² + y² = 1 + d x² y² modulo a prime, where -1 is a square and d is none: its sums are a group. No program is imported.
-/

namespace Nums

def Prime (p : Nat) : Prop := 1 < p ∧ ∀ m, m ∣ p → m = 1 ∨ m = p

theorem Prime.pos {p : Nat} (h : Prime p) : 0 < p := by have := h.1; omega

theorem Prime.coprime {p a : Nat} (h : Prime p) (ha : ¬ p ∣ a) : Nat.Coprime p a := by
  have hd : Nat.gcd p a ∣ p := Nat.gcd_dvd_left p a
  rcases h.2 _ hd with h1 | h1
  · exact h1
  · exact absurd (h1 ▸ Nat.gcd_dvd_right p a) ha

theorem Prime.dvd_mul {p a b : Nat} (h : Prime p) (hd : p ∣ a * b) : p ∣ a ∨ p ∣ b := by
  by_cases ha : p ∣ a
  · exact .inl ha
  · exact .inr ((h.coprime ha).dvd_of_dvd_mul_left hd)

/-- Every number above 1 has a prime divisor. -/
theorem exists_prime_dvd : ∀ (n : Nat), 1 < n → ∃ r, Prime r ∧ r ∣ n := by
  intro n
  induction n using Nat.strongRecOn with
  | ind n ih =>
    intro hn
    by_cases hp : ∃ m, m ∣ n ∧ m ≠ 1 ∧ m ≠ n
    · obtain ⟨m, hm, h1, h2⟩ := hp
      have hle := Nat.le_of_dvd (by omega) hm
      have hpos := Nat.pos_of_dvd_of_pos hm (by omega)
      obtain ⟨r, hr, hrm⟩ := ih m (by omega) (by omega)
      exact ⟨r, hr, Nat.dvd_trans hrm hm⟩
    · refine ⟨n, ⟨hn, fun m hm => ?_⟩, Nat.dvd_refl n⟩
      by_cases h1 : m = 1
      · exact .inl h1
      · by_cases h2 : m = n
        · exact .inr h2
        · exact absurd ⟨m, hm, h1, h2⟩ hp

/-- A composite number has a prime divisor whose square is at most it. -/
theorem small_prime {n : Nat} (hn : 1 < n) (hp : ¬ Prime n) : ∃ r, Prime r ∧ r ∣ n ∧ r * r ≤ n := by
  have : ∃ m, m ∣ n ∧ m ≠ 1 ∧ m ≠ n := by
    by_cases h : ∃ m, m ∣ n ∧ m ≠ 1 ∧ m ≠ n
    · exact h
    · refine absurd ⟨hn, fun m hm => ?_⟩ hp
      by_cases h1 : m = 1
      · exact .inl h1
      · by_cases h2 : m = n
        · exact .inr h2
        · exact absurd ⟨m, hm, h1, h2⟩ h
  obtain ⟨m, ⟨k, hk⟩, h1, h2⟩ := this
  have hm0 : 0 < m := by
    rcases Nat.eq_zero_or_pos m with h | h
    · subst h; simp at hk; omega
    · exact h
  have hk0 : 0 < k := by
    rcases Nat.eq_zero_or_pos k with h | h
    · subst h; simp at hk; omega
    · exact h
  have hk1 : k ≠ 1 := fun h => by subst h; simp at hk; omega
  rcases Nat.le_total m k with hle | hle
  · obtain ⟨r, hr, hrm⟩ := exists_prime_dvd m (by omega)
    have hrle := Nat.le_of_dvd hm0 hrm
    exact ⟨r, hr, Nat.dvd_trans hrm ⟨k, hk⟩, by rw [hk]; exact Nat.mul_le_mul hrle (Nat.le_trans hrle hle)⟩
  · obtain ⟨r, hr, hrk⟩ := exists_prime_dvd k (by omega)
    have hrle := Nat.le_of_dvd hk0 hrk
    exact ⟨r, hr, Nat.dvd_trans hrk ⟨m, by rw [hk, Nat.mul_comm]⟩, by rw [hk]; exact Nat.mul_le_mul (Nat.le_trans hrle hle) hrle⟩

/-! Fermat. -/
def prod (l : List Nat) : Nat := l.foldr (· * ·) 1
theorem prod_cons (a : Nat) (l : List Nat) : prod (a :: l) = a * prod l := rfl
theorem prod_perm {l1 l2 : List Nat} (h : l1.Perm l2) : prod l1 = prod l2 := by
  induction h with
  | nil => rfl
  | cons x _ ih => rw [prod_cons, prod_cons, ih]
  | swap x y l => rw [prod_cons, prod_cons, prod_cons, prod_cons, ← Nat.mul_assoc, ← Nat.mul_assoc, Nat.mul_comm x y]
  | trans _ _ ih1 ih2 => rw [ih1, ih2]

theorem perm_of : ∀ {l1 l2 : List Nat}, l1.Nodup → (∀ x ∈ l1, x ∈ l2) → l2.length ≤ l1.length → l1.Perm l2
  | [], l2, _, _, hl => by
    have : l2 = [] := List.eq_nil_of_length_eq_zero (by simpa using hl)
    subst this
    exact List.Perm.refl _
  | x :: l1, l2, hn, hs, hl => by
    have hx : x ∈ l2 := hs x (by simp)
    have hp := List.perm_cons_erase hx
    obtain ⟨hx1, hn1⟩ := List.nodup_cons.1 hn
    have h1 : l1.Perm (l2.erase x) := perm_of hn1 (fun y hy => (List.mem_erase_of_ne (fun (e : y = x) => hx1 (e ▸ hy))).2 (hs y (by simp [hy]))) (by
      rw [List.length_erase_of_mem hx]
      simp at hl
      omega)
    exact (List.Perm.cons x h1).trans hp.symm

theorem prod_map_mod (a r : Nat) : ∀ (l : List Nat), prod (l.map fun i => a * i % r) % r = a ^ l.length * prod l % r
  | [] => by simp [prod]
  | i :: l => by
    rw [List.map_cons, prod_cons, prod_cons, List.length_cons, Nat.mul_mod, prod_map_mod a r l, Nat.mod_mod, ← Nat.mul_mod, Nat.pow_succ]
    congr 1
    rw [Nat.mul_assoc, Nat.mul_assoc]
    rw [Nat.mul_left_comm i, ← Nat.mul_assoc a (a ^ l.length), Nat.mul_comm a (a ^ l.length), Nat.mul_assoc]

theorem coprime_prod {r : Nat} (hr : Prime r) : ∀ (l : List Nat), (∀ x ∈ l, ¬ r ∣ x) → ¬ r ∣ prod l
  | [], _, h => by
    have := Nat.le_of_dvd (by simp [prod]) h
    simp [prod] at this
    have := hr.1
    omega
  | x :: l, hl, h => by
    rw [prod_cons] at h
    rcases hr.dvd_mul h with h1 | h1
    · exact hl x (by simp) h1
    · exact coprime_prod hr l (fun y hy => hl y (by simp [hy])) h1

theorem mod_cancel {r a b c : Nat} (hr : Prime r) (hc : ¬ r ∣ c) (h : a * c % r = b * c % r) : a % r = b % r := by
  have key : ∀ {x y : Nat}, y ≤ x → x * c % r = y * c % r → x % r = y % r := fun {x y} hle h => by
    have h1 : r ∣ x * c - y * c := Nat.dvd_of_mod_eq_zero (Nat.sub_mod_eq_zero_of_mod_eq h)
    rw [← Nat.sub_mul] at h1
    rcases hr.dvd_mul h1 with ⟨t, ht⟩ | h2
    · have : x = y + r * t := by omega
      rw [this, Nat.add_mul_mod_self_left]
    · exact absurd h2 hc
  rcases Nat.le_total b a with hle | hle
  · exact key hle h
  · exact (key hle h.symm).symm

theorem nodup_map {f : Nat → Nat} : ∀ {l : List Nat}, l.Nodup → (∀ x ∈ l, ∀ y ∈ l, f x = f y → x = y) → (l.map f).Nodup
  | [], _, _ => by simp
  | a :: l, hn, hi => by
    obtain ⟨h1, h2⟩ := List.nodup_cons.1 hn
    rw [List.map_cons, List.nodup_cons]
    refine ⟨fun h => ?_, nodup_map h2 (fun x hx y hy => hi x (by simp [hx]) y (by simp [hy]))⟩
    obtain ⟨b, hb, e⟩ := List.mem_map.1 h
    have := hi b (by simp [hb]) a (by simp) e
    subst this
    exact h1 hb

theorem fermat {r a : Nat} (hr : Prime r) (ha : ¬ r ∣ a) : a ^ (r - 1) % r = 1 := by
  have hr1 := hr.1
  have hnd : ∀ i ∈ List.range' 1 (r - 1), ¬ r ∣ i := fun i hi hd => by
    have hi' := List.mem_range'_1.1 hi
    have := Nat.le_of_dvd (by omega) hd
    omega
  have hperm : ((List.range' 1 (r - 1)).map fun i => a * i % r).Perm (List.range' 1 (r - 1)) := by
    refine perm_of ?_ ?_ (by simp)
    · refine nodup_map List.nodup_range' fun x hx y hy h => ?_
      have hx' := List.mem_range'_1.1 hx
      have hy' := List.mem_range'_1.1 hy
      rw [Nat.mul_comm a x, Nat.mul_comm a y] at h
      have := mod_cancel hr ha h
      rwa [Nat.mod_eq_of_lt (by omega), Nat.mod_eq_of_lt (by omega)] at this
    · intro x hx
      obtain ⟨i, hi, rfl⟩ := List.mem_map.1 hx
      have hlt : a * i % r < r := Nat.mod_lt _ hr.pos
      have hne : a * i % r ≠ 0 := fun h0 => by
        rcases hr.dvd_mul (Nat.dvd_of_mod_eq_zero h0) with h1 | h1
        · exact ha h1
        · exact hnd i hi h1
      exact List.mem_range'_1.2 ⟨by omega, by omega⟩
  have h1 := prod_map_mod a r (List.range' 1 (r - 1))
  rw [prod_perm hperm, List.length_range'] at h1
  have h2 : 1 * prod (List.range' 1 (r - 1)) % r = a ^ (r - 1) * prod (List.range' 1 (r - 1)) % r := by rw [Nat.one_mul]; exact h1
  have h3 := mod_cancel hr (coprime_prod hr _ hnd) h2
  rw [← h3, Nat.mod_eq_of_lt hr1]

/-! Powers modulo a number, reckoned. -/
def pm (n a : Nat) : Nat → Nat → Nat
  | 0, _ => 1 % n
  | k + 1, e => if e % 2 = 1 then pm n a k (e / 2) * pm n a k (e / 2) % n * a % n else pm n a k (e / 2) * pm n a k (e / 2) % n

theorem pm_eq (n a : Nat) : ∀ (k e : Nat), e < 2 ^ k → pm n a k e = a ^ e % n
  | 0, e, h => by
    have : e = 0 := by simpa using h
    subst this
    simp [pm]
  | k + 1, e, h => by
    have h1 : e / 2 < 2 ^ k := by rw [Nat.pow_succ] at h; omega
    have ih := pm_eq n a k (e / 2) h1
    unfold pm
    rw [ih]
    have e2 : a ^ (e / 2) % n * (a ^ (e / 2) % n) % n = a ^ (2 * (e / 2)) % n := by
      rw [← Nat.mul_mod, ← Nat.pow_add]
      congr 2
      omega
    rw [e2]
    split
    · rw [Nat.mod_mul_mod, ← Nat.pow_succ]
      congr 2
      omega
    · congr 2
      omega

theorem pow_gcd {r a : Nat} (hr : 1 < r) : ∀ (m n : Nat), a ^ m % r = 1 → a ^ n % r = 1 → a ^ Nat.gcd m n % r = 1 := by
  intro m n
  induction m, n using Nat.gcd.induction with
  | H0 n => intro _ h; simpa using h
  | H1 m n hm ih =>
    intro h1 h2
    rw [Nat.gcd_rec]
    refine ih ?_ h1
    have e : a ^ n = (a ^ m) ^ (n / m) * a ^ (n % m) := by
      rw [← Nat.pow_mul, ← Nat.pow_add, Nat.div_add_mod]
    have h3 : (a ^ m) ^ (n / m) % r = 1 := by
      rw [Nat.pow_mod, h1, Nat.one_pow, Nat.mod_eq_of_lt hr]
    rw [e, Nat.mul_mod, h3, Nat.one_mul, Nat.mod_mod] at h2
    exact h2

theorem pock_one {n q a m r : Nat} (hq : Prime q) (hn : n - 1 = q * m) (hn1 : 1 < n) (h1 : a ^ (n - 1) % n = 1) (g1 : Nat.gcd (a ^ m % n + n - 1) n = 1) (hr : Prime r) (hrn : r ∣ n) : q ∣ r - 1 := by
  have hr1 := hr.1
  have hmod : ∀ x, x % n % r = x % r := fun x => Nat.mod_mod_of_dvd x hrn
  have h1r : a ^ (n - 1) % r = 1 := by rw [← hmod, h1, Nat.mod_eq_of_lt hr1]
  have hra : ¬ r ∣ a := fun hd => by
    have h0 : a ^ (n - 1) % r = 0 := by
      refine Nat.mod_eq_zero_of_dvd (Nat.dvd_trans hd ?_)
      exact ⟨a ^ (n - 2), by rw [← Nat.pow_succ']; congr 1; omega⟩
    omega
  by_cases hqr : q ∣ r - 1
  · exact hqr
  · have hf := fermat hr hra
    have hg := pow_gcd hr1 (n - 1) (r - 1) h1r hf
    have hcop : Nat.Coprime (Nat.gcd (n - 1) (r - 1)) q := by
      have := hq.coprime (a := Nat.gcd (n - 1) (r - 1)) (fun hd => hqr (Nat.dvd_trans hd (Nat.gcd_dvd_right _ _)))
      exact this.symm
    have hdm : Nat.gcd (n - 1) (r - 1) ∣ m := by
      have : Nat.gcd (n - 1) (r - 1) ∣ q * m := hn ▸ Nat.gcd_dvd_left (n - 1) (r - 1)
      exact hcop.dvd_of_dvd_mul_left this
    obtain ⟨t, ht⟩ := hdm
    have hm : a ^ m % r = 1 := by
      rw [ht, Nat.pow_mul, Nat.pow_mod, hg, Nat.one_pow, Nat.mod_eq_of_lt hr1]
    exfalso
    have hlt : a ^ m % n < n := Nat.mod_lt _ (by omega)
    have hd : r ∣ a ^ m % n + n - 1 := by
      have e1 : a ^ m % n % r = 1 := by rw [hmod]; exact hm
      have e2 : 1 ≤ a ^ m % n := by
        rcases Nat.eq_zero_or_pos (a ^ m % n) with h0 | h0
        · rw [h0] at e1; simp at e1
        · exact h0
      have e3 : r ∣ a ^ m % n - 1 := Nat.dvd_of_mod_eq_zero (by
        have := Nat.sub_mod_eq_zero_of_mod_eq (m := a ^ m % n) (n := 1) (k := r) (by rw [e1, Nat.mod_eq_of_lt hr1])
        exact this)
      have e4 : a ^ m % n + n - 1 = (a ^ m % n - 1) + n := by omega
      rw [e4]
      exact Nat.dvd_add e3 hrn
    have := Nat.dvd_gcd hd hrn
    rw [g1] at this
    have := Nat.le_of_dvd (by omega) this
    omega

/-- Pocklington's criterion with two primes. -/
theorem pocklington {n q1 q2 m1 m2 a : Nat} (hq1 : Prime q1) (hq2 : Prime q2) (hne : q1 ≠ q2) (hn1 : 1 < n) (hm1 : n - 1 = q1 * m1) (hm2 : n - 1 = q2 * m2) (hsz : n < (q1 * q2 + 1) * (q1 * q2 + 1))
    (h1 : a ^ (n - 1) % n = 1) (g1 : Nat.gcd (a ^ m1 % n + n - 1) n = 1) (g2 : Nat.gcd (a ^ m2 % n + n - 1) n = 1) : Prime n := by
  by_cases hp : Prime n
  · exact hp
  · exfalso
    obtain ⟨r, hr, hrn, hrr⟩ := small_prime hn1 hp
    have d1 := pock_one hq1 hm1 hn1 h1 g1 hr hrn
    have d2 := pock_one hq2 hm2 hn1 h1 g2 hr hrn
    have hcop : Nat.Coprime q1 q2 := hq1.coprime (fun hd => by
      rcases hq2.2 _ hd with h | h
      · have := hq1.1; omega
      · exact hne h)
    have hd : q1 * q2 ∣ r - 1 := hcop.mul_dvd_of_dvd_of_dvd d1 d2
    have hr1 := hr.1
    have hle := Nat.le_of_dvd (by omega) hd
    have h2 : q1 * q2 + 1 ≤ r := by omega
    have := Nat.mul_le_mul h2 h2
    omega

/-- The criterion's reckoning, as one Bool. -/
def pockB (n q1 q2 a k : Nat) : Bool :=
  decide (1 < n) && decide (n - 1 = q1 * ((n - 1) / q1)) && decide (n - 1 = q2 * ((n - 1) / q2)) && decide (n < (q1 * q2 + 1) * (q1 * q2 + 1)) && decide (q1 ≠ q2) && decide (n < 2 ^ k) &&
  (pm n a k (n - 1) == 1) && (Nat.gcd (pm n a k ((n - 1) / q1) + n - 1) n == 1) && (Nat.gcd (pm n a k ((n - 1) / q2) + n - 1) n == 1)

theorem prime_of {n q1 q2 a k : Nat} (hq1 : Prime q1) (hq2 : Prime q2) (h : pockB n q1 q2 a k = true) : Prime n := by
  simp only [pockB, Bool.and_eq_true, decide_eq_true_eq, beq_iff_eq] at h
  obtain ⟨⟨⟨⟨⟨⟨⟨⟨h1, h2⟩, h3⟩, h4⟩, h5⟩, h6⟩, h7⟩, h8⟩, h9⟩ := h
  have hd1 : (n - 1) / q1 ≤ n - 1 := Nat.div_le_self _ _
  have hd2 : (n - 1) / q2 ≤ n - 1 := Nat.div_le_self _ _
  rw [pm_eq n a k _ (by omega)] at h7 h8 h9
  exact pocklington hq1 hq2 h5 h1 h2 h3 h4 h7 h8 h9

/-- Trial division. -/
def trial (n : Nat) : Nat → Bool
  | 0 => true
  | k + 1 => trial n k && (decide (k < 2) || decide (n % k ≠ 0))
theorem trial_get {n : Nat} : ∀ {k m : Nat}, trial n k = true → 2 ≤ m → m < k → ¬ m ∣ n
  | k + 1, m, h, h2, hm, hd => by
    simp only [trial, Bool.and_eq_true, Bool.or_eq_true, decide_eq_true_eq] at h
    by_cases e : m = k
    · subst e
      rcases h.2 with h3 | h3
      · omega
      · exact h3 (Nat.mod_eq_zero_of_dvd hd)
    · exact trial_get h.1 h2 (by omega) hd
theorem prime_trial {n k : Nat} (hn : 1 < n) (hk : n < k * k) (h : trial n k = true) : Prime n := by
  by_cases hp : Prime n
  · exact hp
  · exfalso
    obtain ⟨r, hr, hrn, hrr⟩ := small_prime hn hp
    have hr1 := hr.1
    have : r < k := by
      rcases Nat.lt_or_ge r k with h1 | h1
      · exact h1
      · have := Nat.mul_le_mul h1 h1; omega
    exact trial_get h (by omega) this hrn

theorem prime_127 : Prime 127 := prime_trial (k := 12) (by decide) (by decide) (by decide +kernel)
theorem prime_8574133 : Prime 8574133 := prime_trial (k := 2929) (by decide) (by decide +kernel) (by decide +kernel)
theorem prime_75707 : Prime 75707 := prime_trial (k := 276) (by decide) (by decide +kernel) (by decide +kernel)
theorem prime_65147 : Prime 65147 := prime_trial (k := 256) (by decide) (by decide +kernel) (by decide +kernel)
theorem prime_1923133 : Prime 1923133 := prime_trial (k := 1387) (by decide) (by decide +kernel) (by decide +kernel)
theorem prime_a : Prime 1919519569386763 := prime_of (q1 := 8574133) (q2 := 127) (a := 2) (k := 51) prime_8574133 prime_127 (by decide +kernel)
theorem prime_b : Prime 75445702479781427272750846543864801 := prime_of (q1 := 1919519569386763) (q2 := 75707) (a := 7) (k := 116) prime_a prime_75707 (by decide +kernel)
theorem prime_c : Prime 74058212732561358302231226437062788676166966415465897661863160754340907 := prime_of (q1 := 75445702479781427272750846543864801) (q2 := 1923133) (a := 2) (k := 236) prime_b prime_1923133 (by decide +kernel)

/-- p. -/
def p : Nat := 57896044618658097711785492504343953926634992332820282019728792003956564819949
theorem prime_p : Prime p := prime_of (q1 := 74058212732561358302231226437062788676166966415465897661863160754340907) (q2 := 65147) (a := 2) (k := 255) prime_c prime_65147 (by decide +kernel)

end Nums

namespace Nums
section
variable {n : Nat} [NeZero n]

omit [NeZero n] in
theorem val_mul (a b : Fin n) : (a * b).val = a.val * b.val % n := rfl
theorem val_zero : ((0 : Fin n)).val = 0 := by simp
theorem val_one (hn : Prime n) : ((1 : Fin n)).val = 1 := by
  show 1 % n = 1
  exact Nat.mod_eq_of_lt hn.1

theorem ne_one (hn : Prime n) : (0 : Fin n) ≠ 1 := by
  intro h
  have := congrArg Fin.val h
  rw [val_one hn, val_zero] at this
  omega

theorem zero_or (hn : Prime n) {a b : Fin n} (h : a * b = 0) : a = 0 ∨ b = 0 := by
  have h1 : a.val * b.val % n = 0 := by rw [← val_mul, h]; exact val_zero
  have z : ∀ c : Fin n, n ∣ c.val → c = 0 := fun c hc => by
    apply Fin.ext
    rw [val_zero]
    exact Nat.eq_zero_of_dvd_of_lt hc c.isLt
  rcases hn.dvd_mul (Nat.dvd_of_mod_eq_zero h1) with h2 | h2
  · exact .inl (z a h2)
  · exact .inr (z b h2)

theorem mul_ne (hn : Prime n) {a b : Fin n} (ha : a ≠ 0) (hb : b ≠ 0) : a * b ≠ 0 := fun h => by
  rcases zero_or hn h with h | h
  · exact ha h
  · exact hb h

/-- Powers. -/
def fpow (a : Fin n) : Nat → Fin n
  | 0 => 1
  | k + 1 => fpow a k * a

theorem fpow_zero (a : Fin n) : fpow a 0 = 1 := rfl
theorem fpow_succ (a : Fin n) (k : Nat) : fpow a (k + 1) = fpow a k * a := rfl
theorem fpow_add (a : Fin n) (j k : Nat) : fpow a (j + k) = fpow a j * fpow a k := by
  induction k with
  | zero => rw [Nat.add_zero, fpow_zero]; grind
  | succ k ih => rw [Nat.add_succ, fpow_succ, fpow_succ, ih]; grind
theorem mul_fpow (a b : Fin n) (k : Nat) : fpow (a * b) k = fpow a k * fpow b k := by
  induction k with
  | zero => rw [fpow_zero, fpow_zero, fpow_zero]; grind
  | succ k ih => rw [fpow_succ, fpow_succ, fpow_succ, ih]; grind
theorem fpow_val (hn : Prime n) (a : Fin n) (k : Nat) : (fpow a k).val = a.val ^ k % n := by
  induction k with
  | zero => rw [fpow_zero, val_one hn, Nat.pow_zero, Nat.mod_eq_of_lt hn.1]
  | succ k ih => rw [fpow_succ, val_mul, ih, Nat.pow_succ, Nat.mod_mul_mod]

theorem fpow_fermat (hn : Prime n) {a : Fin n} (ha : a ≠ 0) : fpow a (n - 1) = 1 := by
  apply Fin.ext
  rw [fpow_val hn, val_one hn]
  apply fermat hn
  intro hd
  apply ha
  apply Fin.ext
  rw [val_zero]
  exact Nat.eq_zero_of_dvd_of_lt hd a.isLt

/-- The inverse (of 0: 0). -/
def finv (a : Fin n) : Fin n := fpow a (n - 2)

theorem mul_finv (hn : Prime n) {a : Fin n} (ha : a ≠ 0) : a * finv a = 1 := by
  have h := fpow_fermat hn ha
  have h2 : n - 1 = (n - 2) + 1 := by have := hn.1; omega
  rw [h2, fpow_succ] at h
  unfold finv
  rw [← h]; grind

theorem cancel (hn : Prime n) {a b c : Fin n} (hc : c ≠ 0) (h : a * c = b * c) : a = b := by
  have h1 := mul_finv hn hc
  have : a * c * finv c = b * c * finv c := by rw [h]
  grind

theorem finv_of (hn : Prime n) {a b : Fin n} (h : a * b = 1) : finv a = b := by
  have ha : a ≠ 0 := by
    rintro rfl
    exact ne_one hn (by rw [← h]; grind)
  apply cancel hn ha
  have := mul_finv hn ha
  grind

end
end Nums

namespace Nums

theorem Ed.closed {n : Nat} [NeZero n] (x1 y1 x2 y2 d : Fin n) (h1 : y1*y1 - x1*x1 = 1 + d*x1*x1*y1*y1) (h2 : y2*y2 - x2*x2 = 1 + d*x2*x2*y2*y2) :
  (y1*y2+x1*x2)*(y1*y2+x1*x2)*(1+d*x1*x2*y1*y2)*(1+d*x1*x2*y1*y2) - (x1*y2+y1*x2)*(x1*y2+y1*x2)*(1-d*x1*x2*y1*y2)*(1-d*x1*x2*y1*y2)
   = (1+d*x1*x2*y1*y2)*(1+d*x1*x2*y1*y2)*(1-d*x1*x2*y1*y2)*(1-d*x1*x2*y1*y2) + d*(y1*y2+x1*x2)*(y1*y2+x1*x2)*(x1*y2+y1*x2)*(x1*y2+y1*x2) := by grind

set_option maxHeartbeats 4000000 in
theorem Ed.assoc_x {n : Nat} [NeZero n] (x1 y1 x2 y2 x3 y3 d : Fin n) (h1 : y1*y1 - x1*x1 = 1 + d*x1*x1*y1*y1) (h2 : y2*y2 - x2*x2 = 1 + d*x2*x2*y2*y2) (h3 : y3*y3 - x3*x3 = 1 + d*x3*x3*y3*y3) :
  ((x1*y2+y1*x2)*(1-d*x1*x2*y1*y2)*y3 + (y1*y2+x1*x2)*(1+d*x1*x2*y1*y2)*x3) * ((1+d*x2*x3*y2*y3)*(1-d*x2*x3*y2*y3) + d*x1*y1*(x2*y3+y2*x3)*(y2*y3+x2*x3))
  = (x1*(y2*y3+x2*x3)*(1+d*x2*x3*y2*y3) + y1*(x2*y3+y2*x3)*(1-d*x2*x3*y2*y3)) * ((1+d*x1*x2*y1*y2)*(1-d*x1*x2*y1*y2) + d*(x1*y2+y1*x2)*(y1*y2+x1*x2)*x3*y3) := by grind

set_option maxHeartbeats 4000000 in
theorem Ed.assoc_y {n : Nat} [NeZero n] (x1 y1 x2 y2 x3 y3 d : Fin n) (h1 : y1*y1 - x1*x1 = 1 + d*x1*x1*y1*y1) (h2 : y2*y2 - x2*x2 = 1 + d*x2*x2*y2*y2) (h3 : y3*y3 - x3*x3 = 1 + d*x3*x3*y3*y3) :
  ((y1*y2+x1*x2)*(1+d*x1*x2*y1*y2)*y3 + (x1*y2+y1*x2)*(1-d*x1*x2*y1*y2)*x3) * ((1+d*x2*x3*y2*y3)*(1-d*x2*x3*y2*y3) - d*x1*y1*(x2*y3+y2*x3)*(y2*y3+x2*x3))
  = (y1*(y2*y3+x2*x3)*(1+d*x2*x3*y2*y3) + x1*(x2*y3+y2*x3)*(1-d*x2*x3*y2*y3)) * ((1+d*x1*x2*y1*y2)*(1-d*x1*x2*y1*y2) - d*(x1*y2+y1*x2)*(y1*y2+x1*x2)*x3*y3) := by grind

theorem Ed.key {n : Nat} [NeZero n] {X1 Y1 X2 Y2 D e s : Fin n} (h1 : X1*X1 + Y1*Y1 = 1 + D*X1*X1*Y1*Y1) (h2 : X2*X2 + Y2*Y2 = 1 + D*X2*X2*Y2*Y2) (h : D*X1*X2*Y1*Y2 = e) (he : e * e = 1) (hs : s * s = 1) :
    (X1 + s*e*Y1) * (X1 + s*e*Y1) = D * ((X1*Y1*(X2+s*Y2)) * (X1*Y1*(X2+s*Y2))) := by
  have l : (X1 + s*e*Y1) * (X1 + s*e*Y1) = X1*X1 + (s*s)*(e*e)*(Y1*Y1) + 2*s*e*X1*Y1 := by grind only
  have r : D * ((X1*Y1*(X2+s*Y2)) * (X1*Y1*(X2+s*Y2))) = D*X1*X1*Y1*Y1*(X2*X2 + (s*s)*(Y2*Y2)) + 2*s*(D*X1*X2*Y1*Y2)*X1*Y1 := by grind only
  rw [l, r, hs, he, h]
  have e1 : (1 : Fin n) * 1 * (Y1*Y1) = Y1 * Y1 := by grind only
  have e2 : (1 : Fin n) * (Y2*Y2) = Y2 * Y2 := by grind only
  have e3 : D*X1*X1*Y1*Y1*(1 + D*X2*X2*Y2*Y2) = D*X1*X1*Y1*Y1 + (D*X1*X2*Y1*Y2) * (D*X1*X2*Y1*Y2) := by grind only
  rw [e1, e2, h1, h2, e3, h, he]
  grind only

section
variable {n : Nat} [NeZero n]

structure Ed.Pt (n : Nat) where
  x : Fin n
  y : Fin n

/-- A curve: n is a prime, -1 has a root, d has none. -/
structure Ed.Good (n : Nat) [NeZero n] (d : Fin n) : Prop where
  pr : Prime n
  two : (2 : Fin n) ≠ 0
  i : ∃ i : Fin n, i * i = -1
  d : ∀ t : Fin n, t * t ≠ d

namespace Ed
variable {d : Fin n}

def On (d : Fin n) (P : Pt n) : Prop := P.y*P.y - P.x*P.x = 1 + d*P.x*P.x*P.y*P.y

/-- The heart of it: d x1 x2 y1 y2 is neither 1 nor -1. -/
theorem complete (g : Good n d) {x1 y1 x2 y2 e : Fin n} (h1 : y1*y1 - x1*x1 = 1 + d*x1*x1*y1*y1) (h2 : y2*y2 - x2*x2 = 1 + d*x2*x2*y2*y2) (he : e * e = 1) :
    d*x1*x2*y1*y2 ≠ e := by
  intro h
  obtain ⟨i, hi⟩ := g.i
  have e0 : e ≠ 0 := by rintro rfl; exact ne_one g.pr (by grind only)
  have hx1 : x1 ≠ 0 := by rintro rfl; exact e0 (by grind only)
  have hy1 : y1 ≠ 0 := by rintro rfl; exact e0 (by grind only)
  have hx2 : x2 ≠ 0 := by rintro rfl; exact e0 (by grind only)
  have hi0 : i ≠ 0 := by
    rintro rfl
    exact ne_one g.pr (by grind only)
  have g1 : (i*x1)*(i*x1) + y1*y1 = 1 + (-d)*(i*x1)*(i*x1)*y1*y1 := by
    have a : (i*x1)*(i*x1) + y1*y1 = (i*i)*(x1*x1) + y1*y1 := by grind only
    have b : 1 + (-d)*(i*x1)*(i*x1)*y1*y1 = 1 + (-d)*(i*i)*(x1*x1)*y1*y1 := by grind only
    rw [a, b, hi]
    grind only
  have g2 : (i*x2)*(i*x2) + y2*y2 = 1 + (-d)*(i*x2)*(i*x2)*y2*y2 := by
    have a : (i*x2)*(i*x2) + y2*y2 = (i*i)*(x2*x2) + y2*y2 := by grind only
    have b : 1 + (-d)*(i*x2)*(i*x2)*y2*y2 = 1 + (-d)*(i*i)*(x2*x2)*y2*y2 := by grind only
    rw [a, b, hi]
    grind only
  have g3 : (-d)*(i*x1)*(i*x2)*y1*y2 = e := by
    have a : (-d)*(i*x1)*(i*x2)*y1*y2 = (-d)*(i*i)*x1*x2*y1*y2 := by grind only
    rw [a, hi, ← h]
    grind only
  have key : ∀ s : Fin n, s * s = 1 → i*x2 + s*y2 = 0 := by
    intro s hs
    by_cases hz : i*x2 + s*y2 = 0
    · exact hz
    exfalso
    have hw : i*x1*y1*(i*x2+s*y2) ≠ 0 := mul_ne g.pr (mul_ne g.pr (mul_ne g.pr hi0 hx1) hy1) hz
    have hm := mul_finv g.pr hw
    have hk := Ed.key g1 g2 g3 he hs
    generalize i*x1*y1*(i*x2+s*y2) = w at hm hk
    generalize i*x1 + s*e*y1 = v at hk
    refine g.d (i * (v * finv w)) ?_
    have a : i * (v * finv w) * (i * (v * finv w)) = (i*i)*(v*v)*(finv w)*(finv w) := by grind only
    have b : (-1) * ((-d) * (w*w)) * finv w * finv w = d * (w * finv w) * (w * finv w) := by grind only
    rw [a, hi, hk, b, hm]
    grind only
  have k1 := key 1 (by grind only)
  have k2 := key (-1) (by grind only)
  have : (2 : Fin n) * (i * x2) = 0 := by grind only
  rcases zero_or g.pr this with h3 | h3
  · exact g.two h3
  · exact mul_ne g.pr hi0 hx2 h3

end Ed
end
end Nums
/-
PLAIN NUMBERS: the sums of the curve's points are a group; multiples. No program is imported.
PLAIN NUMBERS: multiples of the curve's points; the sum in coordinates over one z. No program is imported.
PLAIN NUMBERS: p = 2^255 - 19: which numbers are squares, and their roots; the curve's d. No program is imported.
-/
namespace Nums
namespace Ed
variable {n : Nat} [NeZero n] {d : Fin n}

def kk (d : Fin n) (P Q : Pt n) : Fin n := d * P.x * Q.x * P.y * Q.y

theorem plus_ne (g : Good n d) {P Q : Pt n} (hP : On d P) (hQ : On d Q) : 1 + kk d P Q ≠ 0 := fun h =>
  complete g hP hQ (e := -1) (by grind only) (by unfold kk at h; grind only)

theorem minus_ne (g : Good n d) {P Q : Pt n} (hP : On d P) (hQ : On d Q) : 1 - kk d P Q ≠ 0 := fun h =>
  complete g hP hQ (e := 1) (by grind only) (by unfold kk at h; grind only)

/-- The sum. -/
def add (d : Fin n) (P Q : Pt n) : Pt n :=
  ⟨(P.x*Q.y + P.y*Q.x) * finv (1 + kk d P Q), (P.y*Q.y + P.x*Q.x) * finv (1 - kk d P Q)⟩

def zero : Pt n := ⟨0, 1⟩
theorem on_zero : On d (zero : Pt n) := by
  show (1 : Fin n) * 1 - 0 * 0 = 1 + d * 0 * 0 * 1 * 1
  grind only

theorem add_x (g : Good n d) {P Q : Pt n} (hP : On d P) (hQ : On d Q) : (add d P Q).x * (1 + kk d P Q) = P.x*Q.y + P.y*Q.x := by
  have := mul_finv g.pr (plus_ne g hP hQ)
  show (P.x*Q.y + P.y*Q.x) * finv (1 + kk d P Q) * (1 + kk d P Q) = _
  generalize finv (1 + kk d P Q) = u at *
  generalize 1 + kk d P Q = v at *
  have a : (P.x*Q.y + P.y*Q.x) * u * v = (P.x*Q.y + P.y*Q.x) * (v * u) := by grind only
  rw [a, this]
  grind only

theorem add_y (g : Good n d) {P Q : Pt n} (hP : On d P) (hQ : On d Q) : (add d P Q).y * (1 - kk d P Q) = P.y*Q.y + P.x*Q.x := by
  have := mul_finv g.pr (minus_ne g hP hQ)
  show (P.y*Q.y + P.x*Q.x) * finv (1 - kk d P Q) * (1 - kk d P Q) = _
  generalize finv (1 - kk d P Q) = u at *
  generalize 1 - kk d P Q = v at *
  have a : (P.y*Q.y + P.x*Q.x) * u * v = (P.y*Q.y + P.x*Q.x) * (v * u) := by grind only
  rw [a, this]
  grind only

theorem on_add (g : Good n d) {P Q : Pt n} (hP : On d P) (hQ : On d Q) : On d (add d P Q) := by
  have hx := add_x g hP hQ
  have hy := add_y g hP hQ
  have h1 := plus_ne g hP hQ
  have h2 := minus_ne g hP hQ
  have c := closed P.x P.y Q.x Q.y d hP hQ
  have k1 : (1 : Fin n) + d*P.x*Q.x*P.y*Q.y = 1 + kk d P Q := rfl
  have k2 : (1 : Fin n) - d*P.x*Q.x*P.y*Q.y = 1 - kk d P Q := rfl
  rw [k1, k2] at c
  show (add d P Q).y * (add d P Q).y - (add d P Q).x * (add d P Q).x = 1 + d * (add d P Q).x * (add d P Q).x * (add d P Q).y * (add d P Q).y
  rw [← hx, ← hy] at c
  generalize (add d P Q).x = x at *
  generalize (add d P Q).y = y at *
  generalize 1 + kk d P Q = u at *
  generalize 1 - kk d P Q = v at *
  apply cancel g.pr (mul_ne g.pr (mul_ne g.pr h1 h1) (mul_ne g.pr h2 h2))
  clear hP hQ hx hy
  grind only

theorem add_comm (P Q : Pt n) : add d P Q = add d Q P := by
  unfold add kk
  have a : d * P.x * Q.x * P.y * Q.y = d * Q.x * P.x * Q.y * P.y := by grind only
  have b : P.x*Q.y + P.y*Q.x = Q.x*P.y + Q.y*P.x := by grind only
  have c : P.y*Q.y + P.x*Q.x = Q.y*P.y + Q.x*P.x := by grind only
  rw [a, b, c]

theorem zero_add (g : Good n d) (P : Pt n) : add d zero P = P := by
  unfold add kk zero
  have a : d * 0 * P.x * 1 * P.y = 0 := by grind only
  have f1 : finv (1 + 0 : Fin n) = 1 := finv_of g.pr (by grind only)
  have f2 : finv (1 - 0 : Fin n) = 1 := finv_of g.pr (by grind only)
  show Pt.mk ((0 * P.y + 1 * P.x) * finv (1 + d * 0 * P.x * 1 * P.y)) ((1 * P.y + 0 * P.x) * finv (1 - d * 0 * P.x * 1 * P.y)) = P
  rw [a, f1, f2]
  have b : (0 * P.y + 1 * P.x) * 1 = P.x := by grind only
  have c : (1 * P.y + 0 * P.x) * 1 = P.y := by grind only
  rw [b, c]

theorem add_zero (g : Good n d) (P : Pt n) : add d P zero = P := by rw [add_comm, zero_add g]

theorem re_xl (sx sy rx ry px py tx ty a b e f d : Fin n) : (sx * a * b * ry + sy * b * a * rx) * (e * f + d * px * py * (tx * e) * (ty * f))
      = (a * b * e * f) * ((sx * ry + sy * rx) * (1 + d * px * tx * py * ty)) := by grind only
theorem re_xr (sx sy rx ry px py tx ty a b e f d : Fin n) : (px * (ty * f) * e + py * (tx * e) * f) * (a * b + d * (sx * a) * (sy * b) * rx * ry)
      = (a * b * e * f) * ((px * ty + py * tx) * (1 + d * sx * rx * sy * ry)) := by grind only
theorem re_yl (sx sy rx ry px py tx ty a b e f d : Fin n) : (sy * b * a * ry + sx * a * b * rx) * (e * f - d * px * py * (tx * e) * (ty * f))
      = (a * b * e * f) * ((sy * ry + sx * rx) * (1 - d * px * tx * py * ty)) := by grind only
theorem re_yr (sx sy rx ry px py tx ty a b e f d : Fin n) : (py * (ty * f) * e + px * (tx * e) * f) * (a * b - d * (sx * a) * (sy * b) * rx * ry)
      = (a * b * e * f) * ((py * ty + px * tx) * (1 - d * sx * rx * sy * ry)) := by grind only
theorem re_c (u z w v : Fin n) : u * (z * (w * v)) = z * (u * w * v) := by grind only
theorem re_d (t z w v : Fin n) : t * (z * (w * v)) = z * (t * v * w) := by grind only

set_option maxHeartbeats 4000000 in
theorem add_assoc (g : Good n d) {P Q R : Pt n} (hP : On d P) (hQ : On d Q) (hR : On d R) : add d (add d P Q) R = add d P (add d Q R) := by
  have hPQ := on_add g hP hQ
  have hQR := on_add g hQ hR
  have x1 := add_x g hP hQ
  have y1 := add_y g hP hQ
  have p1 := plus_ne g hP hQ
  have m1 := minus_ne g hP hQ
  have x2 := add_x g hQ hR
  have y2 := add_y g hQ hR
  have p2 := plus_ne g hQ hR
  have m2 := minus_ne g hQ hR
  have x3 := add_x g hPQ hR
  have y3 := add_y g hPQ hR
  have p3 := plus_ne g hPQ hR
  have m3 := minus_ne g hPQ hR
  have x4 := add_x g hP hQR
  have y4 := add_y g hP hQR
  have p4 := plus_ne g hP hQR
  have m4 := minus_ne g hP hQR
  have ax := assoc_x P.x P.y Q.x Q.y R.x R.y d hP hQ hR
  have ay := assoc_y P.x P.y Q.x Q.y R.x R.y d hP hQ hR
  clear hP hQ hR hPQ hQR
  have c1 : (1 : Fin n) + d*P.x*Q.x*P.y*Q.y = 1 + kk d P Q := rfl
  have c2 : (1 : Fin n) - d*P.x*Q.x*P.y*Q.y = 1 - kk d P Q := rfl
  have c3 : (1 : Fin n) + d*Q.x*R.x*Q.y*R.y = 1 + kk d Q R := rfl
  have c4 : (1 : Fin n) - d*Q.x*R.x*Q.y*R.y = 1 - kk d Q R := rfl
  rw [c1, c2, c3, c4, ← x1, ← y1, ← x2, ← y2] at ax ay
  have ex : (add d (add d P Q) R).x = (add d P (add d Q R)).x := by
    generalize add d (add d P Q) R = U at *
    generalize add d P (add d Q R) = V at *
    unfold kk at x3 p3 x4 p4
    generalize add d P Q = S at *
    generalize add d Q R = T at *
    generalize 1 + kk d P Q = a at *
    generalize 1 - kk d P Q = b at *
    generalize 1 + kk d Q R = e at *
    generalize 1 - kk d Q R = f at *
    -- ax: (S.x a b R.y + S.y b a R.x) (e f + d P.x P.y (T.x e)(T.y f)) = (P.x T.y f e + P.y T.x e f) (a b + d (S.x a)(S.y b) R.x R.y)
    rw [re_xl, re_xr, ← x3, ← x4] at ax
    have hne := mul_ne g.pr (mul_ne g.pr (mul_ne g.pr p1 m1) p2) m2
    apply cancel g.pr (mul_ne g.pr hne (mul_ne g.pr p3 p4))
    clear x1 y1 x2 y2 x3 y3 x4 y4 ay c1 c2 c3 c4 hne p1 p2 m1 m2 m3 m4
    generalize a * b * e * f = z at *
    generalize 1 + d * S.x * R.x * S.y * R.y = w at *
    generalize 1 + d * P.x * T.x * P.y * T.y = v at *
    generalize U.x = u at *
    generalize V.x = t at *
    clear g p3 p4
    rw [re_c, re_d, ax]
  have ey : (add d (add d P Q) R).y = (add d P (add d Q R)).y := by
    generalize add d (add d P Q) R = U at *
    generalize add d P (add d Q R) = V at *
    unfold kk at y3 m3 y4 m4
    generalize add d P Q = S at *
    generalize add d Q R = T at *
    generalize 1 + kk d P Q = a at *
    generalize 1 - kk d P Q = b at *
    generalize 1 + kk d Q R = e at *
    generalize 1 - kk d Q R = f at *
    rw [re_yl, re_yr, ← y3, ← y4] at ay
    have hne := mul_ne g.pr (mul_ne g.pr (mul_ne g.pr p1 m1) p2) m2
    apply cancel g.pr (mul_ne g.pr hne (mul_ne g.pr m3 m4))
    clear x1 y1 x2 y2 x3 y3 x4 y4 ax c1 c2 c3 c4 hne p1 p2 m1 m2 p3 p4
    generalize a * b * e * f = z at *
    generalize 1 - d * S.x * R.x * S.y * R.y = w at *
    generalize 1 - d * P.x * T.x * P.y * T.y = v at *
    generalize U.y = u at *
    generalize V.y = t at *
    clear g m3 m4
    rw [re_c, re_d, ay]
  have eta : ∀ A B : Pt n, A.x = B.x → A.y = B.y → A = B := by
    rintro ⟨_, _⟩ ⟨_, _⟩ h1 h2
    simp only at h1 h2
    rw [h1, h2]
  exact eta _ _ ex ey

end Ed
end Nums

namespace Nums
namespace Ed
variable {n : Nat} [NeZero n] {d : Fin n}

/-- So many of a point. -/
def mul (d : Fin n) : Nat → Pt n → Pt n
  | 0, _ => zero
  | k + 1, P => add d (mul d k P) P

theorem mul_0 (P : Pt n) : mul d 0 P = zero := rfl
theorem mul_succ (k : Nat) (P : Pt n) : mul d (k + 1) P = add d (mul d k P) P := rfl

theorem on_mul (g : Good n d) {P : Pt n} (hP : On d P) (k : Nat) : On d (mul d k P) := by
  induction k with
  | zero => exact on_zero
  | succ k ih => exact on_add g ih hP

theorem mul_1 (g : Good n d) (P : Pt n) : mul d 1 P = P := by rw [mul_succ, mul_0, zero_add g]

theorem mul_2 (g : Good n d) (P : Pt n) : mul d 2 P = add d P P := by rw [mul_succ, mul_1 g]

theorem mul_add (g : Good n d) {P : Pt n} (hP : On d P) (j k : Nat) : mul d (j + k) P = add d (mul d j P) (mul d k P) := by
  induction k with
  | zero => rw [Nat.add_zero, mul_0, add_zero g]
  | succ k ih => rw [← Nat.add_assoc, mul_succ, mul_succ, ih, add_assoc g (on_mul g hP j) (on_mul g hP k) hP]

theorem mul_zero (g : Good n d) (k : Nat) : mul d k (zero : Pt n) = zero := by
  induction k with
  | zero => rfl
  | succ k ih => rw [mul_succ, ih, zero_add g]

theorem mul_mul (g : Good n d) {P : Pt n} (hP : On d P) (j k : Nat) : mul d (j * k) P = mul d k (mul d j P) := by
  induction k with
  | zero => rw [Nat.mul_zero, mul_0, mul_0]
  | succ k ih => rw [Nat.mul_succ, mul_add g hP, ih, mul_succ]

theorem mul_mod (g : Good n d) {P : Pt n} (hP : On d P) {L : Nat} (hL : mul d L P = zero) (k : Nat) : mul d k P = mul d (k % L) P := by
  have h := mul_add g hP (L * (k / L)) (k % L)
  rw [mul_mul g hP, hL, mul_zero g, zero_add g, Nat.div_add_mod] at h
  exact h

/-- Coordinates over one z. -/
structure Rep (X Y Z : Fin n) (P : Pt n) : Prop where
  z : Z ≠ 0
  x : X = P.x * Z
  y : Y = P.y * Z

theorem Rep.zero (hn : Prime n) : Rep (0 : Fin n) 1 1 zero where
  z := fun h => ne_one hn h.symm
  x := by show (0 : Fin n) = 0 * 1; grind only
  y := by show (1 : Fin n) = 1 * 1; grind only

theorem kk_rep {X1 Y1 Z1 X2 Y2 Z2 : Fin n} {P Q : Pt n} (r : Rep X1 Y1 Z1 P) (s : Rep X2 Y2 Z2 Q) :
    d * ((X1 * X2) * (Y1 * Y2)) = kk d P Q * ((Z1 * Z2) * (Z1 * Z2)) := by
  rw [r.x, r.y, s.x, s.y]
  unfold kk
  grind only

/-- The sum over one z, by the formula that divides nothing. -/
theorem Rep.add (g : Good n d) {X1 Y1 Z1 X2 Y2 Z2 : Fin n} {P Q : Pt n} (hP : On d P) (hQ : On d Q) (r : Rep X1 Y1 Z1 P) (s : Rep X2 Y2 Z2 Q)
    {z m : Fin n} (hz : z = Z1 * Z2) (hm : m = d * ((X1 * X2) * (Y1 * Y2))) :
    Rep (((X1 * Y2 + Y1 * X2) * z) * (z * z - m)) (((Y1 * Y2 + X1 * X2) * z) * (z * z + m)) ((z * z + m) * (z * z - m)) (add d P Q) := by
  have hzn : z ≠ 0 := hz ▸ mul_ne g.pr r.z s.z
  have hm2 : m = kk d P Q * (z * z) := by rw [hm, hz, kk_rep r s]
  have p1 : z * z + m = (1 + kk d P Q) * (z * z) := by rw [hm2]; grind only
  have p2 : z * z - m = (1 - kk d P Q) * (z * z) := by rw [hm2]; grind only
  have nx : X1 * Y2 + Y1 * X2 = (P.x * Q.y + P.y * Q.x) * z := by rw [r.x, r.y, s.x, s.y, hz]; grind only
  have ny : Y1 * Y2 + X1 * X2 = (P.y * Q.y + P.x * Q.x) * z := by rw [r.x, r.y, s.x, s.y, hz]; grind only
  have hx := add_x g hP hQ
  have hy := add_y g hP hQ
  have n1 := plus_ne g hP hQ
  have n2 := minus_ne g hP hQ
  constructor
  · rw [p1, p2]
    exact mul_ne g.pr (mul_ne g.pr n1 (mul_ne g.pr hzn hzn)) (mul_ne g.pr n2 (mul_ne g.pr hzn hzn))
  · rw [p1, p2, nx, ← hx]
    grind only
  · rw [p1, p2, ny, ← hy]
    grind only

theorem Rep.same (hn : Prime n) {X Y Z : Fin n} {P Q : Pt n} (r : Rep X Y Z P) (s : Rep X Y Z Q) : P = Q := by
  have hx : P.x = Q.x := cancel hn r.z (r.x.symm.trans s.x)
  have hy : P.y = Q.y := cancel hn r.z (r.y.symm.trans s.y)
  cases P
  cases Q
  simp only at hx hy
  rw [hx, hy]

end Ed
end Nums

namespace Nums

instance : NeZero p := ⟨by decide⟩
/-- The numbers modulo p. -/
abbrev F := Fin p
/-- A number modulo p. -/
def fof (k : Nat) : F := ⟨k % p, Nat.mod_lt _ (by decide)⟩
theorem fof_val (k : Nat) : (fof k).val = k % p := rfl
theorem fof_add (a b : Nat) : fof (a + b) = fof a + fof b := by
  apply Fin.ext
  show (a + b) % p = (a % p + b % p) % p
  rw [← Nat.add_mod]
theorem fof_mul (a b : Nat) : fof (a * b) = fof a * fof b := by
  apply Fin.ext
  show (a * b) % p = (a % p * (b % p)) % p
  rw [← Nat.mul_mod]
theorem fof_mod (a : Nat) : fof (a % p) = fof a := by
  apply Fin.ext
  show a % p % p = a % p
  rw [Nat.mod_mod]
theorem fof_eq {a b : Nat} (h : a % p = b % p) : fof a = fof b := Fin.ext h
theorem fof_zero : fof 0 = 0 := by
  apply Fin.ext
  show 0 % p = 0 % p
  rfl
theorem fof_one : fof 1 = 1 := by
  apply Fin.ext
  show 1 % p = 1 % p
  rfl
theorem fof_sub {a b : Nat} (h : b ≤ a) : fof (a - b) = fof a - fof b := by
  have : fof a = fof (a - b) + fof b := by rw [← fof_add, Nat.sub_add_cancel h]
  rw [this]
  generalize fof (a - b) = u
  generalize fof b = v
  grind only
theorem fof_pow (a k : Nat) : fof (a ^ k) = fpow (fof a) k := by
  induction k with
  | zero => exact fof_one
  | succ k ih => rw [Nat.pow_succ, fof_mul, ih, fpow_succ]
theorem fof_pm {a e : Nat} (k : Nat) (h : e < 2 ^ k) : fpow (fof a) e = fof (pm p a k e) := by
  rw [pm_eq p a k e h, fof_mod, fof_pow]

/-- The numbers' names: (p - 1) / 2, (p - 1) / 4, (p + 3) / 8. -/
def ph : Nat := 28948022309329048855892746252171976963317496166410141009864396001978282409974
def pq : Nat := 14474011154664524427946373126085988481658748083205070504932198000989141204987
def pe : Nat := 7237005577332262213973186563042994240829374041602535252466099000494570602494
/-- A root of -1: 2 to (p - 1) / 4. -/
def im : F := fpow (fof 2) pq
theorem im_im : im * im = -1 := by
  unfold im
  rw [← fpow_add, show pq + pq = ph from by decide, fof_pm 255 (by decide)]
  have : fof (pm p 2 255 ph) = fof (p - 1) := fof_eq (by decide +kernel)
  rw [this, fof_sub (by decide), fof_one, show fof p = 0 from fof_eq (a := p) (b := 0) (by decide)]
  generalize (1 : F) = u
  grind only

theorem two_ne : (2 : F) ≠ 0 := by
  intro h
  have h1 : (2 : F).val = (0 : F).val := by rw [h]
  revert h1
  decide

/-- Euler: a square's half power is 1. -/
theorem euler_sq {a : F} (ha : a ≠ 0) : fpow (a * a) ph = 1 := by
  rw [mul_fpow, ← fpow_add, show ph + ph = p - 1 from by decide]
  exact fpow_fermat prime_p ha

theorem no_root {w : F} (h0 : w ≠ 0) (h : fpow w ph ≠ 1) (x : F) : x * x ≠ w := by
  rintro rfl
  apply h
  apply euler_sq
  rintro rfl
  exact h0 (by grind only)

/-- The curve's d. -/
def dn : Nat := 37095705934669439343138083508754565189542113879843219016388785533085940283555
def dd : F := fof dn
theorem dd_ne : dd ≠ 0 := fun h => by
  have := congrArg Fin.val h
  revert this
  decide

theorem dd_pow : fpow dd ph ≠ 1 := by
  unfold dd
  rw [fof_pm 255 (by decide)]
  intro h
  have := congrArg Fin.val h
  revert this
  rw [fof_val]
  decide +kernel

theorem good : Ed.Good p dd where
  pr := prime_p
  two := two_ne
  i := ⟨im, im_im⟩
  d := no_root dd_ne dd_pow

/-- The base point. -/
def bx : Nat := 15112221349535400772501151409588531511454012693041857206046113283949847762202
def bY : Nat := 46316835694926478169428394003475163141307993866256225615783033603165251855960
def base : Ed.Pt p := ⟨fof bx, fof bY⟩
theorem on_base : Ed.On dd base := by
  show fof bY * fof bY - fof bx * fof bx = 1 + dd * fof bx * fof bx * fof bY * fof bY
  unfold dd
  have h : fof (bY * bY) = fof (bx * bx + (1 + dn * bx * bx * bY * bY)) := fof_eq (by decide +kernel)
  rw [fof_mul, fof_add, fof_add, fof_mul, fof_mul, fof_mul, fof_mul, fof_mul, fof_one] at h
  rw [h]
  generalize fof bx = u
  generalize fof bY = v
  generalize fof dn = w
  grind only

end Nums
/-
PLAIN NUMBERS: the base point's order divides L. No program is imported.
PLAIN NUMBERS: rows of digits of 16 bits, carries, products digit by digit. No program is imported.
PLAIN NUMBERS: 16 digits of 16 bits as numbers modulo p: carries that come back 38 times, products, the packed row. No program is imported.
PLAIN NUMBERS: the packed row (below p), its bytes, the folded product. No program is imported.
-/
namespace Nums

/-- A number, reckoned before it is used. -/
def forced {α : Type} (x : Nat) (f : Nat → α) : α :=
  match x with
  | 0 => f 0
  | k + 1 => f (k + 1)
theorem forced_eq {α : Type} (x : Nat) (f : Nat → α) : forced x f = f x := by cases x <;> rfl

structure Tri where
  x : Nat
  y : Nat
  z : Nat

/-- The sum over one z, in plain numbers. -/
def triAdd (a b : Tri) : Tri :=
  forced (a.z * b.z % p) fun z => forced (z * z % p) fun zz => forced (dn * (a.x * b.x % p * (a.y * b.y % p) % p) % p) fun m =>
  forced ((zz + m) % p) fun pl => forced ((zz + p - m) % p) fun mi =>
  forced ((a.x * b.y + a.y * b.x) % p * z % p * mi % p) fun x => forced ((a.y * b.y + a.x * b.x) % p * z % p * pl % p) fun y =>
  forced (pl * mi % p) fun w => ⟨x, y, w⟩

/-- So many, by the bits from below: n bits of k, acc and the doubled point. -/
def triMul : Nat → Nat → Tri → Tri → Tri
  | 0, _, acc, _ => acc
  | n + 1, k, acc, q => triMul n (k / 2) (if k % 2 = 1 then triAdd acc q else acc) (triAdd q q)

def TriRep (t : Tri) (P : Ed.Pt p) : Prop := Ed.Rep (fof t.x) (fof t.y) (fof t.z) P

theorem triAdd_rep {a b : Tri} {P Q : Ed.Pt p} (hP : Ed.On dd P) (hQ : Ed.On dd Q) (ha : TriRep a P) (hb : TriRep b Q) : TriRep (triAdd a b) (Ed.add dd P Q) := by
  unfold triAdd
  simp only [forced_eq]
  have h := Ed.Rep.add good hP hQ ha hb rfl rfl
  unfold TriRep
  simp only
  generalize hz : a.z * b.z % p = z
  generalize hm : dn * (a.x * b.x % p * (a.y * b.y % p) % p) % p = m
  have ez : fof z = fof a.z * fof b.z := by rw [← hz, fof_mod, fof_mul]
  have em : fof m = dd * ((fof a.x * fof b.x) * (fof a.y * fof b.y)) := by
    rw [← hm]
    simp only [fof_mod, fof_mul]
    rfl
  have hmp : m < p := by rw [← hm]; exact Nat.mod_lt _ (by decide)
  have es : fof (z * z % p + p - m) = fof z * fof z - fof m := by
    rw [fof_sub (by omega), fof_add, fof_mod, fof_mul, show fof p = 0 from fof_eq (a := p) (b := 0) (by decide)]
    grind only
  rw [← ez, ← em] at h
  simp only [fof_mod, fof_mul, fof_add, es]
  exact h

theorem triMul_rep : ∀ (n k : Nat) (acc q : Tri) (A Q : Ed.Pt p), k < 2 ^ n → Ed.On dd A → Ed.On dd Q → TriRep acc A → TriRep q Q → TriRep (triMul n k acc q) (Ed.add dd A (Ed.mul dd k Q))
  | 0, k, acc, q, A, Q, hk, hA, hQ, ha, hq => by
    have : k = 0 := by simp at hk; omega
    subst this
    rw [Ed.mul_0, Ed.add_zero good]
    exact ha
  | n + 1, k, acc, q, A, Q, hk, hA, hQ, ha, hq => by
    have hk2 : k / 2 < 2 ^ n := by rw [Nat.pow_succ] at hk; omega
    have h2 := triAdd_rep hQ hQ hq hq
    have o2 := Ed.on_add good hQ hQ
    have e2 : Ed.mul dd (k / 2) (Ed.add dd Q Q) = Ed.mul dd (2 * (k / 2)) Q := by
      rw [Ed.mul_mul good hQ, Ed.mul_2 good]
    show TriRep (triMul n (k / 2) (if k % 2 = 1 then triAdd acc q else acc) (triAdd q q)) _
    by_cases h : k % 2 = 1
    · rw [if_pos h]
      have ih := triMul_rep n (k / 2) (triAdd acc q) (triAdd q q) (Ed.add dd A Q) (Ed.add dd Q Q) hk2 (Ed.on_add good hA hQ) o2 (triAdd_rep hA hQ ha hq) h2
      rw [e2, Ed.add_assoc good hA hQ (Ed.on_mul good hQ _), Ed.add_comm Q, ← Ed.mul_succ, show 2 * (k / 2) + 1 = k by omega] at ih
      exact ih
    · rw [if_neg h]
      have ih := triMul_rep n (k / 2) acc (triAdd q q) A (Ed.add dd Q Q) hk2 hA o2 ha h2
      rw [e2, show 2 * (k / 2) = k by omega] at ih
      exact ih

/-- The order L. -/
def LL : Nat := 7237005577332262213973186563042994240857116359379907606001950938285454250989

def ending : Bool :=
  let t := triMul 253 LL ⟨0, 1, 1⟩ ⟨bx, bY, 1⟩
  forced t.x fun x => forced t.y fun y => forced t.z fun z => Nat.beq (x % p) 0 && Nat.beq (y % p) (z % p)

theorem ending_true : ending = true := by decide +kernel

theorem order : Ed.mul dd LL base = Ed.zero := by
  have ha : TriRep ⟨0, 1, 1⟩ Ed.zero := by
    have := Ed.Rep.zero prime_p
    unfold TriRep
    rw [fof_zero, fof_one]
    exact this
  have hq : TriRep ⟨bx, bY, 1⟩ base := by
    refine ⟨?_, ?_, ?_⟩
    · show fof 1 ≠ 0
      rw [fof_one]
      exact fun h => ne_one prime_p h.symm
    · show fof bx = fof bx * fof 1
      rw [fof_one]
      grind only
    · show fof bY = fof bY * fof 1
      rw [fof_one]
      grind only
  have h := triMul_rep 253 LL _ _ Ed.zero base (by decide) Ed.on_zero on_base ha hq
  rw [Ed.zero_add good] at h
  have e := ending_true
  unfold ending at e
  simp only [forced_eq] at e
  generalize triMul 253 LL ⟨0, 1, 1⟩ ⟨bx, bY, 1⟩ = t at h e
  rw [Bool.and_eq_true] at e
  obtain ⟨e1, e2⟩ := e
  have e1 := Nat.eq_of_beq_eq_true e1
  have e2 := Nat.eq_of_beq_eq_true e2
  have x0 : fof t.x = 0 := Fin.ext e1
  have yz : fof t.y = fof t.z := Fin.ext e2
  have hz : Ed.Rep (fof t.x) (fof t.y) (fof t.z) Ed.zero := by
    refine ⟨h.z, ?_, ?_⟩
    · rw [x0]
      show (0 : F) = 0 * fof t.z
      grind only
    · rw [yz]
      show fof t.z = 1 * fof t.z
      grind only
  exact Ed.Rep.same prime_p h hz

end Nums

namespace Nums

/-- The number of a row of digits, the least first. -/
def V : List Int → Int
  | [] => 0
  | d :: ds => d + 65536 * V ds

/-- 65536 to a power. -/
def W : Nat → Int
  | 0 => 1
  | k + 1 => 65536 * W k

/-- Digits that are small. -/
def Small (l : List Int) : Prop := ∀ x ∈ l, 0 ≤ x ∧ x < 65536

/-- The carries run through a row: the digits made small, and what goes out above. -/
def chain : Int → List Int → List Int × Int
  | c, [] => ([], c)
  | c, d :: ds => (((d + c) % 65536) :: (chain ((d + c) / 65536) ds).1, (chain ((d + c) / 65536) ds).2)

end Nums

namespace Nums

/-- The digits behind the first are small; the first lies between. -/
def Loose (lo hi : Int) (l : List Int) : Prop := ∃ d ds, l = d :: ds ∧ ds.length = 15 ∧ Small ds ∧ lo ≤ d ∧ d ≤ hi

theorem Loose.len {lo hi : Int} {l : List Int} (h : Loose lo hi l) : l.length = 16 := by
  obtain ⟨d, ds, rfl, h1, _⟩ := h
  simp [h1]
theorem Loose.small {lo hi : Int} {l : List Int} (h : Loose lo hi l) (h0 : 0 ≤ lo) (h1 : hi < 65536) : Small l := by
  obtain ⟨d, ds, rfl, _, h2, h3, h4⟩ := h
  intro x hx
  rcases List.mem_cons.mp hx with rfl | hx
  · omega
  · exact h2 x hx
theorem Loose.mono {lo hi lo' hi' : Int} {l : List Int} (h : Loose lo hi l) (h0 : lo' ≤ lo) (h1 : hi ≤ hi') : Loose lo' hi' l := by
  obtain ⟨d, ds, e, h1, h2, h3, h4⟩ := h
  exact ⟨d, ds, e, h1, h2, by omega, by omega⟩

end Nums

namespace Nums

/-- The carries (here: what is lent) of all digits but the last. -/
def lent (l : List Int) : List Int := (chain 0 (l.take 15)).1 ++ [l[15]! + (chain 0 (l.take 15)).2]

/-- A row whose digits are bounded. -/
def Bnd (B : Int) (l : List Int) : Prop := ∀ x ∈ l, -B ≤ x ∧ x ≤ B

theorem Bnd.mono {B C : Int} {l : List Int} (h : Bnd B l) (hc : B ≤ C) : Bnd C l := fun x hx => by have := h x hx; omega
/-- Bytes, the least first. -/
def le : List UInt8 → Nat
  | [] => 0
  | b :: bs => b.toNat + 256 * le bs

/-- The bytes of digits, the digits of bytes. -/
def split : List Int → List UInt8
  | [] => []
  | d :: ds => UInt8.ofNat (d % 256).toNat :: UInt8.ofNat (d / 256).toNat :: split ds
theorem le_inj : ∀ {a b : List UInt8}, a.length = b.length → le a = le b → a = b
  | [], [], _, _ => rfl
  | x :: a, y :: b, hl, h => by
    have h1 := x.toNat_lt
    have h2 := y.toNat_lt
    have h3 : x.toNat + 256 * le a = y.toNat + 256 * le b := h
    have h4 : x = y := UInt8.toNat.inj (by omega)
    have h5 := le_inj (a := a) (b := b) (by simpa using hl) (by omega)
    rw [h4, h5]

/-- So many bytes of a number, the least first. -/
def bytes : Nat → Nat → List UInt8
  | 0, _ => []
  | k + 1, v => UInt8.ofNat v :: bytes k (v / 256)
theorem bytes_len : ∀ k v, (bytes k v).length = k
  | 0, _ => rfl
  | k + 1, v => by show (bytes k (v / 256)).length + 1 = k + 1; rw [bytes_len]
theorem le_bytes : ∀ k v, le (bytes k v) = v % 256 ^ k
  | 0, v => by show 0 = v % 1; omega
  | k + 1, v => by
    show (UInt8.ofNat v).toNat + 256 * le (bytes k (v / 256)) = v % 256 ^ (k + 1)
    rw [le_bytes, UInt8.toNat_ofNat', show 256 ^ (k + 1) = 256 * 256 ^ k by rw [Nat.pow_succ, Nat.mul_comm], Nat.mod_mul]

/-- The bytes of a number modulo p. -/
def enc (x : F) : List UInt8 := bytes 32 x.val
end Nums
/-
  PLAIN NUMBERS: the digests of FIPS 180-4 over words of w bits: turned words, the message's words, rounds, blocks, the message's end. No program is imported.
-/
namespace Nums

/-- A word turned to the right. -/
def rotw (w n x : Nat) : Nat := x / 2 ^ n + x % 2 ^ n * 2 ^ (w - n)
def chw (w e f g : Nat) : Nat := (e &&& f) ^^^ ((2 ^ w - 1 - e) &&& g)
def maw (a b c : Nat) : Nat := (a &&& b) ^^^ (a &&& c) ^^^ (b &&& c)

/-- Which digest: the words' bits, how many rounds, how words are turned, and the rounds' numbers. -/
structure Sha where
  w : Nat
  n : Nat
  big1 : Nat × Nat × Nat
  big0 : Nat × Nat × Nat
  low1 : Nat × Nat × Nat
  low0 : Nat × Nat × Nat
  k : Nat → Nat
  start : List Nat
def bigw (w : Nat) (t : Nat × Nat × Nat) (x : Nat) : Nat := rotw w t.1 x ^^^ rotw w t.2.1 x ^^^ rotw w t.2.2 x
def loww (w : Nat) (t : Nat × Nat × Nat) (x : Nat) : Nat := rotw w t.1 x ^^^ rotw w t.2.1 x ^^^ x / 2 ^ t.2.2

/-- The first 64 bits of the fractions of the first primes' square roots, and cube roots. -/
def sqs : List Nat := [7640891576956012808, 13503953896175478587, 4354685564936845355, 11912009170470909681, 5840696475078001361, 11170449401992604703, 2270897969802886507, 6620516959819538809]
def cbs : List Nat := [4794697086780616226, 8158064640168781261, 13096744586834688815, 16840607885511220156, 4131703408338449720, 6480981068601479193, 10538285296894168987, 12329834152419229976, 15566598209576043074, 1334009975649890238, 2608012711638119052, 6128411473006802146, 8268148722764581231, 9286055187155687089, 11230858885718282805, 13951009754708518548, 16472876342353939154, 17275323862435702243, 1135362057144423861, 2597628984639134821, 3308224258029322869, 5365058923640841347, 6679025012923562964, 8573033837759648693, 10970295158949994411, 12119686244451234320, 12683024718118986047, 13788192230050041572, 14330467153632333762, 15395433587784984357, 489312712824947311, 1452737877330783856, 2861767655752347644, 3322285676063803686, 5560940570517711597, 5996557281743188959, 7280758554555802590, 8532644243296465576, 9350256976987008742, 10552545826968843579, 11727347734174303076, 12113106623233404929, 14000437183269869457, 14369950271660146224, 15101387698204529176, 15463397548674623760, 17586052441742319658, 1182934255886127544, 1847814050463011016, 2177327727835720531, 2830643537854262169, 3796741975233480872, 4115178125766777443, 5681478168544905931, 6601373596472566643, 7507060721942968483, 8399075790359081724, 8693463985226723168, 9568029438360202098, 10144078919501101548, 10430055236837252648, 11840083180663258601, 13761210420658862357, 14299343276471374635, 14566680578165727644, 15097957966210449927, 16922976911328602910, 17689382322260857208, 500013540394364858, 748580250866718886, 1242879168328830382, 1977374033974150939, 2944078676154940804, 3659926193048069267, 4368137639120453308, 4836135668995329356, 5532061633213252278, 6448918945643986474, 6902733635092675308, 7801388544844847127]
def s256 : Sha where
  w := 32
  n := 64
  big1 := (6, 11, 25)
  big0 := (2, 13, 22)
  low1 := (17, 19, 10)
  low0 := (7, 18, 3)
  k := fun t => cbs[t]! / 4294967296
  start := sqs.map (· / 4294967296)

/-- Bytes f 0, f 1 .. as a number, the greatest first. -/
def ben (f : Nat → Nat) : Nat → Nat
  | 0 => 0
  | j + 1 => ben f j * 256 + f j
theorem ben_lt {f : Nat → Nat} (h : ∀ j, f j < 256) : ∀ j, ben f j < 256 ^ j
  | 0 => Nat.one_pos
  | j + 1 => by
    have h1 := ben_lt h j
    have h2 := h j
    show ben f j * 256 + f j < 256 ^ (j + 1)
    rw [Nat.pow_succ]
    omega
/-- A block's word. -/
def bword (s : Sha) (b : List UInt8) (t : Nat) : Nat := ben (fun k => (b[t * (s.w / 8) + k]!).toNat) (s.w / 8)
/-- The message's words. -/
def sx (s : Sha) (b : List UInt8) (t : Nat) : Nat :=
  if _h : t < 16 then bword s b t else (loww s.w s.low1 (sx s b (t - 2)) + sx s b (t - 7) + loww s.w s.low0 (sx s b (t - 15)) + sx s b (t - 16)) % 2 ^ s.w
termination_by t
decreasing_by all_goals omega

/-- Eight words, and a round. -/
structure Oct where
  a : Nat
  b : Nat
  c : Nat
  d : Nat
  e : Nat
  f : Nat
  g : Nat
  h : Nat
def Oct.list (o : Oct) : List Nat := [o.a, o.b, o.c, o.d, o.e, o.f, o.g, o.h]
def t1w (s : Sha) (k x : Nat) (o : Oct) : Nat := o.h + bigw s.w s.big1 o.e + chw s.w o.e o.f o.g + k + x
def t2w (s : Sha) (o : Oct) : Nat := bigw s.w s.big0 o.a + maw o.a o.b o.c
def rnd (s : Sha) (k x : Nat) (o : Oct) : Oct := ⟨(t1w s k x o + t2w s o) % 2 ^ s.w, o.a, o.b, o.c, (o.d + t1w s k x o) % 2 ^ s.w, o.e, o.f, o.g⟩
def rnds (s : Sha) (b : List UInt8) (o : Oct) : Nat → Oct
  | 0 => o
  | t + 1 => rnd s (s.k t) (sx s b t) (rnds s b o t)
def add8 (w : Nat) (o p : Oct) : Oct := ⟨(o.a + p.a) % 2 ^ w, (o.b + p.b) % 2 ^ w, (o.c + p.c) % 2 ^ w, (o.d + p.d) % 2 ^ w, (o.e + p.e) % 2 ^ w, (o.f + p.f) % 2 ^ w, (o.g + p.g) % 2 ^ w, (o.h + p.h) % 2 ^ w⟩
/-- The eight words turned by a block. -/
def turnw (s : Sha) (o : Oct) (b : List UInt8) : Oct := add8 s.w o (rnds s b o s.n)

/-! ### Bounds -/
theorem xor_lt {a b w : Nat} (ha : a < 2 ^ w) (hb : b < 2 ^ w) : a ^^^ b < 2 ^ w := Nat.xor_lt_two_pow ha hb
theorem and_lt {a b w : Nat} (ha : a < 2 ^ w) : a &&& b < 2 ^ w := Nat.lt_of_le_of_lt Nat.and_le_left ha
theorem rotw_lt {w n x : Nat} (hn : n ≤ w) (hx : x < 2 ^ w) : rotw w n x < 2 ^ w := by
  have e : (2 : Nat) ^ w = 2 ^ n * 2 ^ (w - n) := by rw [← Nat.pow_add, Nat.add_sub_cancel' hn]
  have h1 : x / 2 ^ n < 2 ^ (w - n) := Nat.div_lt_of_lt_mul (by rw [← e]; exact hx)
  have h2 : x % 2 ^ n + 1 ≤ 2 ^ n := Nat.mod_lt _ (Nat.two_pow_pos n)
  have h3 := Nat.mul_le_mul_right (2 ^ (w - n)) h2
  rw [← e, Nat.add_mul, Nat.one_mul] at h3
  unfold rotw
  omega
theorem bigw_lt {w x : Nat} {t : Nat × Nat × Nat} (h : t.1 ≤ w ∧ t.2.1 ≤ w ∧ t.2.2 ≤ w) (hx : x < 2 ^ w) : bigw w t x < 2 ^ w :=
  xor_lt (xor_lt (rotw_lt h.1 hx) (rotw_lt h.2.1 hx)) (rotw_lt h.2.2 hx)
theorem chw_lt {w e f g : Nat} (he : e < 2 ^ w) : chw w e f g < 2 ^ w := xor_lt (and_lt he) (and_lt (by have := Nat.two_pow_pos w; omega))
theorem maw_lt {w a b c : Nat} (ha : a < 2 ^ w) (hb : b < 2 ^ w) : maw a b c < 2 ^ w := xor_lt (xor_lt (and_lt ha) (and_lt ha)) (and_lt hb)
theorem sx_lt (s : Sha) (b : List UInt8) (hw : s.w / 8 * 8 = s.w) (t : Nat) : sx s b t < 2 ^ s.w := by
  rw [sx]
  split
  · have h := ben_lt (f := fun k => (b[t * (s.w / 8) + k]!).toNat) (fun j => UInt8.toNat_lt _) (s.w / 8)
    rw [show (256 : Nat) = 2 ^ 8 from rfl, ← Nat.pow_mul, Nat.mul_comm 8, hw] at h
    exact h
  · exact Nat.mod_lt _ (Nat.two_pow_pos _)
/-- All eight are words. -/
structure OB (w : Nat) (o : Oct) : Prop where
  a : o.a < 2 ^ w
  b : o.b < 2 ^ w
  c : o.c < 2 ^ w
  d : o.d < 2 ^ w
  e : o.e < 2 ^ w
  f : o.f < 2 ^ w
  g : o.g < 2 ^ w
  h : o.h < 2 ^ w
theorem OB.rnd {s : Sha} {o : Oct} (h : OB s.w o) (k x : Nat) : OB s.w (rnd s k x o) :=
  ⟨Nat.mod_lt _ (Nat.two_pow_pos _), h.a, h.b, h.c, Nat.mod_lt _ (Nat.two_pow_pos _), h.e, h.f, h.g⟩
theorem OB.rnds {s : Sha} {b : List UInt8} {o : Oct} (h : OB s.w o) : ∀ t, OB s.w (rnds s b o t)
  | 0 => h
  | t + 1 => (OB.rnds h t).rnd _ _
theorem OB.add8 (w : Nat) (o p : Oct) : OB w (add8 w o p) := by
  constructor <;> exact Nat.mod_lt _ (Nat.two_pow_pos _)
theorem OB.turnw (s : Sha) (o : Oct) (b : List UInt8) : OB s.w (turnw s o b) := OB.add8 _ _ _

/-! ### The other spellings -/
/-! ### The whole message -/
/-- Block behind block. -/
def runw (s : Sha) (B : Nat) (o : Oct) (l : List UInt8) : Oct :=
  if _h : B = 0 ∨ l.length < B then o else runw s B (turnw s o (l.take B)) (l.drop B)
termination_by l.length
decreasing_by
  rw [List.length_drop]
  omega
theorem runw_short {s : Sha} {B : Nat} {o : Oct} {l : List UInt8} (h : l.length < B) : runw s B o l = o := by
  rw [runw, dif_pos (.inr h)]
theorem runw_block {s : Sha} {B : Nat} {o : Oct} {b l : List UInt8} (hB : 0 < B) (h : b.length = B) : runw s B o (b ++ l) = runw s B (turnw s o b) l := by
  rw [runw, dif_neg (by rw [List.length_append]; omega), ← h, List.take_left, List.drop_left]
/-- Whole blocks, then the rest. -/
theorem runw_append {s : Sha} {B : Nat} (hB : 0 < B) : ∀ (n : Nat) {o : Oct} {a l : List UInt8}, a.length = n * B → runw s B o (a ++ l) = runw s B (runw s B o a) l
  | 0, o, a, l, h => by
    have h0 : a = [] := List.eq_nil_of_length_eq_zero (by omega)
    subst h0
    rw [List.nil_append, runw_short (l := []) (by simpa using hB)]
  | n + 1, o, a, l, h => by
    have hl : (a.take B).length = B := by rw [List.length_take, h, Nat.add_mul]; omega
    have hd : (a.drop B).length = n * B := by rw [List.length_drop, h, Nat.add_mul]; omega
    have e : a = a.take B ++ a.drop B := (List.take_append_drop B a).symm
    rw [e, List.append_assoc, runw_block hB hl, runw_block hB hl, runw_append hB n hd]
/-- Eight bytes of a number, the greatest first. -/
def be64 (v : Nat) : List UInt8 := (bytes 8 v).reverse
/-- What stands behind the message: r bytes of its last block are there, it has v bits. -/
def tailw (B r v : Nat) : List UInt8 := 128 :: (List.replicate ((if r + 1 ≤ B - B / 8 then B else 2 * B) - 9 - r) 0 ++ be64 v)
/-- The digest's words. -/
def sumw (s : Sha) (m : List UInt8) : Oct := runw s (2 * s.w) (⟨s.start[0]!, s.start[1]!, s.start[2]!, s.start[3]!, s.start[4]!, s.start[5]!, s.start[6]!, s.start[7]!⟩) (m ++ tailw (2 * s.w) (m.length % (2 * s.w)) (8 * m.length))
/-- A word's bytes, the greatest first. -/
def layw (s : Sha) (x : Nat) : List UInt8 := (bytes (s.w / 8) x).reverse
def digest (s : Sha) (m : List UInt8) : List UInt8 := ((sumw s m).list.map (layw s)).flatten
end Nums
/-
  PLAIN NUMBERS: pairs of keys and values in their order, keys' bits, the root of pairs. No program is imported.
-/
namespace Nums

/-- A key's bit. -/
def bitT (k : List UInt8) (n : Nat) : Nat := (k[n / 8]!).toNat / 2 ^ (7 - n % 8) % 2
/-- Byte by byte. -/
def lessT : List UInt8 → List UInt8 → Bool
  | a :: az, b :: bs => if a = b then lessT az bs else decide (a.toNat < b.toNat)
  | _, _ => false
abbrev PairT := List UInt8 × List UInt8
def putT : List PairT → PairT → List PairT
  | [], p => [p]
  | q :: r, p => if lessT q.1 p.1 then q :: putT r p else if q.1 = p.1 then p :: r else p :: q :: r
def getT (l : List PairT) (k : List UInt8) : Option (List UInt8) := (l.find? fun q => q.1 == k).map (·.2)
def z32T : List UInt8 := List.replicate 32 0
def leafT (p : PairT) : List UInt8 := digest s256 (0 :: (p.1 ++ p.2))
def nodeT (a b : List UInt8) : List UInt8 := digest s256 (1 :: (a ++ b))
/-- The root of pairs whose keys have r bits left. -/
def rootT : Nat → List PairT → List UInt8
  | _, [] => z32T
  | _, [p] => leafT p
  | 0, _ :: _ :: _ => z32T
  | r + 1, p :: q :: l => nodeT (rootT r ((p :: q :: l).filter fun x => bitT x.1 (255 - r) == 0)) (rootT r ((p :: q :: l).filter fun x => bitT x.1 (255 - r) != 0))

/-! ### The order -/
theorem lessT_irrefl : ∀ a : List UInt8, lessT a a = false
  | [] => rfl
  | a :: az => by unfold lessT; rw [if_pos rfl]; exact lessT_irrefl az
theorem lessT_trans : ∀ {a b c : List UInt8}, lessT a b = true → lessT b c = true → lessT a c = true
  | [], _, _, h, _ => by cases ‹List UInt8› <;> cases h
  | _ :: _, [], _, h, _ => by cases h
  | _ :: _, _ :: _, [], _, h => by cases h
  | a :: az, b :: bs, c :: cs, h, k => by
    unfold lessT at h k ⊢
    by_cases e1 : a = b
    · subst e1
      rw [if_pos rfl] at h
      by_cases e2 : a = c
      · rw [if_pos e2] at k ⊢
        exact lessT_trans h k
      · rw [if_neg e2] at k ⊢
        exact k
    · rw [if_neg e1] at h
      have h := of_decide_eq_true h
      by_cases e2 : b = c
      · subst e2
        rw [if_neg e1]
        exact decide_eq_true h
      · rw [if_neg e2] at k
        have k := of_decide_eq_true k
        have e3 : a ≠ c := fun e => by subst e; omega
        rw [if_neg e3]
        exact decide_eq_true (by omega)
theorem lessT_total : ∀ {a b : List UInt8}, a.length = b.length → lessT a b = false → a ≠ b → lessT b a = true
  | [], [], _, _, h => absurd rfl h
  | [], _ :: _, h, _, _ => by cases h
  | _ :: _, [], h, _, _ => by cases h
  | a :: az, b :: bs, hl, h, hn => by
    unfold lessT at h ⊢
    by_cases e : a = b
    · subst e
      rw [if_pos rfl] at h ⊢
      exact lessT_total (by simpa using hl) h fun e => hn (by rw [e])
    · rw [if_neg e] at h
      rw [if_neg fun x => e x.symm]
      have h := of_decide_eq_false h
      have : a.toNat ≠ b.toNat := fun x => e (UInt8.toNat_inj.1 x)
      exact decide_eq_true (by omega)
theorem lessT_asymm {a b : List UInt8} (h : lessT a b = true) : lessT b a = false := by
  cases hb : lessT b a with
  | false => rfl
  | true => have := lessT_trans h hb; rw [lessT_irrefl] at this; cases this

/-! ### Pairs in their order -/
def SortT (l : List PairT) : Prop := l.Pairwise fun p q => lessT p.1 q.1 = true
/-- Keys are whole. -/
def KeysT (l : List PairT) : Prop := ∀ p ∈ l, p.1.length = 32
theorem SortT.cons {p : PairT} {l : List PairT} : SortT (p :: l) ↔ (∀ q ∈ l, lessT p.1 q.1 = true) ∧ SortT l := List.pairwise_cons
theorem SortT.filter {l : List PairT} (h : SortT l) (f : PairT → Bool) : SortT (l.filter f) := List.Pairwise.filter f h
theorem KeysT.filter {l : List PairT} (h : KeysT l) (f : PairT → Bool) : KeysT (l.filter f) := fun p hp => h p (List.mem_filter.1 hp).1
/-- The order tells the list. -/
theorem SortT.ext : ∀ {l m : List PairT}, SortT l → SortT m → (∀ p, p ∈ l ↔ p ∈ m) → l = m
  | [], [], _, _, _ => rfl
  | [], q :: m, _, _, h => absurd ((h q).2 List.mem_cons_self) (by simp)
  | p :: l, [], _, _, h => absurd ((h p).1 List.mem_cons_self) (by simp)
  | p :: l, q :: m, hl, hm, h => by
    obtain ⟨h1, h2⟩ := SortT.cons.1 hl
    obtain ⟨k1, k2⟩ := SortT.cons.1 hm
    have e : p = q := by
      rcases List.mem_cons.1 ((h p).1 List.mem_cons_self) with e | hp
      · exact e
      · rcases List.mem_cons.1 ((h q).2 List.mem_cons_self) with e | hq
        · exact e.symm
        · have a := h1 q hq
          rw [lessT_asymm (k1 p hp)] at a
          cases a
    subst e
    refine congrArg (p :: ·) (SortT.ext h2 k2 fun x => ⟨fun hx => ?_, fun hx => ?_⟩)
    · rcases List.mem_cons.1 ((h x).1 (List.mem_cons_of_mem _ hx)) with e | hx2
      · subst e
        have a := h1 x hx
        rw [lessT_irrefl] at a
        cases a
      · exact hx2
    · rcases List.mem_cons.1 ((h x).2 (List.mem_cons_of_mem _ hx)) with e | hx2
      · subst e
        have a := k1 x hx
        rw [lessT_irrefl] at a
        cases a
      · exact hx2
/-- One key, one pair. -/
theorem SortT.key {l : List PairT} (h : SortT l) {p q : PairT} (hp : p ∈ l) (hq : q ∈ l) (e : p.1 = q.1) : p = q := by
  induction l with
  | nil => cases hp
  | cons x l ih =>
    obtain ⟨h1, h2⟩ := SortT.cons.1 h
    rcases List.mem_cons.1 hp with e1 | hp2 <;> rcases List.mem_cons.1 hq with e2 | hq2
    · rw [e1, e2]
    · have := h1 q hq2
      rw [← e1, ← e, lessT_irrefl] at this
      cases this
    · have := h1 p hp2
      rw [← e2, e, lessT_irrefl] at this
      cases this
    · exact ih h2 hp2 hq2
theorem putT_mem : ∀ {l : List PairT} {p : PairT}, SortT l → KeysT l → p.1.length = 32 → ∀ x, x ∈ putT l p ↔ x = p ∨ (x ∈ l ∧ x.1 ≠ p.1)
  | [], p, _, _, _, x => by simp [putT]
  | q :: l, p, hs, hk, hp, x => by
    obtain ⟨h1, h2⟩ := SortT.cons.1 hs
    have hq : q.1.length = 32 := hk q List.mem_cons_self
    have hkl : KeysT l := fun y hy => hk y (List.mem_cons_of_mem _ hy)
    unfold putT
    by_cases h : lessT q.1 p.1 = true
    · rw [if_pos h, List.mem_cons, putT_mem h2 hkl hp x, List.mem_cons]
      have hne : q.1 ≠ p.1 := fun e => by rw [e, lessT_irrefl] at h; cases h
      constructor
      · rintro (rfl | rfl | ⟨a, b⟩)
        · exact .inr ⟨.inl rfl, hne⟩
        · exact .inl rfl
        · exact .inr ⟨.inr a, b⟩
      · rintro (rfl | ⟨rfl | a, b⟩)
        · exact .inr (.inl rfl)
        · exact .inl rfl
        · exact .inr (.inr ⟨a, b⟩)
    · rw [if_neg h]
      by_cases e : q.1 = p.1
      · rw [if_pos e, List.mem_cons, List.mem_cons]
        constructor
        · rintro (rfl | a)
          · exact .inl rfl
          · exact .inr ⟨.inr a, fun e2 => by have := h1 x a; rw [e, e2, lessT_irrefl] at this; cases this⟩
        · rintro (rfl | ⟨rfl | a, b⟩)
          · exact .inl rfl
          · exact absurd e b
          · exact .inr a
      · rw [if_neg e, List.mem_cons, List.mem_cons]
        have hgt := lessT_total (by rw [hq, hp]) (by simpa using h) e
        constructor
        · rintro (rfl | rfl | a)
          · exact .inl rfl
          · exact .inr ⟨.inl rfl, e⟩
          · exact .inr ⟨.inr a, fun e2 => by have := lessT_trans hgt (h1 x a); rw [e2, lessT_irrefl] at this; cases this⟩
        · rintro (rfl | ⟨rfl | a, b⟩)
          · exact .inl rfl
          · exact .inr (.inl rfl)
          · exact .inr (.inr a)
theorem putT_sort : ∀ {l : List PairT} {p : PairT}, SortT l → KeysT l → p.1.length = 32 → SortT (putT l p)
  | [], p, _, _, _ => by simp [putT, SortT]
  | q :: l, p, hs, hk, hp => by
    obtain ⟨h1, h2⟩ := SortT.cons.1 hs
    have hq : q.1.length = 32 := hk q List.mem_cons_self
    have hkl : KeysT l := fun y hy => hk y (List.mem_cons_of_mem _ hy)
    unfold putT
    by_cases h : lessT q.1 p.1 = true
    · rw [if_pos h]
      refine SortT.cons.2 ⟨fun x hx => ?_, putT_sort h2 hkl hp⟩
      rcases (putT_mem h2 hkl hp x).1 hx with rfl | hx
      · exact h
      · exact h1 x hx.1
    · rw [if_neg h]
      by_cases e : q.1 = p.1
      · rw [if_pos e]
        exact SortT.cons.2 ⟨fun x hx => by rw [← e]; exact h1 x hx, h2⟩
      · rw [if_neg e]
        have hgt := lessT_total (by rw [hq, hp]) (by simpa using h) e
        refine SortT.cons.2 ⟨fun x hx => ?_, hs⟩
        rcases List.mem_cons.1 hx with rfl | hx
        · exact hgt
        · exact lessT_trans hgt (h1 x hx)
theorem getT_some {l : List PairT} {k v : List UInt8} (hs : SortT l) : getT l k = some v ↔ (k, v) ∈ l := by
  unfold getT
  constructor
  · intro h
    cases hf : l.find? (fun q => q.1 == k) with
    | none => rw [hf] at h; cases h
    | some q =>
      rw [hf] at h
      simp only [Option.map_some, Option.some.injEq] at h
      have h1 := List.find?_some hf
      have h2 := List.mem_of_find?_eq_some hf
      have e : q.1 = k := by simpa using h1
      subst e
      subst h
      exact h2
  · intro h
    cases hf : l.find? (fun q => q.1 == k) with
    | none =>
      have := List.find?_eq_none.1 hf (k, v) h
      simp at this
    | some q =>
      have h1 := List.find?_some hf
      have h2 := List.mem_of_find?_eq_some hf
      have e : q.1 = k := by simpa using h1
      have := hs.key h2 h e
      subst this
      rfl
theorem getT_none {l : List PairT} {k : List UInt8} : getT l k = none ↔ ∀ q ∈ l, q.1 ≠ k := by
  unfold getT
  rw [Option.map_eq_none_iff, List.find?_eq_none]
  simp

/-! ### Bits -/
theorem bitT_lt (k : List UInt8) (n : Nat) : bitT k n < 2 := Nat.mod_lt _ (by decide)
/-- Bytes whose bits are one and the same are so. -/
theorem byte_bits (a b : Nat) (ha : a < 256) (hb : b < 256) (h : ∀ j, j < 8 → a / 2 ^ (7 - j) % 2 = b / 2 ^ (7 - j) % 2) : a = b := by
  have h0 := h 0 (by decide)
  have h1 := h 1 (by decide)
  have h2 := h 2 (by decide)
  have h3 := h 3 (by decide)
  have h4 := h 4 (by decide)
  have h5 := h 5 (by decide)
  have h6 := h 6 (by decide)
  have h7 := h 7 (by decide)
  simp only [Nat.reduceSub, Nat.reducePow] at h0 h1 h2 h3 h4 h5 h6 h7
  omega
/-- The first bit that isn't the same tells which byte is less. -/
theorem byte_less (a b j : Nat) (ha : a < 256) (hb : b < 256) (hj : j < 8) (h : ∀ i, i < j → a / 2 ^ (7 - i) % 2 = b / 2 ^ (7 - i) % 2) (h0 : a / 2 ^ (7 - j) % 2 = 0) (h1 : b / 2 ^ (7 - j) % 2 ≠ 0) : a < b := by
  have hj8 : j = 0 ∨ j = 1 ∨ j = 2 ∨ j = 3 ∨ j = 4 ∨ j = 5 ∨ j = 6 ∨ j = 7 := by omega
  rcases hj8 with rfl | rfl | rfl | rfl | rfl | rfl | rfl | rfl
  · simp only [Nat.reduceSub, Nat.reducePow] at h0 h1; omega
  · have e0 := h 0 (by decide); simp only [Nat.reduceSub, Nat.reducePow] at h0 h1 e0; omega
  · have e0 := h 0 (by decide); have e1 := h 1 (by decide); simp only [Nat.reduceSub, Nat.reducePow] at h0 h1 e0 e1; omega
  · have e0 := h 0 (by decide); have e1 := h 1 (by decide); have e2 := h 2 (by decide); simp only [Nat.reduceSub, Nat.reducePow] at h0 h1 e0 e1 e2; omega
  · have e0 := h 0 (by decide); have e1 := h 1 (by decide); have e2 := h 2 (by decide); have e3 := h 3 (by decide); simp only [Nat.reduceSub, Nat.reducePow] at h0 h1 e0 e1 e2 e3; omega
  · have e0 := h 0 (by decide); have e1 := h 1 (by decide); have e2 := h 2 (by decide); have e3 := h 3 (by decide); have e4 := h 4 (by decide); simp only [Nat.reduceSub, Nat.reducePow] at h0 h1 e0 e1 e2 e3 e4; omega
  · have e0 := h 0 (by decide); have e1 := h 1 (by decide); have e2 := h 2 (by decide); have e3 := h 3 (by decide); have e4 := h 4 (by decide); have e5 := h 5 (by decide); simp only [Nat.reduceSub, Nat.reducePow] at h0 h1 e0 e1 e2 e3 e4 e5; omega
  · have e0 := h 0 (by decide); have e1 := h 1 (by decide); have e2 := h 2 (by decide); have e3 := h 3 (by decide); have e4 := h 4 (by decide); have e5 := h 5 (by decide); have e6 := h 6 (by decide); simp only [Nat.reduceSub, Nat.reducePow] at h0 h1 e0 e1 e2 e3 e4 e5 e6; omega
theorem bitT_byte (k : List UInt8) (i j : Nat) (hj : j < 8) : bitT k (8 * i + j) = (k[i]!).toNat / 2 ^ (7 - j) % 2 := by
  unfold bitT
  rw [show (8 * i + j) / 8 = i by omega, show (8 * i + j) % 8 = j by omega]
/-- The first d bits are the same. -/
def ShareT (d : Nat) (a b : List UInt8) : Prop := ∀ n, n < d → bitT a n = bitT b n
theorem ShareT.all {a b : List UInt8} (ha : a.length = 32) (hb : b.length = 32) (h : ShareT 256 a b) : a = b := by
  apply List.ext_getElem (by rw [ha, hb])
  intro i h1 h2
  have e := byte_bits (a[i]!).toNat (b[i]!).toNat (UInt8.toNat_lt _) (UInt8.toNat_lt _) fun j hj => by
    rw [← bitT_byte a i j hj, ← bitT_byte b i j hj]
    exact h _ (by omega)
  have e := UInt8.toNat_inj.1 e
  rw [getElem!_pos a i h1, getElem!_pos b i h2] at e
  exact e
theorem lessT_at : ∀ (i : Nat) {a b : List UInt8}, i < a.length → i < b.length → (∀ j, j < i → a[j]! = b[j]!) → (a[i]!).toNat < (b[i]!).toNat → lessT a b = true
  | _, [], _, h, _, _, _ => by cases h
  | _, _ :: _, [], _, h, _, _ => by cases h
  | 0, a :: az, b :: bs, _, _, _, h => by
    have h : a.toNat < b.toNat := h
    unfold lessT
    rw [if_neg fun e => by subst e; omega]
    exact decide_eq_true h
  | i + 1, a :: az, b :: bs, ha, hb, he, h => by
    have e0 : a = b := he 0 (by omega)
    unfold lessT
    rw [if_pos e0]
    exact lessT_at i (by simpa using ha) (by simpa using hb) (fun j hj => he (j + 1) (by omega)) h
/-- Who has the first other bit 0 comes first. -/
theorem ShareT.less {d : Nat} {a b : List UInt8} (hd : d < 256) (ha : a.length = 32) (hb : b.length = 32) (h : ShareT d a b) (h0 : bitT a d = 0) (h1 : bitT b d ≠ 0) : lessT a b = true := by
  refine lessT_at (d / 8) (by omega) (by omega) (fun i hi => ?_) ?_
  · refine UInt8.toNat_inj.1 (byte_bits _ _ (UInt8.toNat_lt _) (UInt8.toNat_lt _) fun j hj => ?_)
    rw [← bitT_byte a i j hj, ← bitT_byte b i j hj]
    exact h _ (by omega)
  · refine byte_less _ _ (d % 8) (UInt8.toNat_lt _) (UInt8.toNat_lt _) (by omega) (fun j hj => ?_) h0 h1
    rw [← bitT_byte a (d / 8) j (by omega), ← bitT_byte b (d / 8) j (by omega)]
    exact h _ (by omega)
/-- Keys that share their first d bits. -/
def SharesT (d : Nat) (l : List PairT) : Prop := ∀ p ∈ l, ∀ q ∈ l, ShareT d p.1 q.1
def leftT (d : Nat) (l : List PairT) : List PairT := l.filter fun x => bitT x.1 d == 0
def rightT (d : Nat) (l : List PairT) : List PairT := l.filter fun x => bitT x.1 d != 0
theorem leftT_mem {d : Nat} {l : List PairT} {x : PairT} : x ∈ leftT d l ↔ x ∈ l ∧ bitT x.1 d = 0 := by simp [leftT]
theorem rightT_mem {d : Nat} {l : List PairT} {x : PairT} : x ∈ rightT d l ↔ x ∈ l ∧ bitT x.1 d ≠ 0 := by simp [rightT]
theorem SharesT.left {d : Nat} {l : List PairT} (h : SharesT d l) : SharesT (d + 1) (leftT d l) := fun p hp q hq n hn => by
  obtain ⟨hp, bp⟩ := leftT_mem.1 hp
  obtain ⟨hq, bq⟩ := leftT_mem.1 hq
  by_cases e : n = d
  · subst e; rw [bp, bq]
  · exact h p hp q hq n (by omega)
theorem SharesT.right {d : Nat} {l : List PairT} (h : SharesT d l) : SharesT (d + 1) (rightT d l) := fun p hp q hq n hn => by
  obtain ⟨hp, bp⟩ := rightT_mem.1 hp
  obtain ⟨hq, bq⟩ := rightT_mem.1 hq
  by_cases e : n = d
  · subst e
    have := bitT_lt p.1 n
    have := bitT_lt q.1 n
    omega
  · exact h p hp q hq n (by omega)
/-- Both sides, one behind the other. -/
theorem sides_app {d : Nat} {l : List PairT} (hd : d < 256) (hs : SortT l) (hk : KeysT l) (h : SharesT d l) : leftT d l ++ rightT d l = l := by
  refine SortT.ext (List.pairwise_append.2 ⟨hs.filter _, hs.filter _, fun p hp q hq => ?_⟩) hs fun x => ?_
  · obtain ⟨hp, bp⟩ := leftT_mem.1 hp
    obtain ⟨hq, bq⟩ := rightT_mem.1 hq
    exact (h p hp q hq).less hd (hk p hp) (hk q hq) bp bq
  · rw [List.mem_append, leftT_mem, rightT_mem]
    constructor
    · rintro (h | h) <;> exact h.1
    · intro hx
      by_cases e : bitT x.1 d = 0
      · exact .inl ⟨hx, e⟩
      · exact .inr ⟨hx, e⟩
/-- At the end one pair is left. -/
theorem SharesT.one {l : List PairT} (hs : SortT l) (hk : KeysT l) (h : SharesT 256 l) : l.length ≤ 1 := by
  match l, hs, hk, h with
  | [], _, _, _ => decide
  | [_], _, _, _ => exact Nat.le_refl _
  | p :: q :: l, hs, hk, h =>
    have e := (h p (by simp) q (by simp)).all (hk p (by simp)) (hk q (by simp))
    have := (SortT.cons.1 hs).1 q (by simp)
    rw [e, lessT_irrefl] at this
    cases this
/-- A pair is put into its side. -/
theorem putT_left {d : Nat} {l : List PairT} {p : PairT} (hs : SortT l) (hk : KeysT l) (hp : p.1.length = 32) : leftT d (putT l p) = if bitT p.1 d = 0 then putT (leftT d l) p else leftT d l := by
  refine SortT.ext ((putT_sort hs hk hp).filter _) (by split; exact putT_sort (hs.filter _) (hk.filter _) hp; exact hs.filter _) fun x => ?_
  rw [leftT_mem, putT_mem hs hk hp]
  split
  · rename_i e
    rw [putT_mem (l := leftT d l) (hs.filter _) (hk.filter _) hp, leftT_mem]
    constructor
    · rintro ⟨rfl | ⟨a, b⟩, c⟩
      · exact .inl rfl
      · exact .inr ⟨⟨a, c⟩, b⟩
    · rintro (rfl | ⟨⟨a, c⟩, b⟩)
      · exact ⟨.inl rfl, e⟩
      · exact ⟨.inr ⟨a, b⟩, c⟩
  · rename_i e
    rw [leftT_mem]
    constructor
    · rintro ⟨rfl | ⟨a, b⟩, c⟩
      · exact absurd c e
      · exact ⟨a, c⟩
    · rintro ⟨a, c⟩
      exact ⟨.inr ⟨a, fun e2 => e (by rw [← e2]; exact c)⟩, c⟩
theorem putT_right {d : Nat} {l : List PairT} {p : PairT} (hs : SortT l) (hk : KeysT l) (hp : p.1.length = 32) : rightT d (putT l p) = if bitT p.1 d = 0 then rightT d l else putT (rightT d l) p := by
  refine SortT.ext ((putT_sort hs hk hp).filter _) (by split; exact hs.filter _; exact putT_sort (hs.filter _) (hk.filter _) hp) fun x => ?_
  rw [rightT_mem, putT_mem hs hk hp]
  split
  · rename_i e
    rw [rightT_mem]
    constructor
    · rintro ⟨rfl | ⟨a, b⟩, c⟩
      · exact absurd e c
      · exact ⟨a, c⟩
    · rintro ⟨a, c⟩
      exact ⟨.inr ⟨a, fun e2 => c (by rw [e2]; exact e)⟩, c⟩
  · rename_i e
    rw [putT_mem (l := rightT d l) (hs.filter _) (hk.filter _) hp, rightT_mem]
    constructor
    · rintro ⟨rfl | ⟨a, b⟩, c⟩
      · exact .inl rfl
      · exact .inr ⟨⟨a, c⟩, b⟩
    · rintro (rfl | ⟨⟨a, c⟩, b⟩)
      · exact ⟨.inl rfl, e⟩
      · exact ⟨.inr ⟨a, b⟩, c⟩
/-- The root of more than one pair. -/
theorem rootT_node {r : Nat} {l : List PairT} (h : 2 ≤ l.length) : rootT (r + 1) l = nodeT (rootT r (leftT (255 - r) l)) (rootT r (rightT (255 - r) l)) := by
  match l, h with
  | p :: q :: l, _ => rfl
theorem rootT_nil (r : Nat) : rootT r [] = z32T := by cases r <;> rfl
theorem rootT_one (r : Nat) (p : PairT) : rootT r [p] = leafT p := by cases r <;> rfl
end Nums
/-
  THE DOCUMENT'S TREE: a key's bit; is a key ahead of another one.
-/
namespace Go.Proofs.YtlaikmpnijlcbaaDoor
open Go.RowKit Go.IntWalk Nums

theorem row_at {n : Nat} {l : List UInt8} {j : Nat} (hj : j < l.length) : (catP [.agg n (By l).toArray])[0 + 1 * j]? = some (.int .u8 ((l[j]!).toNat : Int)) := by
  rw [Nat.zero_add, Nat.one_mul]
  show (By l).toArray[j]? = _
  exact By_get hj
end Go.Proofs.YtlaikmpnijlcbaaDoor
/-
  THE DOCUMENT'S TREE: the value of a key; pairs with one more.
-/
namespace Go.Proofs.YtlaikmpnijlcbaaDoor
open Go.RowKit Go.IntWalk Nums

/-- A pair's cells. -/
def eP (p : PairT) : SQ := .p [.agg 32 (By p.1).toArray, .agg 32 (By p.2).toArray]
def OkT2 (p : PairT) : Prop := p.1.length = 32 ∧ p.2.length = 32
theorem eP_ok {p : PairT} (h : OkT2 p) : OkP (eP p).parts1 ∧ (eP p).cl.length = 64 := by
  have h1 : (By p.1).toArray.size = 32 := by rw [List.size_toArray, By_len, h.1]
  have h2 : (By p.2).toArray.size = 32 := by rw [List.size_toArray, By_len, h.2]
  refine ⟨fun q hq => ?_, ?_⟩
  · rcases List.mem_cons.1 hq with rfl | hq
    · exact ⟨h1, By_one p.1⟩
    · rw [List.mem_singleton.1 hq]
      exact ⟨h2, By_one p.2⟩
  · rw [SQ.cl, Array.length_toList]
    show (catP [Pt.agg 32 (By p.1).toArray, .agg 32 (By p.2).toArray]).size = 64
    rw [catP_cons, Array.size_append]
    simp [Pt.cells, catP, By_len, h.1, h.2]
theorem eP_len {p : PairT} (h : OkP (eP p).parts1) : OkT2 p := by
  have h1 := (h (.agg 32 (By p.1).toArray) (by simp [eP, SQ.parts1])).1
  have h2 := (h (.agg 32 (By p.2).toArray) (by simp [eP, SQ.parts1])).1
  rw [List.size_toArray, By_len] at h1 h2
  exact ⟨h1, h2⟩
def retG : Option (List UInt8) → RV
  | some v => .t [eY 32 v, .c (.v (.bool true))]
  | none => .t [eY 32 z32T, .c (.v (.bool false))]
abbrev PX := Option Addr × Nat
end Go.Proofs.YtlaikmpnijlcbaaDoor
/-
  BYTES OF A NUMBER, ONE BY ONE.
-/
namespace Go.Proofs.YtlaikmpnijlcbaaDoor
open Go.RowKit Go.IntWalk

theorem bytes_get : ∀ (k v : Nat) {m : Nat}, m < k → ((Nums.bytes k v)[m]!).toNat = v / 256 ^ m % 256
  | k + 1, v, 0, _ => by
    show (UInt8.ofNat v).toNat = v / 1 % 256
    rw [UInt8.toNat_ofNat', Nat.div_one]
  | k + 1, v, m + 1, h => by
    have ih := bytes_get k (v / 256) (m := m) (by omega)
    show ((Nums.bytes k (v / 256))[m]!).toNat = v / 256 ^ (m + 1) % 256
    rw [ih, Nat.div_div_eq_div_mul, Nat.pow_succ, Nat.mul_comm 256]

end Go.Proofs.YtlaikmpnijlcbaaDoor
/-
  THE DOCUMENT'S OWN DIGESTS: turn, three, cut.
-/
namespace Go.Proofs.YtlaikmpnijlcbaaDoor
open Go.RowKit Go.IntWalk Nums

end Go.Proofs.YtlaikmpnijlcbaaDoor
/-
  PLAIN NUMBERS: a number as four words of 64 bits; sums with carries; the number modulo L out of five words. No program is imported.
-/
namespace Nums

/-- Four words of 64 bits, the least first. -/
def ws (n : Nat) : List Nat := [n % 18446744073709551616, n / 18446744073709551616 % 18446744073709551616, n / 340282366920938463463374607431768211456 % 18446744073709551616, n / 6277101735386680763835789423207666416102355444464034512896 % 18446744073709551616]
/-- The number of four words. -/
def v4 (a b c d : Nat) : Nat := a + 18446744073709551616 * b + 340282366920938463463374607431768211456 * c + 6277101735386680763835789423207666416102355444464034512896 * d
/-! ### Rows whose first k words have turned -/
def mxl (f : Nat → Nat) (l : List Nat) (k : Nat) : List Nat := (List.range l.length).map fun j => if j < k then f j else l[j]!
theorem mxl_len (f : Nat → Nat) (l : List Nat) (k : Nat) : (mxl f l k).length = l.length := by simp [mxl]
theorem mxl_zero (f : Nat → Nat) (l : List Nat) : mxl f l 0 = l := by
  apply List.ext_getElem (by simp [mxl])
  intro i h1 h2
  simp [mxl, h2]
theorem mxl_get (f : Nat → Nat) (l : List Nat) {k : Nat} (h : k < l.length) : (mxl f l k)[k]! = l[k]! := by
  rw [getElem!_pos _ k (by rw [mxl_len]; exact h)]
  simp [mxl]
theorem mxl_set (f : Nat → Nat) (l : List Nat) {k : Nat} : (mxl f l k).set k (f k) = mxl f l (k + 1) := by
  apply List.ext_getElem (by simp [mxl])
  intro j h1 h2
  rw [List.getElem_set]
  simp only [mxl, List.getElem_map, List.getElem_range]
  by_cases hjk : k = j
  · subst hjk
    simp
  · rw [if_neg hjk]
    by_cases hlt : j < k
    · rw [if_pos hlt, if_pos (by omega)]
    · rw [if_neg hlt, if_neg (by omega)]

/-! ### Sums -/
/-! ### Five words modulo L -/
end Nums
/-
  THE DOCUMENT'S OWN DIGESTS: Digest with words of 64 bits: its loops, over frames of which a part is told: the schedule.
-/
namespace Go.Proofs.YtlaikmpnijlcbaaDoor
open Go.RowKit Go.IntWalk Nums

def n64 : List Nat := [28, 34, 39, 14, 18, 41, 1, 8, 7, 19, 61, 6]
def y80 : List Nat := List.replicate 80 0
/-- What Digest's rows are: the message, the numbers of turns, the digest's words, the block's words. -/
structure DS (W0 w : World) (gm gn gh gx : Nat) (m : List UInt8) (h x : List Nat) : Prop where
  mm : VL w gm (By m)
  nn : VL w gn (Us n64)
  hh : VL w gh (Us h)
  xx : VL w gx (Us x)
  be : Below W0.heap.size W0 w
  ne : gm ≠ gh ∧ gm ≠ gx ∧ gn ≠ gh ∧ gn ≠ gx ∧ gh ≠ gx
  le : W0.heap.size ≤ gh ∧ W0.heap.size ≤ gx
section
variable {W0 w w' : World} {gm gn gh gx : Nat} {m : List UInt8} {h x : List Nat}
theorem DS.up (d : DS W0 w gm gn gh gx m h x) (k : Up w w') : DS W0 w' gm gn gh gx m h x := ⟨d.mm.up k, d.nn.up k, d.hh.up k, d.xx.up k, below_up d.be k, d.ne, d.le⟩
theorem DS.setH (d : DS W0 w gm gn gh gx m h x) (k v : Nat) : DS W0 (w.setCell ⟨gh, k, none⟩ (.int .u64 (v : Int))) gm gn gh gx m (h.set k v) x :=
  ⟨d.mm.far d.ne.1 _, d.nn.far d.ne.2.2.1 _, by rw [← Us_put]; exact d.hh.set k _, d.xx.far (Ne.symm d.ne.2.2.2.2) _, d.be.setCell d.le.1 _, d.ne, d.le⟩
end

end Go.Proofs.YtlaikmpnijlcbaaDoor
/-
  THE DOCUMENT'S OWN DIGESTS: Digest with words of 64 bits: the rounds.
-/
namespace Go.Proofs.YtlaikmpnijlcbaaDoor
open Go.RowKit Go.IntWalk Nums

end Go.Proofs.YtlaikmpnijlcbaaDoor
/-
  THE DOCUMENT'S OWN DIGESTS: Digest with words of 64 bits: a block's words, and the sums at a block's end.
-/
namespace Go.Proofs.YtlaikmpnijlcbaaDoor
open Go.RowKit Go.IntWalk Nums

end Go.Proofs.YtlaikmpnijlcbaaDoor
/-
  THE DOCUMENT'S OWN DIGESTS: Digest with words of 64 bits: the sums at a block's end.
-/
namespace Go.Proofs.YtlaikmpnijlcbaaDoor
open Go.RowKit Go.IntWalk Nums

end Go.Proofs.YtlaikmpnijlcbaaDoor
/-
  THE DOCUMENT'S OWN DIGESTS: Digest with words of 64 bits: block behind block.
-/
namespace Go.Proofs.YtlaikmpnijlcbaaDoor
open Go.RowKit Go.IntWalk Nums

/-- What Digest's rows are between two blocks. -/
structure BS (W0 w : World) (gm gn gh : Nat) (m : List UInt8) (h : List Nat) : Prop where
  mm : VL w gm (By m)
  nn : VL w gn (Us n64)
  hh : VL w gh (Us h)
  be : Below W0.heap.size W0 w
  ne : gm ≠ gh ∧ gn ≠ gh
  le : W0.heap.size ≤ gh
section
variable {W0 w w' : World} {gm gn gh gx : Nat} {m : List UInt8} {h x : List Nat}
theorem BS.up (d : BS W0 w gm gn gh m h) (k : Up w w') : BS W0 w' gm gn gh m h := ⟨d.mm.up k, d.nn.up k, d.hh.up k, below_up d.be k, d.ne, d.le⟩
theorem DS.base (d : DS W0 w gm gn gh gx m h x) : BS W0 w gm gn gh m h := ⟨d.mm, d.nn, d.hh, d.be, ⟨d.ne.1, d.ne.2.2.1⟩, d.le.1⟩
/-- A row of words is made. -/
theorem BS.made (d : BS W0 w gm gn gh m h) : DS W0 (w.alloc (.cells (Us y80).toArray 83)) gm gn gh w.heap.size m h y80 := by
  have k : Up w (w.alloc (.cells (Us y80).toArray 83)) := (Up.refl w).alloc _
  have d1 := d.up k
  exact ⟨d1.mm, d1.nn, d1.hh, VL.new w _ _, d1.be, ⟨d.ne.1, Nat.ne_of_lt d.mm.lt, d.ne.2, Nat.ne_of_lt d.nn.lt, Nat.ne_of_lt d.hh.lt⟩, ⟨d.le, d.be.size⟩⟩
end

end Go.Proofs.YtlaikmpnijlcbaaDoor
/-
  THE DOCUMENT'S OWN DIGESTS: Digest with words of 64 bits: the message's end.
-/
namespace Go.Proofs.YtlaikmpnijlcbaaDoor
open Go.RowKit Go.IntWalk Nums


/-! ### The length -/
theorem bytes_len : ∀ (k v : Nat), (Nums.bytes k v).length = k
  | 0, _ => rfl
  | k + 1, v => by
    show (Nums.bytes k (v / 256)).length + 1 = k + 1
    rw [bytes_len k]
end Go.Proofs.YtlaikmpnijlcbaaDoor
/-
  THE DOCUMENT'S OWN DIGESTS: Digest with words of 64 bits: the first words, and the words as bytes.
-/
namespace Go.Proofs.YtlaikmpnijlcbaaDoor
open Go.RowKit Go.IntWalk Nums

theorem BS.setH {W0 w : World} {gm gn gh : Nat} {m : List UInt8} {h : List Nat} (d : BS W0 w gm gn gh m h) (k v : Nat) : BS W0 (w.setCell ⟨gh, k, none⟩ (.int .u64 (v : Int))) gm gn gh m (h.set k v) :=
  ⟨d.mm.far d.ne.1 _, d.nn.far d.ne.2 _, by rw [← Us_put]; exact d.hh.set k _, d.be.setCell d.le _, d.ne, d.le⟩


/-! ### The words as bytes -/
end Go.Proofs.YtlaikmpnijlcbaaDoor
/-
  THE DOCUMENT'S OWN DIGESTS: Digest with words of 64 bits, whole.
-/
namespace Go.Proofs.YtlaikmpnijlcbaaDoor
open Go.RowKit Go.IntWalk Nums


/-- The slice value '.slice A l.length d' reads the bytes l. -/
def RB (w : World) (A : Option Addr) (d : Nat) (l : List UInt8) : Prop := (A = none ∧ l = [] ∧ d = 0) ∨ ∃ ad, A = some ad ∧ ∀ j v, (By l)[j]? = some v → w.cell? (ad.add j) = some v
theorem RB.up {w w' : World} {A : Option Addr} {d : Nat} {l : List UInt8} (h : RB w A d l) (hu : Up w w') : RB w' A d l := by
  rcases h with h | ⟨ad, h1, h2⟩
  · exact .inl h
  · exact .inr ⟨ad, h1, fun j v hj => (hu.cell (World.block_lt_of_cell? w _ (h2 j v hj))).trans (h2 j v hj)⟩
end Go.Proofs.YtlaikmpnijlcbaaDoor
/-
  THE DOCUMENT'S OWN DIGESTS: Digest with words of 64 bits is SHA-512.
-/
namespace Go.Proofs.YtlaikmpnijlcbaaDoor
open Go.RowKit Go.IntWalk Nums

/-! ### The words as bytes -/

/-! ### The message's end -/
theorem GS.less {w : World} {base base' e c : Nat} {A : Option Addr} {xs : List Value} (h : GS w base e A c xs) (hb : base' ≤ base) : GS w base' e A c xs := by
  refine ⟨h.1, ?_⟩
  rcases h.2 with h1 | ⟨g, cap, cur, hv, hg, hr⟩
  · exact .inl h1
  · exact .inr ⟨g, cap, cur, hv, Nat.le_trans hb hg, hr⟩

end Go.Proofs.YtlaikmpnijlcbaaDoor
/-
  THE DOCUMENT'S OWN DIGESTS: Long: SHA-512 of parts.
-/
namespace Go.Proofs.YtlaikmpnijlcbaaDoor
open Go.RowKit Go.IntWalk Nums


end Go.Proofs.YtlaikmpnijlcbaaDoor
/-
  THE DOCUMENT'S OWN DIGESTS: three, with words of 32 bits.
-/
namespace Go.Proofs.YtlaikmpnijlcbaaDoor
open Go.RowKit Go.IntWalk Nums

end Go.Proofs.YtlaikmpnijlcbaaDoor
/-
  THE DOCUMENT'S OWN DIGESTS: Digest with words of 32 bits: its loops, over frames of which a part is told: the schedule.
-/
namespace Go.Proofs.YtlaikmpnijlcbaaDoor
open Go.RowKit Go.IntWalk Nums

def n256 : List Nat := [2, 13, 22, 6, 11, 25, 7, 18, 3, 17, 19, 10]
def y64 : List Nat := List.replicate 64 0
/-- What Digest's rows are: the message, the numbers of turns, the digest's words, the block's words. -/
structure DS32 (W0 w : World) (gm gn gh gx : Nat) (m : List UInt8) (h x : List Nat) : Prop where
  mm : VL w gm (By m)
  nn : VL w gn (Us n256)
  hh : VL w gh (Us h)
  xx : VL w gx (Us x)
  be : Below W0.heap.size W0 w
  ne : gm ≠ gh ∧ gm ≠ gx ∧ gn ≠ gh ∧ gn ≠ gx ∧ gh ≠ gx
  le : W0.heap.size ≤ gh ∧ W0.heap.size ≤ gx
section
variable {W0 w w' : World} {gm gn gh gx : Nat} {m : List UInt8} {h x : List Nat}
theorem DS32.up (d : DS32 W0 w gm gn gh gx m h x) (k : Up w w') : DS32 W0 w' gm gn gh gx m h x := ⟨d.mm.up k, d.nn.up k, d.hh.up k, d.xx.up k, below_up d.be k, d.ne, d.le⟩
theorem DS32.setH (d : DS32 W0 w gm gn gh gx m h x) (k v : Nat) : DS32 W0 (w.setCell ⟨gh, k, none⟩ (.int .u64 (v : Int))) gm gn gh gx m (h.set k v) x :=
  ⟨d.mm.far d.ne.1 _, d.nn.far d.ne.2.2.1 _, by rw [← Us_put]; exact d.hh.set k _, d.xx.far (Ne.symm d.ne.2.2.2.2) _, d.be.setCell d.le.1 _, d.ne, d.le⟩
end

end Go.Proofs.YtlaikmpnijlcbaaDoor
/-
  THE DOCUMENT'S OWN DIGESTS: Digest with words of 32 bits: the rounds.
-/
namespace Go.Proofs.YtlaikmpnijlcbaaDoor
open Go.RowKit Go.IntWalk Nums

end Go.Proofs.YtlaikmpnijlcbaaDoor
/-
  THE DOCUMENT'S OWN DIGESTS: Digest with words of 32 bits: a block's words, and the sums at a block's end.
-/
namespace Go.Proofs.YtlaikmpnijlcbaaDoor
open Go.RowKit Go.IntWalk Nums

end Go.Proofs.YtlaikmpnijlcbaaDoor
/-
  THE DOCUMENT'S OWN DIGESTS: Digest with words of 32 bits: the sums at a block's end.
-/
namespace Go.Proofs.YtlaikmpnijlcbaaDoor
open Go.RowKit Go.IntWalk Nums

end Go.Proofs.YtlaikmpnijlcbaaDoor
/-
  THE DOCUMENT'S OWN DIGESTS: Digest with words of 32 bits: block behind block.
-/
namespace Go.Proofs.YtlaikmpnijlcbaaDoor
open Go.RowKit Go.IntWalk Nums

/-- What Digest's rows are between two blocks. -/
structure BS32 (W0 w : World) (gm gn gh : Nat) (m : List UInt8) (h : List Nat) : Prop where
  mm : VL w gm (By m)
  nn : VL w gn (Us n256)
  hh : VL w gh (Us h)
  be : Below W0.heap.size W0 w
  ne : gm ≠ gh ∧ gn ≠ gh
  le : W0.heap.size ≤ gh
section
variable {W0 w w' : World} {gm gn gh gx : Nat} {m : List UInt8} {h x : List Nat}
theorem BS32.up (d : BS32 W0 w gm gn gh m h) (k : Up w w') : BS32 W0 w' gm gn gh m h := ⟨d.mm.up k, d.nn.up k, d.hh.up k, below_up d.be k, d.ne, d.le⟩
theorem DS32.base (d : DS32 W0 w gm gn gh gx m h x) : BS32 W0 w gm gn gh m h := ⟨d.mm, d.nn, d.hh, d.be, ⟨d.ne.1, d.ne.2.2.1⟩, d.le.1⟩
/-- A row of words is made. -/
theorem BS32.made (d : BS32 W0 w gm gn gh m h) : DS32 W0 (w.alloc (.cells (Us y64).toArray 83)) gm gn gh w.heap.size m h y64 := by
  have k : Up w (w.alloc (.cells (Us y64).toArray 83)) := (Up.refl w).alloc _
  have d1 := d.up k
  exact ⟨d1.mm, d1.nn, d1.hh, VL.new w _ _, d1.be, ⟨d.ne.1, Nat.ne_of_lt d.mm.lt, d.ne.2, Nat.ne_of_lt d.nn.lt, Nat.ne_of_lt d.hh.lt⟩, ⟨d.le, d.be.size⟩⟩
end

end Go.Proofs.YtlaikmpnijlcbaaDoor
/-
  THE DOCUMENT'S OWN DIGESTS: Digest with words of 32 bits: the message's end.
-/
namespace Go.Proofs.YtlaikmpnijlcbaaDoor
open Go.RowKit Go.IntWalk Nums


/-! ### The length -/
end Go.Proofs.YtlaikmpnijlcbaaDoor
/-
  THE DOCUMENT'S OWN DIGESTS: Digest with words of 32 bits: the first words, and the words as bytes.
-/
namespace Go.Proofs.YtlaikmpnijlcbaaDoor
open Go.RowKit Go.IntWalk Nums

def first256 : Oct := ⟨s256.start[0]!, s256.start[1]!, s256.start[2]!, s256.start[3]!, s256.start[4]!, s256.start[5]!, s256.start[6]!, s256.start[7]!⟩
theorem BS32.setH {W0 w : World} {gm gn gh : Nat} {m : List UInt8} {h : List Nat} (d : BS32 W0 w gm gn gh m h) (k v : Nat) : BS32 W0 (w.setCell ⟨gh, k, none⟩ (.int .u64 (v : Int))) gm gn gh m (h.set k v) :=
  ⟨d.mm.far d.ne.1 _, d.nn.far d.ne.2 _, by rw [← Us_put]; exact d.hh.set k _, d.be.setCell d.le _, d.ne, d.le⟩


/-! ### The words as bytes -/
def rw4 (y : Nat) : List UInt8 := (Nums.bytes 4 y).reverse
theorem rw4_len (y : Nat) : (rw4 y).length = 4 := by
  unfold rw4
  rw [List.length_reverse, bytes_len]
end Go.Proofs.YtlaikmpnijlcbaaDoor
/-
  THE DOCUMENT'S OWN DIGESTS: Digest with words of 32 bits is SHA-256.
-/
namespace Go.Proofs.YtlaikmpnijlcbaaDoor
open Go.RowKit Go.IntWalk Nums

/-! ### The words as bytes -/
def outq (h : List Nat) (i : Nat) : List UInt8 := ((h.take i).map rw4).flatten
theorem outq_next {h : List Nat} {i : Nat} (hi : i < h.length) : outq h (i + 1) = outq h i ++ rw4 h[i]! := by
  unfold outq
  rw [List.take_add_one, List.getElem?_eq_getElem hi, getElem!_pos h i hi, List.map_append, List.flatten_append]
  simp only [Option.toList_some, List.map_cons, List.map_nil, List.flatten_cons, List.flatten_nil, List.append_nil]
theorem outq_len {h : List Nat} : ∀ {i : Nat}, i ≤ h.length → (outq h i).length = 4 * i
  | 0, _ => by simp [outq]
  | i + 1, hi => by
    rw [outq_next (by omega), List.length_append, rw4_len, outq_len (by omega)]
    omega

/-! ### The message's end -/
theorem outq_digest (m : List UInt8) : outq (sumw s256 m).list 8 = digest s256 m := by
  unfold outq digest
  rw [List.take_of_length_le (Nat.le_refl 8)]
  rfl
end Go.Proofs.YtlaikmpnijlcbaaDoor
/-
  THE DOCUMENT'S OWN DIGESTS: Sum: SHA-256 of parts.
-/
namespace Go.Proofs.YtlaikmpnijlcbaaDoor
open Go.RowKit Go.IntWalk Nums


theorem digest256_len (m : List UInt8) : (digest s256 m).length = 32 := by
  rw [← outq_digest, outq_len (Nat.le_refl 8)]
end Go.Proofs.YtlaikmpnijlcbaaDoor
/-
  THE DIGESTS: the library's RotateLeft64, by a negative number.
-/
namespace Go.Proofs.YtlaikmpnijlcbaaDoor
open Go.RowKit Go.IntWalk Nums

theorem rot_or (w n x : Nat) (hn : n ≤ w) (hx : x < 2 ^ w) : x * 2 ^ (w - n) % 2 ^ w = x % 2 ^ n * 2 ^ (w - n) ∧ x / 2 ^ n < 2 ^ (w - n) := by
  have e : (2 : Nat) ^ w = 2 ^ n * 2 ^ (w - n) := by rw [← Nat.pow_add, Nat.add_sub_cancel' hn]
  refine ⟨?_, Nat.div_lt_of_lt_mul (by rw [← e]; exact hx)⟩
  rw [e, Nat.mul_mod_mul_right]

end Go.Proofs.YtlaikmpnijlcbaaDoor
/-
  THE DIGESTS: long512: a block's words, and those that are made of them.
-/
namespace Go.Proofs.YtlaikmpnijlcbaaDoor
open Go.RowKit Go.IntWalk Nums

theorem mxl_in {f : Nat → Nat} {l : List Nat} {k j : Nat} (h : j < k) (hj : j < l.length) : (mxl f l k)[j]! = f j := by
  rw [getElem!_pos _ j (by rw [mxl_len]; exact hj)]
  simp [mxl, h]
end Go.Proofs.YtlaikmpnijlcbaaDoor
/-
  THE DIGESTS: turn512: the eight words turned by a block.
-/
namespace Go.Proofs.YtlaikmpnijlcbaaDoor
open Go.RowKit Go.IntWalk Nums

def z8w : Array Value := (Us [0, 0, 0, 0, 0, 0, 0, 0]).toArray
/-- The rounds' table lies where it lay. -/
structure Ts (w : World) : Prop where
  cell : ∀ i, i < 80 → w.cell? ⟨1, i, none⟩ = some (.int .u64 (cbs[i]! : Nat))
  lt : 1 < w.heap.size
theorem Ts.below {w w' : World} (h : Ts w) (hb : Below w.heap.size w w') : Ts w' :=
  ⟨fun i hi => (hb.cell (p := ⟨1, i, none⟩) h.lt).trans (h.cell i hi), Nat.lt_of_lt_of_le h.lt hb.size⟩
theorem Ts.drew {w : World} (h : Ts w) : Ts w.drew := ⟨h.cell, h.lt⟩
theorem cbs_lt {t : Nat} (h : t < 80) : cbs[t]! < 18446744073709551616 := by
  have h1 : ∀ x ∈ cbs, x < 18446744073709551616 := by decide
  have h2 : t < cbs.length := h
  rw [getElem!_pos cbs t h2]
  exact h1 _ (List.getElem_mem _)

section
variable {ops : Array Oper} {C0 : World → Prop} {Q : Act → Prop} {a : Act} {o : Oper} {rest : List Oper}
theorem b_assignV {x : Operand} (v : Value) (hg : Region.wanted o (yielded ops a.tmps) = true) (ho : o.op = .assign x) (hx : a.eval x = v) (hk : wpB Tryd.prog ops C0 Q rest (a.put o.dst v)) : wpB Tryd.prog ops C0 Q (o :: rest) a := by
  subst hx
  exact b_assign hg ho hk
end

/-- What turn512's rows lie in. -/
structure TS5 (w wr : World) (o : Oct) (gx : Nat) (l : List Nat) : Prop where
  b0 : Blk wr w.heap.size 84 (Us o.list).toArray
  b2 : Blk wr (w.heap.size + 1 + 1) 84 z8w
  bx : Blk wr gx 89 (Us l).toArray
  tw : Ts wr
  be : Below w.heap.size w wr
theorem TS5.up {w wr w1 : World} {o : Oct} {gx : Nat} {l : List Nat} (h : TS5 w wr o gx l) (k : Up wr w1) : TS5 w w1 o gx l := ⟨k.blk h.b0, k.blk h.b2, k.blk h.bx, h.tw.below k, below_up h.be k⟩
theorem TS5.drew {w wr : World} {o : Oct} {gx : Nat} {l : List Nat} (h : TS5 w wr o gx l) : TS5 w wr.drew o gx l := ⟨h.b0, h.b2, h.bx, h.tw.drew, h.be.drew⟩

end Go.Proofs.YtlaikmpnijlcbaaDoor
