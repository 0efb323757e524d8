/-
PLAIN NUMBERS: primes, Fermat's little theorem, Pocklington's criterion; p = 2^255 - 19 is prime. No program is imported.
PLAIN NUMBERS: the numbers modulo a prime as Fin n: no divisors of zero, powers, inverses, roots. No program is imported.
PLAIN NUMBERS: the curve -x² + y² = 1 + d x² y² modulo a prime, where -1 is a square and d is none: its sums are a group. No program is imported.
-/

namespace Nums

def Prime (p : Nat) : Prop := 1 < p ∧ ∀ m, m ∣ p → m = 1 ∨ m = p

theorem Prime.pos {p : Nat} (h : Prime p) : 0 < p := by have := h.1; omega

theorem Prime.coprime {p a : Nat} (h : Prime p) (ha : ¬ p ∣ a) : Nat.Coprime p a := by
  have hd : Nat.gcd p a ∣ p := Nat.gcd_dvd_left p a
  rcases h.2 _ hd with h1 | h1
  · exact h1
  · exact absurd (h1 ▸ Nat.gcd_dvd_right p a) ha

theorem Prime.dvd_mul {p a b : Nat} (h : Prime p) (hd : p ∣ a * b) : p ∣ a ∨ p ∣ b := by
  by_cases ha : p ∣ a
  · exact .inl ha
  · exact .inr ((h.coprime ha).dvd_of_dvd_mul_left hd)

theorem Prime.dvd_pow {p a : Nat} (h : Prime p) : ∀ {n : Nat}, p ∣ a ^ n → p ∣ a
  | 0, hd => by
    have := Nat.le_of_dvd (by omega) (by simpa using hd : p ∣ 1)
    have := h.1
    omega
  | n + 1, hd => by
    rw [Nat.pow_succ] at hd
    rcases h.dvd_mul hd with h1 | h1
    · exact h.dvd_pow h1
    · exact h1

/-- Every number above 1 has a prime divisor. -/
theorem exists_prime_dvd : ∀ (n : Nat), 1 < n → ∃ r, Prime r ∧ r ∣ n := by
  intro n
  induction n using Nat.strongRecOn with
  | ind n ih =>
    intro hn
    by_cases hp : ∃ m, m ∣ n ∧ m ≠ 1 ∧ m ≠ n
    · obtain ⟨m, hm, h1, h2⟩ := hp
      have hle := Nat.le_of_dvd (by omega) hm
      have hpos := Nat.pos_of_dvd_of_pos hm (by omega)
      obtain ⟨r, hr, hrm⟩ := ih m (by omega) (by omega)
      exact ⟨r, hr, Nat.dvd_trans hrm hm⟩
    · refine ⟨n, ⟨hn, fun m hm => ?_⟩, Nat.dvd_refl n⟩
      by_cases h1 : m = 1
      · exact .inl h1
      · by_cases h2 : m = n
        · exact .inr h2
        · exact absurd ⟨m, hm, h1, h2⟩ hp

/-- A composite number has a prime divisor whose square is at most it. -/
theorem small_prime {n : Nat} (hn : 1 < n) (hp : ¬ Prime n) : ∃ r, Prime r ∧ r ∣ n ∧ r * r ≤ n := by
  have : ∃ m, m ∣ n ∧ m ≠ 1 ∧ m ≠ n := by
    by_cases h : ∃ m, m ∣ n ∧ m ≠ 1 ∧ m ≠ n
    · exact h
    · refine absurd ⟨hn, fun m hm => ?_⟩ hp
      by_cases h1 : m = 1
      · exact .inl h1
      · by_cases h2 : m = n
        · exact .inr h2
        · exact absurd ⟨m, hm, h1, h2⟩ h
  obtain ⟨m, ⟨k, hk⟩, h1, h2⟩ := this
  have hm0 : 0 < m := by
    rcases Nat.eq_zero_or_pos m with h | h
    · subst h; simp at hk; omega
    · exact h
  have hk0 : 0 < k := by
    rcases Nat.eq_zero_or_pos k with h | h
    · subst h; simp at hk; omega
    · exact h
  have hk1 : k ≠ 1 := fun h => by subst h; simp at hk; omega
  rcases Nat.le_total m k with hle | hle
  · obtain ⟨r, hr, hrm⟩ := exists_prime_dvd m (by omega)
    have hrle := Nat.le_of_dvd hm0 hrm
    exact ⟨r, hr, Nat.dvd_trans hrm ⟨k, hk⟩, by rw [hk]; exact Nat.mul_le_mul hrle (Nat.le_trans hrle hle)⟩
  · obtain ⟨r, hr, hrk⟩ := exists_prime_dvd k (by omega)
    have hrle := Nat.le_of_dvd hk0 hrk
    exact ⟨r, hr, Nat.dvd_trans hrk ⟨m, by rw [hk, Nat.mul_comm]⟩, by rw [hk]; exact Nat.mul_le_mul (Nat.le_trans hrle hle) hrle⟩

/-! Fermat. -/
def prod (l : List Nat) : Nat := l.foldr (· * ·) 1
theorem prod_cons (a : Nat) (l : List Nat) : prod (a :: l) = a * prod l := rfl
theorem prod_perm {l1 l2 : List Nat} (h : l1.Perm l2) : prod l1 = prod l2 := by
  induction h with
  | nil => rfl
  | cons x _ ih => rw [prod_cons, prod_cons, ih]
  | swap x y l => rw [prod_cons, prod_cons, prod_cons, prod_cons, ← Nat.mul_assoc, ← Nat.mul_assoc, Nat.mul_comm x y]
  | trans _ _ ih1 ih2 => rw [ih1, ih2]

theorem perm_of : ∀ {l1 l2 : List Nat}, l1.Nodup → (∀ x ∈ l1, x ∈ l2) → l2.length ≤ l1.length → l1.Perm l2
  | [], l2, _, _, hl => by
    have : l2 = [] := List.eq_nil_of_length_eq_zero (by simpa using hl)
    subst this
    exact List.Perm.refl _
  | x :: l1, l2, hn, hs, hl => by
    have hx : x ∈ l2 := hs x (by simp)
    have hp := List.perm_cons_erase hx
    obtain ⟨hx1, hn1⟩ := List.nodup_cons.1 hn
    have h1 : l1.Perm (l2.erase x) := perm_of hn1 (fun y hy => (List.mem_erase_of_ne (fun (e : y = x) => hx1 (e ▸ hy))).2 (hs y (by simp [hy]))) (by
      rw [List.length_erase_of_mem hx]
      simp at hl
      omega)
    exact (List.Perm.cons x h1).trans hp.symm

theorem prod_map_mod (a r : Nat) : ∀ (l : List Nat), prod (l.map fun i => a * i % r) % r = a ^ l.length * prod l % r
  | [] => by simp [prod]
  | i :: l => by
    rw [List.map_cons, prod_cons, prod_cons, List.length_cons, Nat.mul_mod, prod_map_mod a r l, Nat.mod_mod, ← Nat.mul_mod, Nat.pow_succ]
    congr 1
    rw [Nat.mul_assoc, Nat.mul_assoc]
    rw [Nat.mul_left_comm i, ← Nat.mul_assoc a (a ^ l.length), Nat.mul_comm a (a ^ l.length), Nat.mul_assoc]

theorem coprime_prod {r : Nat} (hr : Prime r) : ∀ (l : List Nat), (∀ x ∈ l, ¬ r ∣ x) → ¬ r ∣ prod l
  | [], _, h => by
    have := Nat.le_of_dvd (by simp [prod]) h
    simp [prod] at this
    have := hr.1
    omega
  | x :: l, hl, h => by
    rw [prod_cons] at h
    rcases hr.dvd_mul h with h1 | h1
    · exact hl x (by simp) h1
    · exact coprime_prod hr l (fun y hy => hl y (by simp [hy])) h1

theorem mod_cancel {r a b c : Nat} (hr : Prime r) (hc : ¬ r ∣ c) (h : a * c % r = b * c % r) : a % r = b % r := by
  have key : ∀ {x y : Nat}, y ≤ x → x * c % r = y * c % r → x % r = y % r := fun {x y} hle h => by
    have h1 : r ∣ x * c - y * c := Nat.dvd_of_mod_eq_zero (Nat.sub_mod_eq_zero_of_mod_eq h)
    rw [← Nat.sub_mul] at h1
    rcases hr.dvd_mul h1 with ⟨t, ht⟩ | h2
    · have : x = y + r * t := by omega
      rw [this, Nat.add_mul_mod_self_left]
    · exact absurd h2 hc
  rcases Nat.le_total b a with hle | hle
  · exact key hle h
  · exact (key hle h.symm).symm

theorem nodup_map {f : Nat → Nat} : ∀ {l : List Nat}, l.Nodup → (∀ x ∈ l, ∀ y ∈ l, f x = f y → x = y) → (l.map f).Nodup
  | [], _, _ => by simp
  | a :: l, hn, hi => by
    obtain ⟨h1, h2⟩ := List.nodup_cons.1 hn
    rw [List.map_cons, List.nodup_cons]
    refine ⟨fun h => ?_, nodup_map h2 (fun x hx y hy => hi x (by simp [hx]) y (by simp [hy]))⟩
    obtain ⟨b, hb, e⟩ := List.mem_map.1 h
    have := hi b (by simp [hb]) a (by simp) e
    subst this
    exact h1 hb

theorem fermat {r a : Nat} (hr : Prime r) (ha : ¬ r ∣ a) : a ^ (r - 1) % r = 1 := by
  have hr1 := hr.1
  have hnd : ∀ i ∈ List.range' 1 (r - 1), ¬ r ∣ i := fun i hi hd => by
    have hi' := List.mem_range'_1.1 hi
    have := Nat.le_of_dvd (by omega) hd
    omega
  have hperm : ((List.range' 1 (r - 1)).map fun i => a * i % r).Perm (List.range' 1 (r - 1)) := by
    refine perm_of ?_ ?_ (by simp)
    · refine nodup_map List.nodup_range' fun x hx y hy h => ?_
      have hx' := List.mem_range'_1.1 hx
      have hy' := List.mem_range'_1.1 hy
      rw [Nat.mul_comm a x, Nat.mul_comm a y] at h
      have := mod_cancel hr ha h
      rwa [Nat.mod_eq_of_lt (by omega), Nat.mod_eq_of_lt (by omega)] at this
    · intro x hx
      obtain ⟨i, hi, rfl⟩ := List.mem_map.1 hx
      have hlt : a * i % r < r := Nat.mod_lt _ hr.pos
      have hne : a * i % r ≠ 0 := fun h0 => by
        rcases hr.dvd_mul (Nat.dvd_of_mod_eq_zero h0) with h1 | h1
        · exact ha h1
        · exact hnd i hi h1
      exact List.mem_range'_1.2 ⟨by omega, by omega⟩
  have h1 := prod_map_mod a r (List.range' 1 (r - 1))
  rw [prod_perm hperm, List.length_range'] at h1
  have h2 : 1 * prod (List.range' 1 (r - 1)) % r = a ^ (r - 1) * prod (List.range' 1 (r - 1)) % r := by rw [Nat.one_mul]; exact h1
  have h3 := mod_cancel hr (coprime_prod hr _ hnd) h2
  rw [← h3, Nat.mod_eq_of_lt hr1]

/-! Powers modulo a number, reckoned. -/
def pm (n a : Nat) : Nat → Nat → Nat
  | 0, _ => 1 % n
  | k + 1, e => if e % 2 = 1 then pm n a k (e / 2) * pm n a k (e / 2) % n * a % n else pm n a k (e / 2) * pm n a k (e / 2) % n

theorem pm_eq (n a : Nat) : ∀ (k e : Nat), e < 2 ^ k → pm n a k e = a ^ e % n
  | 0, e, h => by
    have : e = 0 := by simpa using h
    subst this
    simp [pm]
  | k + 1, e, h => by
    have h1 : e / 2 < 2 ^ k := by rw [Nat.pow_succ] at h; omega
    have ih := pm_eq n a k (e / 2) h1
    unfold pm
    rw [ih]
    have e2 : a ^ (e / 2) % n * (a ^ (e / 2) % n) % n = a ^ (2 * (e / 2)) % n := by
      rw [← Nat.mul_mod, ← Nat.pow_add]
      congr 2
      omega
    rw [e2]
    split
    · rw [Nat.mod_mul_mod, ← Nat.pow_succ]
      congr 2
      omega
    · congr 2
      omega

theorem pow_gcd {r a : Nat} (hr : 1 < r) : ∀ (m n : Nat), a ^ m % r = 1 → a ^ n % r = 1 → a ^ Nat.gcd m n % r = 1 := by
  intro m n
  induction m, n using Nat.gcd.induction with
  | H0 n => intro _ h; simpa using h
  | H1 m n hm ih =>
    intro h1 h2
    rw [Nat.gcd_rec]
    refine ih ?_ h1
    have e : a ^ n = (a ^ m) ^ (n / m) * a ^ (n % m) := by
      rw [← Nat.pow_mul, ← Nat.pow_add, Nat.div_add_mod]
    have h3 : (a ^ m) ^ (n / m) % r = 1 := by
      rw [Nat.pow_mod, h1, Nat.one_pow, Nat.mod_eq_of_lt hr]
    rw [e, Nat.mul_mod, h3, Nat.one_mul, Nat.mod_mod] at h2
    exact h2

theorem pock_one {n q a m r : Nat} (hq : Prime q) (hn : n - 1 = q * m) (hn1 : 1 < n) (h1 : a ^ (n - 1) % n = 1) (g1 : Nat.gcd (a ^ m % n + n - 1) n = 1) (hr : Prime r) (hrn : r ∣ n) : q ∣ r - 1 := by
  have hr1 := hr.1
  have hmod : ∀ x, x % n % r = x % r := fun x => Nat.mod_mod_of_dvd x hrn
  have h1r : a ^ (n - 1) % r = 1 := by rw [← hmod, h1, Nat.mod_eq_of_lt hr1]
  have hra : ¬ r ∣ a := fun hd => by
    have h0 : a ^ (n - 1) % r = 0 := by
      refine Nat.mod_eq_zero_of_dvd (Nat.dvd_trans hd ?_)
      exact ⟨a ^ (n - 2), by rw [← Nat.pow_succ']; congr 1; omega⟩
    omega
  by_cases hqr : q ∣ r - 1
  · exact hqr
  · have hf := fermat hr hra
    have hg := pow_gcd hr1 (n - 1) (r - 1) h1r hf
    have hcop : Nat.Coprime (Nat.gcd (n - 1) (r - 1)) q := by
      have := hq.coprime (a := Nat.gcd (n - 1) (r - 1)) (fun hd => hqr (Nat.dvd_trans hd (Nat.gcd_dvd_right _ _)))
      exact this.symm
    have hdm : Nat.gcd (n - 1) (r - 1) ∣ m := by
      have : Nat.gcd (n - 1) (r - 1) ∣ q * m := hn ▸ Nat.gcd_dvd_left (n - 1) (r - 1)
      exact hcop.dvd_of_dvd_mul_left this
    obtain ⟨t, ht⟩ := hdm
    have hm : a ^ m % r = 1 := by
      rw [ht, Nat.pow_mul, Nat.pow_mod, hg, Nat.one_pow, Nat.mod_eq_of_lt hr1]
    exfalso
    have hlt : a ^ m % n < n := Nat.mod_lt _ (by omega)
    have hd : r ∣ a ^ m % n + n - 1 := by
      have e1 : a ^ m % n % r = 1 := by rw [hmod]; exact hm
      have e2 : 1 ≤ a ^ m % n := by
        rcases Nat.eq_zero_or_pos (a ^ m % n) with h0 | h0
        · rw [h0] at e1; simp at e1
        · exact h0
      have e3 : r ∣ a ^ m % n - 1 := Nat.dvd_of_mod_eq_zero (by
        have := Nat.sub_mod_eq_zero_of_mod_eq (m := a ^ m % n) (n := 1) (k := r) (by rw [e1, Nat.mod_eq_of_lt hr1])
        exact this)
      have e4 : a ^ m % n + n - 1 = (a ^ m % n - 1) + n := by omega
      rw [e4]
      exact Nat.dvd_add e3 hrn
    have := Nat.dvd_gcd hd hrn
    rw [g1] at this
    have := Nat.le_of_dvd (by omega) this
    omega

/-- Pocklington's criterion with two primes. -/
theorem pocklington {n q1 q2 m1 m2 a : Nat} (hq1 : Prime q1) (hq2 : Prime q2) (hne : q1 ≠ q2) (hn1 : 1 < n) (hm1 : n - 1 = q1 * m1) (hm2 : n - 1 = q2 * m2) (hsz : n < (q1 * q2 + 1) * (q1 * q2 + 1))
    (h1 : a ^ (n - 1) % n = 1) (g1 : Nat.gcd (a ^ m1 % n + n - 1) n = 1) (g2 : Nat.gcd (a ^ m2 % n + n - 1) n = 1) : Prime n := by
  by_cases hp : Prime n
  · exact hp
  · exfalso
    obtain ⟨r, hr, hrn, hrr⟩ := small_prime hn1 hp
    have d1 := pock_one hq1 hm1 hn1 h1 g1 hr hrn
    have d2 := pock_one hq2 hm2 hn1 h1 g2 hr hrn
    have hcop : Nat.Coprime q1 q2 := hq1.coprime (fun hd => by
      rcases hq2.2 _ hd with h | h
      · have := hq1.1; omega
      · exact hne h)
    have hd : q1 * q2 ∣ r - 1 := hcop.mul_dvd_of_dvd_of_dvd d1 d2
    have hr1 := hr.1
    have hle := Nat.le_of_dvd (by omega) hd
    have h2 : q1 * q2 + 1 ≤ r := by omega
    have := Nat.mul_le_mul h2 h2
    omega

/-- The criterion's reckoning, as one Bool. -/
def pockB (n q1 q2 a k : Nat) : Bool :=
  decide (1 < n) && decide (n - 1 = q1 * ((n - 1) / q1)) && decide (n - 1 = q2 * ((n - 1) / q2)) && decide (n < (q1 * q2 + 1) * (q1 * q2 + 1)) && decide (q1 ≠ q2) && decide (n < 2 ^ k) &&
  (pm n a k (n - 1) == 1) && (Nat.gcd (pm n a k ((n - 1) / q1) + n - 1) n == 1) && (Nat.gcd (pm n a k ((n - 1) / q2) + n - 1) n == 1)

theorem prime_of {n q1 q2 a k : Nat} (hq1 : Prime q1) (hq2 : Prime q2) (h : pockB n q1 q2 a k = true) : Prime n := by
  simp only [pockB, Bool.and_eq_true, decide_eq_true_eq, beq_iff_eq] at h
  obtain ⟨⟨⟨⟨⟨⟨⟨⟨h1, h2⟩, h3⟩, h4⟩, h5⟩, h6⟩, h7⟩, h8⟩, h9⟩ := h
  have hd1 : (n - 1) / q1 ≤ n - 1 := Nat.div_le_self _ _
  have hd2 : (n - 1) / q2 ≤ n - 1 := Nat.div_le_self _ _
  rw [pm_eq n a k _ (by omega)] at h7 h8 h9
  exact pocklington hq1 hq2 h5 h1 h2 h3 h4 h7 h8 h9

/-- Trial division. -/
def trial (n : Nat) : Nat → Bool
  | 0 => true
  | k + 1 => trial n k && (decide (k < 2) || decide (n % k ≠ 0))
theorem trial_get {n : Nat} : ∀ {k m : Nat}, trial n k = true → 2 ≤ m → m < k → ¬ m ∣ n
  | k + 1, m, h, h2, hm, hd => by
    simp only [trial, Bool.and_eq_true, Bool.or_eq_true, decide_eq_true_eq] at h
    by_cases e : m = k
    · subst e
      rcases h.2 with h3 | h3
      · omega
      · exact h3 (Nat.mod_eq_zero_of_dvd hd)
    · exact trial_get h.1 h2 (by omega) hd
theorem prime_trial {n k : Nat} (hn : 1 < n) (hk : n < k * k) (h : trial n k = true) : Prime n := by
  by_cases hp : Prime n
  · exact hp
  · exfalso
    obtain ⟨r, hr, hrn, hrr⟩ := small_prime hn hp
    have hr1 := hr.1
    have : r < k := by
      rcases Nat.lt_or_ge r k with h1 | h1
      · exact h1
      · have := Nat.mul_le_mul h1 h1; omega
    exact trial_get h (by omega) this hrn

theorem prime_127 : Prime 127 := prime_trial (k := 12) (by decide) (by decide) (by decide +kernel)
theorem prime_8574133 : Prime 8574133 := prime_trial (k := 2929) (by decide) (by decide +kernel) (by decide +kernel)
theorem prime_75707 : Prime 75707 := prime_trial (k := 276) (by decide) (by decide +kernel) (by decide +kernel)
theorem prime_65147 : Prime 65147 := prime_trial (k := 256) (by decide) (by decide +kernel) (by decide +kernel)
theorem prime_1923133 : Prime 1923133 := prime_trial (k := 1387) (by decide) (by decide +kernel) (by decide +kernel)
theorem prime_a : Prime 1919519569386763 := prime_of (q1 := 8574133) (q2 := 127) (a := 2) (k := 51) prime_8574133 prime_127 (by decide +kernel)
theorem prime_b : Prime 75445702479781427272750846543864801 := prime_of (q1 := 1919519569386763) (q2 := 75707) (a := 7) (k := 116) prime_a prime_75707 (by decide +kernel)
theorem prime_c : Prime 74058212732561358302231226437062788676166966415465897661863160754340907 := prime_of (q1 := 75445702479781427272750846543864801) (q2 := 1923133) (a := 2) (k := 236) prime_b prime_1923133 (by decide +kernel)

/-- p. -/
def p : Nat := 57896044618658097711785492504343953926634992332820282019728792003956564819949
theorem prime_p : Prime p := prime_of (q1 := 74058212732561358302231226437062788676166966415465897661863160754340907) (q2 := 65147) (a := 2) (k := 255) prime_c prime_65147 (by decide +kernel)

end Nums

namespace Nums
section
variable {n : Nat} [NeZero n]

omit [NeZero n] in
theorem val_mul (a b : Fin n) : (a * b).val = a.val * b.val % n := rfl
theorem val_zero : ((0 : Fin n)).val = 0 := by simp
theorem val_one (hn : Prime n) : ((1 : Fin n)).val = 1 := by
  show 1 % n = 1
  exact Nat.mod_eq_of_lt hn.1

theorem ne_one (hn : Prime n) : (0 : Fin n) ≠ 1 := by
  intro h
  have := congrArg Fin.val h
  rw [val_one hn, val_zero] at this
  omega

theorem zero_or (hn : Prime n) {a b : Fin n} (h : a * b = 0) : a = 0 ∨ b = 0 := by
  have h1 : a.val * b.val % n = 0 := by rw [← val_mul, h]; exact val_zero
  have z : ∀ c : Fin n, n ∣ c.val → c = 0 := fun c hc => by
    apply Fin.ext
    rw [val_zero]
    exact Nat.eq_zero_of_dvd_of_lt hc c.isLt
  rcases hn.dvd_mul (Nat.dvd_of_mod_eq_zero h1) with h2 | h2
  · exact .inl (z a h2)
  · exact .inr (z b h2)

theorem mul_ne (hn : Prime n) {a b : Fin n} (ha : a ≠ 0) (hb : b ≠ 0) : a * b ≠ 0 := fun h => by
  rcases zero_or hn h with h | h
  · exact ha h
  · exact hb h

/-- Powers. -/
def fpow (a : Fin n) : Nat → Fin n
  | 0 => 1
  | k + 1 => fpow a k * a

theorem fpow_zero (a : Fin n) : fpow a 0 = 1 := rfl
theorem fpow_succ (a : Fin n) (k : Nat) : fpow a (k + 1) = fpow a k * a := rfl
theorem fpow_add (a : Fin n) (j k : Nat) : fpow a (j + k) = fpow a j * fpow a k := by
  induction k with
  | zero => rw [Nat.add_zero, fpow_zero]; grind
  | succ k ih => rw [Nat.add_succ, fpow_succ, fpow_succ, ih]; grind
theorem fpow_one (a : Fin n) : fpow a 1 = a := by rw [fpow_succ, fpow_zero]; grind
theorem one_fpow (k : Nat) : fpow (1 : Fin n) k = 1 := by
  induction k with
  | zero => rfl
  | succ k ih => rw [fpow_succ, ih]; grind
theorem zero_fpow {k : Nat} (h : 0 < k) : fpow (0 : Fin n) k = 0 := by
  obtain ⟨j, rfl⟩ : ∃ j, k = j + 1 := ⟨k - 1, by omega⟩
  rw [fpow_succ]; grind
theorem fpow_mul (a : Fin n) (j k : Nat) : fpow a (j * k) = fpow (fpow a j) k := by
  induction k with
  | zero => rfl
  | succ k ih => rw [Nat.mul_succ, fpow_add, fpow_succ, ih]
theorem mul_fpow (a b : Fin n) (k : Nat) : fpow (a * b) k = fpow a k * fpow b k := by
  induction k with
  | zero => rw [fpow_zero, fpow_zero, fpow_zero]; grind
  | succ k ih => rw [fpow_succ, fpow_succ, fpow_succ, ih]; grind
theorem fpow_val (hn : Prime n) (a : Fin n) (k : Nat) : (fpow a k).val = a.val ^ k % n := by
  induction k with
  | zero => rw [fpow_zero, val_one hn, Nat.pow_zero, Nat.mod_eq_of_lt hn.1]
  | succ k ih => rw [fpow_succ, val_mul, ih, Nat.pow_succ, Nat.mod_mul_mod]

theorem fpow_fermat (hn : Prime n) {a : Fin n} (ha : a ≠ 0) : fpow a (n - 1) = 1 := by
  apply Fin.ext
  rw [fpow_val hn, val_one hn]
  apply fermat hn
  intro hd
  apply ha
  apply Fin.ext
  rw [val_zero]
  exact Nat.eq_zero_of_dvd_of_lt hd a.isLt

/-- The inverse (of 0: 0). -/
def finv (a : Fin n) : Fin n := fpow a (n - 2)

theorem finv_zero (hn : 2 < n) : finv (0 : Fin n) = 0 := zero_fpow (by omega)
theorem mul_finv (hn : Prime n) {a : Fin n} (ha : a ≠ 0) : a * finv a = 1 := by
  have h := fpow_fermat hn ha
  have h2 : n - 1 = (n - 2) + 1 := by have := hn.1; omega
  rw [h2, fpow_succ] at h
  unfold finv
  rw [← h]; grind

theorem cancel (hn : Prime n) {a b c : Fin n} (hc : c ≠ 0) (h : a * c = b * c) : a = b := by
  have h1 := mul_finv hn hc
  have : a * c * finv c = b * c * finv c := by rw [h]
  grind

theorem finv_of (hn : Prime n) {a b : Fin n} (h : a * b = 1) : finv a = b := by
  have ha : a ≠ 0 := by
    rintro rfl
    exact ne_one hn (by rw [← h]; grind)
  apply cancel hn ha
  have := mul_finv hn ha
  grind

theorem finv_ne (hn : Prime n) {a : Fin n} (ha : a ≠ 0) : finv a ≠ 0 := fun h => by
  have := mul_finv hn ha
  rw [h] at this
  exact ne_one hn (by rw [← this]; grind)

/-- Two roots of one square. -/
theorem root_or (hn : Prime n) {a b : Fin n} (h : a * a = b * b) : a = b ∨ a = -b := by
  have : (a - b) * (a + b) = 0 := by grind
  rcases zero_or hn this with h | h
  · left; grind
  · right; grind

end
end Nums

namespace Nums

theorem Ed.closed {n : Nat} [NeZero n] (x1 y1 x2 y2 d : Fin n) (h1 : y1*y1 - x1*x1 = 1 + d*x1*x1*y1*y1) (h2 : y2*y2 - x2*x2 = 1 + d*x2*x2*y2*y2) :
  (y1*y2+x1*x2)*(y1*y2+x1*x2)*(1+d*x1*x2*y1*y2)*(1+d*x1*x2*y1*y2) - (x1*y2+y1*x2)*(x1*y2+y1*x2)*(1-d*x1*x2*y1*y2)*(1-d*x1*x2*y1*y2)
   = (1+d*x1*x2*y1*y2)*(1+d*x1*x2*y1*y2)*(1-d*x1*x2*y1*y2)*(1-d*x1*x2*y1*y2) + d*(y1*y2+x1*x2)*(y1*y2+x1*x2)*(x1*y2+y1*x2)*(x1*y2+y1*x2) := by grind

set_option maxHeartbeats 4000000 in
theorem Ed.assoc_x {n : Nat} [NeZero n] (x1 y1 x2 y2 x3 y3 d : Fin n) (h1 : y1*y1 - x1*x1 = 1 + d*x1*x1*y1*y1) (h2 : y2*y2 - x2*x2 = 1 + d*x2*x2*y2*y2) (h3 : y3*y3 - x3*x3 = 1 + d*x3*x3*y3*y3) :
  ((x1*y2+y1*x2)*(1-d*x1*x2*y1*y2)*y3 + (y1*y2+x1*x2)*(1+d*x1*x2*y1*y2)*x3) * ((1+d*x2*x3*y2*y3)*(1-d*x2*x3*y2*y3) + d*x1*y1*(x2*y3+y2*x3)*(y2*y3+x2*x3))
  = (x1*(y2*y3+x2*x3)*(1+d*x2*x3*y2*y3) + y1*(x2*y3+y2*x3)*(1-d*x2*x3*y2*y3)) * ((1+d*x1*x2*y1*y2)*(1-d*x1*x2*y1*y2) + d*(x1*y2+y1*x2)*(y1*y2+x1*x2)*x3*y3) := by grind

set_option maxHeartbeats 4000000 in
theorem Ed.assoc_y {n : Nat} [NeZero n] (x1 y1 x2 y2 x3 y3 d : Fin n) (h1 : y1*y1 - x1*x1 = 1 + d*x1*x1*y1*y1) (h2 : y2*y2 - x2*x2 = 1 + d*x2*x2*y2*y2) (h3 : y3*y3 - x3*x3 = 1 + d*x3*x3*y3*y3) :
  ((y1*y2+x1*x2)*(1+d*x1*x2*y1*y2)*y3 + (x1*y2+y1*x2)*(1-d*x1*x2*y1*y2)*x3) * ((1+d*x2*x3*y2*y3)*(1-d*x2*x3*y2*y3) - d*x1*y1*(x2*y3+y2*x3)*(y2*y3+x2*x3))
  = (y1*(y2*y3+x2*x3)*(1+d*x2*x3*y2*y3) + x1*(x2*y3+y2*x3)*(1-d*x2*x3*y2*y3)) * ((1+d*x1*x2*y1*y2)*(1-d*x1*x2*y1*y2) - d*(x1*y2+y1*x2)*(y1*y2+x1*x2)*x3*y3) := by grind

theorem Ed.key {n : Nat} [NeZero n] {X1 Y1 X2 Y2 D e s : Fin n} (h1 : X1*X1 + Y1*Y1 = 1 + D*X1*X1*Y1*Y1) (h2 : X2*X2 + Y2*Y2 = 1 + D*X2*X2*Y2*Y2) (h : D*X1*X2*Y1*Y2 = e) (he : e * e = 1) (hs : s * s = 1) :
    (X1 + s*e*Y1) * (X1 + s*e*Y1) = D * ((X1*Y1*(X2+s*Y2)) * (X1*Y1*(X2+s*Y2))) := by
  have l : (X1 + s*e*Y1) * (X1 + s*e*Y1) = X1*X1 + (s*s)*(e*e)*(Y1*Y1) + 2*s*e*X1*Y1 := by grind only
  have r : D * ((X1*Y1*(X2+s*Y2)) * (X1*Y1*(X2+s*Y2))) = D*X1*X1*Y1*Y1*(X2*X2 + (s*s)*(Y2*Y2)) + 2*s*(D*X1*X2*Y1*Y2)*X1*Y1 := by grind only
  rw [l, r, hs, he, h]
  have e1 : (1 : Fin n) * 1 * (Y1*Y1) = Y1 * Y1 := by grind only
  have e2 : (1 : Fin n) * (Y2*Y2) = Y2 * Y2 := by grind only
  have e3 : D*X1*X1*Y1*Y1*(1 + D*X2*X2*Y2*Y2) = D*X1*X1*Y1*Y1 + (D*X1*X2*Y1*Y2) * (D*X1*X2*Y1*Y2) := by grind only
  rw [e1, e2, h1, h2, e3, h, he]
  grind only

section
variable {n : Nat} [NeZero n]

structure Ed.Pt (n : Nat) where
  x : Fin n
  y : Fin n

/-- A curve: n is a prime, -1 has a root, d has none. -/
structure Ed.Good (n : Nat) [NeZero n] (d : Fin n) : Prop where
  pr : Prime n
  two : (2 : Fin n) ≠ 0
  i : ∃ i : Fin n, i * i = -1
  d : ∀ t : Fin n, t * t ≠ d

namespace Ed
variable {d : Fin n}

def On (d : Fin n) (P : Pt n) : Prop := P.y*P.y - P.x*P.x = 1 + d*P.x*P.x*P.y*P.y

/-- The heart of it: d x1 x2 y1 y2 is neither 1 nor -1. -/
theorem complete (g : Good n d) {x1 y1 x2 y2 e : Fin n} (h1 : y1*y1 - x1*x1 = 1 + d*x1*x1*y1*y1) (h2 : y2*y2 - x2*x2 = 1 + d*x2*x2*y2*y2) (he : e * e = 1) :
    d*x1*x2*y1*y2 ≠ e := by
  intro h
  obtain ⟨i, hi⟩ := g.i
  have e0 : e ≠ 0 := by rintro rfl; exact ne_one g.pr (by grind only)
  have hx1 : x1 ≠ 0 := by rintro rfl; exact e0 (by grind only)
  have hy1 : y1 ≠ 0 := by rintro rfl; exact e0 (by grind only)
  have hx2 : x2 ≠ 0 := by rintro rfl; exact e0 (by grind only)
  have hi0 : i ≠ 0 := by
    rintro rfl
    exact ne_one g.pr (by grind only)
  have g1 : (i*x1)*(i*x1) + y1*y1 = 1 + (-d)*(i*x1)*(i*x1)*y1*y1 := by
    have a : (i*x1)*(i*x1) + y1*y1 = (i*i)*(x1*x1) + y1*y1 := by grind only
    have b : 1 + (-d)*(i*x1)*(i*x1)*y1*y1 = 1 + (-d)*(i*i)*(x1*x1)*y1*y1 := by grind only
    rw [a, b, hi]
    grind only
  have g2 : (i*x2)*(i*x2) + y2*y2 = 1 + (-d)*(i*x2)*(i*x2)*y2*y2 := by
    have a : (i*x2)*(i*x2) + y2*y2 = (i*i)*(x2*x2) + y2*y2 := by grind only
    have b : 1 + (-d)*(i*x2)*(i*x2)*y2*y2 = 1 + (-d)*(i*i)*(x2*x2)*y2*y2 := by grind only
    rw [a, b, hi]
    grind only
  have g3 : (-d)*(i*x1)*(i*x2)*y1*y2 = e := by
    have a : (-d)*(i*x1)*(i*x2)*y1*y2 = (-d)*(i*i)*x1*x2*y1*y2 := by grind only
    rw [a, hi, ← h]
    grind only
  have key : ∀ s : Fin n, s * s = 1 → i*x2 + s*y2 = 0 := by
    intro s hs
    by_cases hz : i*x2 + s*y2 = 0
    · exact hz
    exfalso
    have hw : i*x1*y1*(i*x2+s*y2) ≠ 0 := mul_ne g.pr (mul_ne g.pr (mul_ne g.pr hi0 hx1) hy1) hz
    have hm := mul_finv g.pr hw
    have hk := Ed.key g1 g2 g3 he hs
    generalize i*x1*y1*(i*x2+s*y2) = w at hm hk
    generalize i*x1 + s*e*y1 = v at hk
    refine g.d (i * (v * finv w)) ?_
    have a : i * (v * finv w) * (i * (v * finv w)) = (i*i)*(v*v)*(finv w)*(finv w) := by grind only
    have b : (-1) * ((-d) * (w*w)) * finv w * finv w = d * (w * finv w) * (w * finv w) := by grind only
    rw [a, hi, hk, b, hm]
    grind only
  have k1 := key 1 (by grind only)
  have k2 := key (-1) (by grind only)
  have : (2 : Fin n) * (i * x2) = 0 := by grind only
  rcases zero_or g.pr this with h3 | h3
  · exact g.two h3
  · exact mul_ne g.pr hi0 hx2 h3

end Ed
end
end Nums
