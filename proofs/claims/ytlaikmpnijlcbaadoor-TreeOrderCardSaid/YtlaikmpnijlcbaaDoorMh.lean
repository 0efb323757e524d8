/-
  SEVERAL TEXTS IN ONE: TrP, TrB, TrG, Vt, Vu, UsB, Ref02, Ws.
-/
import Derived.Test.YtlaikmpnijlcbaaDoorMg
import Derived.Deep.RegionHeld3
import Derived.Laws.CopyOwn
import Derived.Test.YtlaikmpnijlcbaaDoorMc
/-
  PLAIN NUMBERS: pairs of keys and values in their order, keys' bits, the root of pairs. No program is imported.
-/
namespace Nums

/-- A key's bit. -/
def bitT (k : List UInt8) (n : Nat) : Nat := (k[n / 8]!).toNat / 2 ^ (7 - n % 8) % 2
/-- Byte by byte. -/
def lessT : List UInt8 → List UInt8 → Bool
  | a :: az, b :: bs => if a = b then lessT az bs else decide (a.toNat < b.toNat)
  | _, _ => false
abbrev PairT := List UInt8 × List UInt8
def putT : List PairT → PairT → List PairT
  | [], p => [p]
  | q :: r, p => if lessT q.1 p.1 then q :: putT r p else if q.1 = p.1 then p :: r else p :: q :: r
def getT (l : List PairT) (k : List UInt8) : Option (List UInt8) := (l.find? fun q => q.1 == k).map (·.2)
def z32T : List UInt8 := List.replicate 32 0
def leafT (p : PairT) : List UInt8 := digest s256 (0 :: (p.1 ++ p.2))
def nodeT (a b : List UInt8) : List UInt8 := digest s256 (1 :: (a ++ b))
/-- The root of pairs whose keys have r bits left. -/
def rootT : Nat → List PairT → List UInt8
  | _, [] => z32T
  | _, [p] => leafT p
  | 0, _ :: _ :: _ => z32T
  | r + 1, p :: q :: l => nodeT (rootT r ((p :: q :: l).filter fun x => bitT x.1 (255 - r) == 0)) (rootT r ((p :: q :: l).filter fun x => bitT x.1 (255 - r) != 0))

/-! ### The order -/
theorem lessT_irrefl : ∀ a : List UInt8, lessT a a = false
  | [] => rfl
  | a :: az => by unfold lessT; rw [if_pos rfl]; exact lessT_irrefl az
theorem lessT_trans : ∀ {a b c : List UInt8}, lessT a b = true → lessT b c = true → lessT a c = true
  | [], _, _, h, _ => by cases ‹List UInt8› <;> cases h
  | _ :: _, [], _, h, _ => by cases h
  | _ :: _, _ :: _, [], _, h => by cases h
  | a :: az, b :: bs, c :: cs, h, k => by
    unfold lessT at h k ⊢
    by_cases e1 : a = b
    · subst e1
      rw [if_pos rfl] at h
      by_cases e2 : a = c
      · rw [if_pos e2] at k ⊢
        exact lessT_trans h k
      · rw [if_neg e2] at k ⊢
        exact k
    · rw [if_neg e1] at h
      have h := of_decide_eq_true h
      by_cases e2 : b = c
      · subst e2
        rw [if_neg e1]
        exact decide_eq_true h
      · rw [if_neg e2] at k
        have k := of_decide_eq_true k
        have e3 : a ≠ c := fun e => by subst e; omega
        rw [if_neg e3]
        exact decide_eq_true (by omega)
theorem lessT_total : ∀ {a b : List UInt8}, a.length = b.length → lessT a b = false → a ≠ b → lessT b a = true
  | [], [], _, _, h => absurd rfl h
  | [], _ :: _, h, _, _ => by cases h
  | _ :: _, [], h, _, _ => by cases h
  | a :: az, b :: bs, hl, h, hn => by
    unfold lessT at h ⊢
    by_cases e : a = b
    · subst e
      rw [if_pos rfl] at h ⊢
      exact lessT_total (by simpa using hl) h fun e => hn (by rw [e])
    · rw [if_neg e] at h
      rw [if_neg fun x => e x.symm]
      have h := of_decide_eq_false h
      have : a.toNat ≠ b.toNat := fun x => e (UInt8.toNat_inj.1 x)
      exact decide_eq_true (by omega)
theorem lessT_asymm {a b : List UInt8} (h : lessT a b = true) : lessT b a = false := by
  cases hb : lessT b a with
  | false => rfl
  | true => have := lessT_trans h hb; rw [lessT_irrefl] at this; cases this

/-! ### Pairs in their order -/
def SortT (l : List PairT) : Prop := l.Pairwise fun p q => lessT p.1 q.1 = true
/-- Keys are whole. -/
def KeysT (l : List PairT) : Prop := ∀ p ∈ l, p.1.length = 32
theorem SortT.cons {p : PairT} {l : List PairT} : SortT (p :: l) ↔ (∀ q ∈ l, lessT p.1 q.1 = true) ∧ SortT l := List.pairwise_cons
theorem SortT.filter {l : List PairT} (h : SortT l) (f : PairT → Bool) : SortT (l.filter f) := List.Pairwise.filter f h
theorem KeysT.filter {l : List PairT} (h : KeysT l) (f : PairT → Bool) : KeysT (l.filter f) := fun p hp => h p (List.mem_filter.1 hp).1
/-- The order tells the list. -/
theorem SortT.ext : ∀ {l m : List PairT}, SortT l → SortT m → (∀ p, p ∈ l ↔ p ∈ m) → l = m
  | [], [], _, _, _ => rfl
  | [], q :: m, _, _, h => absurd ((h q).2 List.mem_cons_self) (by simp)
  | p :: l, [], _, _, h => absurd ((h p).1 List.mem_cons_self) (by simp)
  | p :: l, q :: m, hl, hm, h => by
    obtain ⟨h1, h2⟩ := SortT.cons.1 hl
    obtain ⟨k1, k2⟩ := SortT.cons.1 hm
    have e : p = q := by
      rcases List.mem_cons.1 ((h p).1 List.mem_cons_self) with e | hp
      · exact e
      · rcases List.mem_cons.1 ((h q).2 List.mem_cons_self) with e | hq
        · exact e.symm
        · have a := h1 q hq
          rw [lessT_asymm (k1 p hp)] at a
          cases a
    subst e
    refine congrArg (p :: ·) (SortT.ext h2 k2 fun x => ⟨fun hx => ?_, fun hx => ?_⟩)
    · rcases List.mem_cons.1 ((h x).1 (List.mem_cons_of_mem _ hx)) with e | hx2
      · subst e
        have a := h1 x hx
        rw [lessT_irrefl] at a
        cases a
      · exact hx2
    · rcases List.mem_cons.1 ((h x).2 (List.mem_cons_of_mem _ hx)) with e | hx2
      · subst e
        have a := k1 x hx
        rw [lessT_irrefl] at a
        cases a
      · exact hx2
/-- One key, one pair. -/
theorem SortT.key {l : List PairT} (h : SortT l) {p q : PairT} (hp : p ∈ l) (hq : q ∈ l) (e : p.1 = q.1) : p = q := by
  induction l with
  | nil => cases hp
  | cons x l ih =>
    obtain ⟨h1, h2⟩ := SortT.cons.1 h
    rcases List.mem_cons.1 hp with e1 | hp2 <;> rcases List.mem_cons.1 hq with e2 | hq2
    · rw [e1, e2]
    · have := h1 q hq2
      rw [← e1, ← e, lessT_irrefl] at this
      cases this
    · have := h1 p hp2
      rw [← e2, e, lessT_irrefl] at this
      cases this
    · exact ih h2 hp2 hq2
theorem putT_mem : ∀ {l : List PairT} {p : PairT}, SortT l → KeysT l → p.1.length = 32 → ∀ x, x ∈ putT l p ↔ x = p ∨ (x ∈ l ∧ x.1 ≠ p.1)
  | [], p, _, _, _, x => by simp [putT]
  | q :: l, p, hs, hk, hp, x => by
    obtain ⟨h1, h2⟩ := SortT.cons.1 hs
    have hq : q.1.length = 32 := hk q List.mem_cons_self
    have hkl : KeysT l := fun y hy => hk y (List.mem_cons_of_mem _ hy)
    unfold putT
    by_cases h : lessT q.1 p.1 = true
    · rw [if_pos h, List.mem_cons, putT_mem h2 hkl hp x, List.mem_cons]
      have hne : q.1 ≠ p.1 := fun e => by rw [e, lessT_irrefl] at h; cases h
      constructor
      · rintro (rfl | rfl | ⟨a, b⟩)
        · exact .inr ⟨.inl rfl, hne⟩
        · exact .inl rfl
        · exact .inr ⟨.inr a, b⟩
      · rintro (rfl | ⟨rfl | a, b⟩)
        · exact .inr (.inl rfl)
        · exact .inl rfl
        · exact .inr (.inr ⟨a, b⟩)
    · rw [if_neg h]
      by_cases e : q.1 = p.1
      · rw [if_pos e, List.mem_cons, List.mem_cons]
        constructor
        · rintro (rfl | a)
          · exact .inl rfl
          · exact .inr ⟨.inr a, fun e2 => by have := h1 x a; rw [e, e2, lessT_irrefl] at this; cases this⟩
        · rintro (rfl | ⟨rfl | a, b⟩)
          · exact .inl rfl
          · exact absurd e b
          · exact .inr a
      · rw [if_neg e, List.mem_cons, List.mem_cons]
        have hgt := lessT_total (by rw [hq, hp]) (by simpa using h) e
        constructor
        · rintro (rfl | rfl | a)
          · exact .inl rfl
          · exact .inr ⟨.inl rfl, e⟩
          · exact .inr ⟨.inr a, fun e2 => by have := lessT_trans hgt (h1 x a); rw [e2, lessT_irrefl] at this; cases this⟩
        · rintro (rfl | ⟨rfl | a, b⟩)
          · exact .inl rfl
          · exact .inr (.inl rfl)
          · exact .inr (.inr a)
theorem putT_keys {l : List PairT} {p : PairT} (hs : SortT l) (hk : KeysT l) (hp : p.1.length = 32) : KeysT (putT l p) := fun x hx => by
  rcases (putT_mem hs hk hp x).1 hx with rfl | h
  · exact hp
  · exact hk x h.1
theorem putT_sort : ∀ {l : List PairT} {p : PairT}, SortT l → KeysT l → p.1.length = 32 → SortT (putT l p)
  | [], p, _, _, _ => by simp [putT, SortT]
  | q :: l, p, hs, hk, hp => by
    obtain ⟨h1, h2⟩ := SortT.cons.1 hs
    have hq : q.1.length = 32 := hk q List.mem_cons_self
    have hkl : KeysT l := fun y hy => hk y (List.mem_cons_of_mem _ hy)
    unfold putT
    by_cases h : lessT q.1 p.1 = true
    · rw [if_pos h]
      refine SortT.cons.2 ⟨fun x hx => ?_, putT_sort h2 hkl hp⟩
      rcases (putT_mem h2 hkl hp x).1 hx with rfl | hx
      · exact h
      · exact h1 x hx.1
    · rw [if_neg h]
      by_cases e : q.1 = p.1
      · rw [if_pos e]
        exact SortT.cons.2 ⟨fun x hx => by rw [← e]; exact h1 x hx, h2⟩
      · rw [if_neg e]
        have hgt := lessT_total (by rw [hq, hp]) (by simpa using h) e
        refine SortT.cons.2 ⟨fun x hx => ?_, hs⟩
        rcases List.mem_cons.1 hx with rfl | hx
        · exact hgt
        · exact lessT_trans hgt (h1 x hx)
theorem getT_some {l : List PairT} {k v : List UInt8} (hs : SortT l) : getT l k = some v ↔ (k, v) ∈ l := by
  unfold getT
  constructor
  · intro h
    cases hf : l.find? (fun q => q.1 == k) with
    | none => rw [hf] at h; cases h
    | some q =>
      rw [hf] at h
      simp only [Option.map_some, Option.some.injEq] at h
      have h1 := List.find?_some hf
      have h2 := List.mem_of_find?_eq_some hf
      have e : q.1 = k := by simpa using h1
      subst e
      subst h
      exact h2
  · intro h
    cases hf : l.find? (fun q => q.1 == k) with
    | none =>
      have := List.find?_eq_none.1 hf (k, v) h
      simp at this
    | some q =>
      have h1 := List.find?_some hf
      have h2 := List.mem_of_find?_eq_some hf
      have e : q.1 = k := by simpa using h1
      have := hs.key h2 h e
      subst this
      rfl
theorem getT_none {l : List PairT} {k : List UInt8} : getT l k = none ↔ ∀ q ∈ l, q.1 ≠ k := by
  unfold getT
  rw [Option.map_eq_none_iff, List.find?_eq_none]
  simp

/-! ### Bits -/
theorem bitT_lt (k : List UInt8) (n : Nat) : bitT k n < 2 := Nat.mod_lt _ (by decide)
/-- Bytes whose bits are one and the same are so. -/
theorem byte_bits (a b : Nat) (ha : a < 256) (hb : b < 256) (h : ∀ j, j < 8 → a / 2 ^ (7 - j) % 2 = b / 2 ^ (7 - j) % 2) : a = b := by
  have h0 := h 0 (by decide)
  have h1 := h 1 (by decide)
  have h2 := h 2 (by decide)
  have h3 := h 3 (by decide)
  have h4 := h 4 (by decide)
  have h5 := h 5 (by decide)
  have h6 := h 6 (by decide)
  have h7 := h 7 (by decide)
  simp only [Nat.reduceSub, Nat.reducePow] at h0 h1 h2 h3 h4 h5 h6 h7
  omega
/-- The first bit that isn't the same tells which byte is less. -/
theorem byte_less (a b j : Nat) (ha : a < 256) (hb : b < 256) (hj : j < 8) (h : ∀ i, i < j → a / 2 ^ (7 - i) % 2 = b / 2 ^ (7 - i) % 2) (h0 : a / 2 ^ (7 - j) % 2 = 0) (h1 : b / 2 ^ (7 - j) % 2 ≠ 0) : a < b := by
  have hj8 : j = 0 ∨ j = 1 ∨ j = 2 ∨ j = 3 ∨ j = 4 ∨ j = 5 ∨ j = 6 ∨ j = 7 := by omega
  rcases hj8 with rfl | rfl | rfl | rfl | rfl | rfl | rfl | rfl
  · simp only [Nat.reduceSub, Nat.reducePow] at h0 h1; omega
  · have e0 := h 0 (by decide); simp only [Nat.reduceSub, Nat.reducePow] at h0 h1 e0; omega
  · have e0 := h 0 (by decide); have e1 := h 1 (by decide); simp only [Nat.reduceSub, Nat.reducePow] at h0 h1 e0 e1; omega
  · have e0 := h 0 (by decide); have e1 := h 1 (by decide); have e2 := h 2 (by decide); simp only [Nat.reduceSub, Nat.reducePow] at h0 h1 e0 e1 e2; omega
  · have e0 := h 0 (by decide); have e1 := h 1 (by decide); have e2 := h 2 (by decide); have e3 := h 3 (by decide); simp only [Nat.reduceSub, Nat.reducePow] at h0 h1 e0 e1 e2 e3; omega
  · have e0 := h 0 (by decide); have e1 := h 1 (by decide); have e2 := h 2 (by decide); have e3 := h 3 (by decide); have e4 := h 4 (by decide); simp only [Nat.reduceSub, Nat.reducePow] at h0 h1 e0 e1 e2 e3 e4; omega
  · have e0 := h 0 (by decide); have e1 := h 1 (by decide); have e2 := h 2 (by decide); have e3 := h 3 (by decide); have e4 := h 4 (by decide); have e5 := h 5 (by decide); simp only [Nat.reduceSub, Nat.reducePow] at h0 h1 e0 e1 e2 e3 e4 e5; omega
  · have e0 := h 0 (by decide); have e1 := h 1 (by decide); have e2 := h 2 (by decide); have e3 := h 3 (by decide); have e4 := h 4 (by decide); have e5 := h 5 (by decide); have e6 := h 6 (by decide); simp only [Nat.reduceSub, Nat.reducePow] at h0 h1 e0 e1 e2 e3 e4 e5 e6; omega
theorem bitT_byte (k : List UInt8) (i j : Nat) (hj : j < 8) : bitT k (8 * i + j) = (k[i]!).toNat / 2 ^ (7 - j) % 2 := by
  unfold bitT
  rw [show (8 * i + j) / 8 = i by omega, show (8 * i + j) % 8 = j by omega]
/-- The first d bits are the same. -/
def ShareT (d : Nat) (a b : List UInt8) : Prop := ∀ n, n < d → bitT a n = bitT b n
theorem ShareT.all {a b : List UInt8} (ha : a.length = 32) (hb : b.length = 32) (h : ShareT 256 a b) : a = b := by
  apply List.ext_getElem (by rw [ha, hb])
  intro i h1 h2
  have e := byte_bits (a[i]!).toNat (b[i]!).toNat (UInt8.toNat_lt _) (UInt8.toNat_lt _) fun j hj => by
    rw [← bitT_byte a i j hj, ← bitT_byte b i j hj]
    exact h _ (by omega)
  have e := UInt8.toNat_inj.1 e
  rw [getElem!_pos a i h1, getElem!_pos b i h2] at e
  exact e
theorem lessT_at : ∀ (i : Nat) {a b : List UInt8}, i < a.length → i < b.length → (∀ j, j < i → a[j]! = b[j]!) → (a[i]!).toNat < (b[i]!).toNat → lessT a b = true
  | _, [], _, h, _, _, _ => by cases h
  | _, _ :: _, [], _, h, _, _ => by cases h
  | 0, a :: az, b :: bs, _, _, _, h => by
    have h : a.toNat < b.toNat := h
    unfold lessT
    rw [if_neg fun e => by subst e; omega]
    exact decide_eq_true h
  | i + 1, a :: az, b :: bs, ha, hb, he, h => by
    have e0 : a = b := he 0 (by omega)
    unfold lessT
    rw [if_pos e0]
    exact lessT_at i (by simpa using ha) (by simpa using hb) (fun j hj => he (j + 1) (by omega)) h
/-- Who has the first other bit 0 comes first. -/
theorem ShareT.less {d : Nat} {a b : List UInt8} (hd : d < 256) (ha : a.length = 32) (hb : b.length = 32) (h : ShareT d a b) (h0 : bitT a d = 0) (h1 : bitT b d ≠ 0) : lessT a b = true := by
  refine lessT_at (d / 8) (by omega) (by omega) (fun i hi => ?_) ?_
  · refine UInt8.toNat_inj.1 (byte_bits _ _ (UInt8.toNat_lt _) (UInt8.toNat_lt _) fun j hj => ?_)
    rw [← bitT_byte a i j hj, ← bitT_byte b i j hj]
    exact h _ (by omega)
  · refine byte_less _ _ (d % 8) (UInt8.toNat_lt _) (UInt8.toNat_lt _) (by omega) (fun j hj => ?_) h0 h1
    rw [← bitT_byte a (d / 8) j (by omega), ← bitT_byte b (d / 8) j (by omega)]
    exact h _ (by omega)
/-- Keys that share their first d bits. -/
def SharesT (d : Nat) (l : List PairT) : Prop := ∀ p ∈ l, ∀ q ∈ l, ShareT d p.1 q.1
def leftT (d : Nat) (l : List PairT) : List PairT := l.filter fun x => bitT x.1 d == 0
def rightT (d : Nat) (l : List PairT) : List PairT := l.filter fun x => bitT x.1 d != 0
theorem leftT_mem {d : Nat} {l : List PairT} {x : PairT} : x ∈ leftT d l ↔ x ∈ l ∧ bitT x.1 d = 0 := by simp [leftT]
theorem rightT_mem {d : Nat} {l : List PairT} {x : PairT} : x ∈ rightT d l ↔ x ∈ l ∧ bitT x.1 d ≠ 0 := by simp [rightT]
theorem SharesT.left {d : Nat} {l : List PairT} (h : SharesT d l) : SharesT (d + 1) (leftT d l) := fun p hp q hq n hn => by
  obtain ⟨hp, bp⟩ := leftT_mem.1 hp
  obtain ⟨hq, bq⟩ := leftT_mem.1 hq
  by_cases e : n = d
  · subst e; rw [bp, bq]
  · exact h p hp q hq n (by omega)
theorem SharesT.right {d : Nat} {l : List PairT} (h : SharesT d l) : SharesT (d + 1) (rightT d l) := fun p hp q hq n hn => by
  obtain ⟨hp, bp⟩ := rightT_mem.1 hp
  obtain ⟨hq, bq⟩ := rightT_mem.1 hq
  by_cases e : n = d
  · subst e
    have := bitT_lt p.1 n
    have := bitT_lt q.1 n
    omega
  · exact h p hp q hq n (by omega)
/-- Both sides, one behind the other. -/
theorem sides_app {d : Nat} {l : List PairT} (hd : d < 256) (hs : SortT l) (hk : KeysT l) (h : SharesT d l) : leftT d l ++ rightT d l = l := by
  refine SortT.ext (List.pairwise_append.2 ⟨hs.filter _, hs.filter _, fun p hp q hq => ?_⟩) hs fun x => ?_
  · obtain ⟨hp, bp⟩ := leftT_mem.1 hp
    obtain ⟨hq, bq⟩ := rightT_mem.1 hq
    exact (h p hp q hq).less hd (hk p hp) (hk q hq) bp bq
  · rw [List.mem_append, leftT_mem, rightT_mem]
    constructor
    · rintro (h | h) <;> exact h.1
    · intro hx
      by_cases e : bitT x.1 d = 0
      · exact .inl ⟨hx, e⟩
      · exact .inr ⟨hx, e⟩
/-- At the end one pair is left. -/
theorem SharesT.one {l : List PairT} (hs : SortT l) (hk : KeysT l) (h : SharesT 256 l) : l.length ≤ 1 := by
  match l, hs, hk, h with
  | [], _, _, _ => decide
  | [_], _, _, _ => exact Nat.le_refl _
  | p :: q :: l, hs, hk, h =>
    have e := (h p (by simp) q (by simp)).all (hk p (by simp)) (hk q (by simp))
    have := (SortT.cons.1 hs).1 q (by simp)
    rw [e, lessT_irrefl] at this
    cases this
/-- A pair is put into its side. -/
theorem putT_left {d : Nat} {l : List PairT} {p : PairT} (hs : SortT l) (hk : KeysT l) (hp : p.1.length = 32) : leftT d (putT l p) = if bitT p.1 d = 0 then putT (leftT d l) p else leftT d l := by
  refine SortT.ext ((putT_sort hs hk hp).filter _) (by split; exact putT_sort (hs.filter _) (hk.filter _) hp; exact hs.filter _) fun x => ?_
  rw [leftT_mem, putT_mem hs hk hp]
  split
  · rename_i e
    rw [putT_mem (l := leftT d l) (hs.filter _) (hk.filter _) hp, leftT_mem]
    constructor
    · rintro ⟨rfl | ⟨a, b⟩, c⟩
      · exact .inl rfl
      · exact .inr ⟨⟨a, c⟩, b⟩
    · rintro (rfl | ⟨⟨a, c⟩, b⟩)
      · exact ⟨.inl rfl, e⟩
      · exact ⟨.inr ⟨a, b⟩, c⟩
  · rename_i e
    rw [leftT_mem]
    constructor
    · rintro ⟨rfl | ⟨a, b⟩, c⟩
      · exact absurd c e
      · exact ⟨a, c⟩
    · rintro ⟨a, c⟩
      exact ⟨.inr ⟨a, fun e2 => e (by rw [← e2]; exact c)⟩, c⟩
theorem putT_right {d : Nat} {l : List PairT} {p : PairT} (hs : SortT l) (hk : KeysT l) (hp : p.1.length = 32) : rightT d (putT l p) = if bitT p.1 d = 0 then rightT d l else putT (rightT d l) p := by
  refine SortT.ext ((putT_sort hs hk hp).filter _) (by split; exact hs.filter _; exact putT_sort (hs.filter _) (hk.filter _) hp) fun x => ?_
  rw [rightT_mem, putT_mem hs hk hp]
  split
  · rename_i e
    rw [rightT_mem]
    constructor
    · rintro ⟨rfl | ⟨a, b⟩, c⟩
      · exact absurd e c
      · exact ⟨a, c⟩
    · rintro ⟨a, c⟩
      exact ⟨.inr ⟨a, fun e2 => c (by rw [e2]; exact e)⟩, c⟩
  · rename_i e
    rw [putT_mem (l := rightT d l) (hs.filter _) (hk.filter _) hp, rightT_mem]
    constructor
    · rintro ⟨rfl | ⟨a, b⟩, c⟩
      · exact .inl rfl
      · exact .inr ⟨⟨a, c⟩, b⟩
    · rintro (rfl | ⟨⟨a, c⟩, b⟩)
      · exact ⟨.inl rfl, e⟩
      · exact ⟨.inr ⟨a, b⟩, c⟩
/-- The root of more than one pair. -/
theorem rootT_node {r : Nat} {l : List PairT} (h : 2 ≤ l.length) : rootT (r + 1) l = nodeT (rootT r (leftT (255 - r) l)) (rootT r (rightT (255 - r) l)) := by
  match l, h with
  | p :: q :: l, _ => rfl
theorem rootT_nil (r : Nat) : rootT r [] = z32T := by cases r <;> rfl
theorem rootT_one (r : Nat) (p : PairT) : rootT r [p] = leafT p := by cases r <;> rfl
/-- A pair that is there, put again, changes nothing. -/
theorem putT_same {l : List PairT} {p : PairT} (hs : SortT l) (hk : KeysT l) (hp : p ∈ l) : putT l p = l := by
  have h32 := hk p hp
  refine SortT.ext (putT_sort hs hk h32) hs fun x => ?_
  rw [putT_mem hs hk h32]
  constructor
  · rintro (rfl | ⟨a, _⟩)
    · exact hp
    · exact a
  · intro hx
    by_cases e : x.1 = p.1
    · exact .inl (hs.key hx hp e)
    · exact .inr ⟨hx, e⟩
/-- Two pairs of one key: the later one stays. -/
theorem putT_twice {l : List PairT} {p q : PairT} (hs : SortT l) (hk : KeysT l) (hp : p.1.length = 32) (e : p.1 = q.1) : putT (putT l p) q = putT l q := by
  have hq : q.1.length = 32 := by rw [← e]; exact hp
  have hs1 := putT_sort hs hk hp
  have hk1 := putT_keys hs hk hp
  refine SortT.ext (putT_sort hs1 hk1 hq) (putT_sort hs hk hq) fun x => ?_
  rw [putT_mem hs1 hk1 hq, putT_mem hs hk hp, putT_mem hs hk hq]
  constructor
  · rintro (rfl | ⟨rfl | ⟨a, _⟩, b⟩)
    · exact .inl rfl
    · exact absurd e b
    · exact .inr ⟨a, b⟩
  · rintro (rfl | ⟨a, b⟩)
    · exact .inl rfl
    · exact .inr ⟨.inr ⟨a, by rw [e]; exact b⟩, b⟩
theorem putT_get {l : List PairT} {p : PairT} (hs : SortT l) (hk : KeysT l) (hp : p.1.length = 32) (k : List UInt8) : getT (putT l p) k = if k = p.1 then some p.2 else getT l k := by
  have hs1 := putT_sort hs hk hp
  split
  · rename_i e
    subst e
    exact (getT_some hs1).2 ((putT_mem hs hk hp _).2 (.inl rfl))
  · rename_i e
    cases h : getT l k with
    | some v =>
      have h := (getT_some hs).1 h
      exact (getT_some hs1).2 ((putT_mem hs hk hp _).2 (.inr ⟨h, e⟩))
    | none =>
      refine getT_none.2 fun q hq e2 => ?_
      rcases (putT_mem hs hk hp q).1 hq with rfl | ⟨a, _⟩
      · exact e e2.symm
      · exact getT_none.1 h q a e2
end Nums
/-
  THE DOCUMENT'S TREE: a key's bit; is a key ahead of another one.
-/
namespace Go.Proofs.YtlaikmpnijlcbaaDoor
open Go.RowKit Go.IntWalk Nums

theorem own_rbit9 : Own 21 := fun _ _ => by go_simp
theorem own_rless9 : Own 23 := fun _ _ => by go_simp
theorem row_at {n : Nat} {l : List UInt8} {j : Nat} (hj : j < l.length) : (catP [.agg n (By l).toArray])[0 + 1 * j]? = some (.int .u8 ((l[j]!).toNat : Int)) := by
  rw [Nat.zero_add, Nat.one_mul]
  show (By l).toArray[j]? = _
  exact By_get hj
theorem div_pow_succ (v i : Nat) : v / 2 ^ (i + 1) = v / 2 ^ i / 2 := by rw [Nat.pow_succ, Nat.div_div_eq_div_mul]

set_option maxRecDepth 100000 in
set_option maxHeartbeats 1000000 in
theorem rbit_S {k : List UInt8} (hk : k.length = 32) (n : Nat) (hn : n < 256) : Spec 21 [(eY 32 k).den, .int .i64 (n : Int)] [] (fun _ => True) (one (.v (.int .i64 ((bitT k n : Nat) : Int)))) := by
  refine spec_S [eY 32 k, .c (.v (.int .i64 (n : Int)))] 23 Tryd.func21 rfl (by rw [Tryd.ntmps21]; rfl) (two_ok (eY_ok hk).1 trivial) fun b => ?_
  refine s_auto TY_ok rfl ?_
  refine s_regA TY_ok rfl fun K hK => ?_
  refine l_num 8 ((n / 8 : Nat) : Int) rfl (wrapQ n 8 (by omega)) ?_
  refine l_op (.a 2 (0 + 1 * (n / 8))) trivial rfl rfl rfl (runO_ixA (n / 8) rfl Tryd.underlying30 rfl rfl rfl (by omega)) ?_
  refine l_opV (.v (.int .u8 ((k[n / 8]!).toNat : Int))) trivial rfl rfl rfl (runO_ldA _ rfl rfl rfl (row_at (by omega)) Tryd.underlying5 rfl) ?_
  refine l_autoS TY_ok rfl ?_
  have hlt := (k[n / 8]!).toNat_lt
  generalize hv : (k[n / 8]!).toNat = v at *
  refine l_num 5 (v : Int) rfl (wrapI rfl (by omega) (by omega)) ?_
  refine s_end (hK _ ?_)
  have hrem : IntKind.i64.wrap (7 - (n : Int).tmod 8) = ((7 - n % 8 : Nat) : Int) := wrapI (by rw [Int.tmod_eq_emod_of_nonneg (by omega)]; omega) (by omega) (by omega)
  refine s_seq fun Kl hKl => ?_
  refine s_auto TY_ok rfl ?_
  refine s_block ?_
  let F : Nat → Env := fun i => ⟨[(6, .v (.int .i64 (i : Int))), (5, .v (.int .i64 ((v / 2 ^ i : Nat) : Int))), (1, .v (.int .i64 (n : Int)))], [], [], fun _ => True, fun _ => True⟩
  refine c_weak (e' := F 0) ⟨⟨rfl, congrArg some (congrArg SV.v (congrArg (Value.int .i64) (by rw [Nat.pow_zero, Nat.div_one]))), rfl, trivial⟩, trivial, .refl _, fun _ _ _ => trivial, fun _ _ => trivial⟩ (s_loop (fun i => 7 - n % 8 - i) F (fun i => i ≤ 7 - n % 8) ?_ 0 (Nat.zero_le _))
  intro i hi
  refine s_seq fun K1 hK1 => ?_
  refine s_auto TY_ok rfl ?_
  refine s_ifD ((i : Int) < IntKind.i64.wrap (7 - (n : Int).tmod 8)) rfl (fun hlt2 => ?_) (fun hge => ?_)
  · rw [hrem] at hlt2
    have hil : i < 7 - n % 8 := by omega
    refine s_skip (hK1 _ ?_)
    refine s_seq fun K4 hK4 => ?_
    refine s_block ?_
    refine s_autoE TY_ok rfl ?_
    refine hK4 _ ?_
    refine s_autoE TY_ok rfl ?_
    have hb : v / 2 ^ i ≤ v := Nat.div_le_self _ _
    exact k_next (i + 1) hil (by omega) ⟨⟨congrArg some (congrArg SV.v (congrArg (Value.int .i64) (wrapI rfl (by omega) (by omega)))), congrArg some (congrArg SV.v (congrArg (Value.int .i64) (by rw [div_pow_succ]; exact wrapQ (v / 2 ^ i) 2 (by omega)))), rfl, trivial⟩, trivial, .refl _, fun _ _ _ => trivial, fun _ _ => trivial⟩
  · rw [hrem] at hge
    obtain rfl : i = 7 - n % 8 := by omega
    refine s_exit (k_pass (k_pass (k_out ?_)))
    refine hKl _ ?_
    have hb : v / 2 ^ (7 - n % 8) ≤ v := Nat.div_le_self _ _
    refine s_auto TY_ok rfl ?_
    have hbit : bitT k n = v / 2 ^ (7 - n % 8) % 2 := by unfold bitT; rw [hv]
    exact s_ret (k_retD TY_ok () rfl (by decide) rfl (by
      show Value.int .i64 ((bitT k n : Nat) : Int) = Value.int .i64 (((v / 2 ^ (7 - n % 8) : Nat) : Int).tmod 2)
      exact congrArg (Value.int .i64) (by rw [hbit]; generalize v / 2 ^ (7 - n % 8) = z; rw [Int.tmod_eq_emod_of_nonneg (Int.natCast_nonneg z)]; omega)) trivial rfl (fun _ _ _ => trivial) (fun _ _ => trivial))

/-- The first byte that isn't the same. -/
theorem lessT_take : ∀ (i : Nat) {a b : List UInt8}, i < a.length → i < b.length → a.take i = b.take i → a[i]! ≠ b[i]! → lessT a b = decide ((a[i]!).toNat < (b[i]!).toNat)
  | _, [], _, h, _, _, _ => by cases h
  | _, _ :: _, [], _, h, _, _ => by cases h
  | 0, a :: p, b :: q, _, _, _, h => by
    have h : a ≠ b := h
    show (if a = b then _ else _) = _
    rw [if_neg h]
    rfl
  | i + 1, a :: p, b :: q, ha, hb, ht, h => by
    simp only [List.take_succ_cons, List.cons.injEq] at ht
    show (if a = b then _ else _) = _
    rw [if_pos ht.1]
    exact lessT_take i (a := p) (b := q) (by simpa using ha) (by simpa using hb) ht.2 h
theorem take_moreT {i : Nat} {a b : List UInt8} (ha : i < a.length) (hb : i < b.length) (ht : a.take i = b.take i) (h : a[i]! = b[i]!) : a.take (i + 1) = b.take (i + 1) := by
  rw [List.take_succ_eq_append_getElem ha, List.take_succ_eq_append_getElem hb, ht]
  rw [getElem!_pos a i ha, getElem!_pos b i hb] at h
  rw [h]
set_option maxRecDepth 100000 in
set_option maxHeartbeats 1000000 in
theorem rless_S {x y : List UInt8} (hx : x.length = 32) (hy : y.length = 32) : Spec 23 [(eY 32 x).den, (eY 32 y).den] [] (fun _ => True) (one (.q (.c (.b (lessT x y))))) := by
  refine spec_S [eY 32 x, eY 32 y] 24 Tryd.func23 rfl (by rw [Tryd.ntmps23]; rfl) (two_ok (eY_ok hx).1 (eY_ok hy).1) fun b => ?_
  refine s_auto TY_ok rfl ?_
  refine s_seq fun K hK => ?_
  refine s_auto TY_ok rfl ?_
  refine s_block ?_
  let F : Nat → Env := fun i => ⟨[(6, .v (.int .i64 (i : Int))), (2, .a 2 0), (3, .a 3 0)], [⟨3, none, 30, [.agg 32 (By y).toArray]⟩, ⟨2, none, 30, [.agg 32 (By x).toArray]⟩], [], fun _ => True, fun _ => True⟩
  refine c_weak (e' := F 0) ⟨⟨rfl, rfl, rfl, trivial⟩, ⟨rfl, rfl, rfl, rfl, trivial⟩, .refl _, fun _ _ _ => trivial, fun _ _ => trivial⟩ (s_loop (fun i => 32 - i) F (fun i => i ≤ 32 ∧ x.take i = y.take i) ?_ 0 ⟨Nat.zero_le _, rfl⟩)
  rintro i ⟨hi, ht⟩
  refine s_auto TY_ok rfl ?_
  refine s_seq fun K1 hK1 => ?_
  refine s_ifD ((i : Int) < 32) rfl (fun hlt => ?_) (fun hge => ?_)
  · have hil : i < 32 := by omega
    refine s_skip (hK1 _ ?_)
    refine s_seq fun K2 hK2 => ?_
    refine s_block ?_
    refine s_auto TY_ok rfl ?_
    refine s_regD 7 (by decide) (by kernel_rfl) (by kernel_rfl) fun K3 hK3 G S w0 hst => ?_
    refine g_autoS TY_ok hst rfl ?_
    refine g_opS (.a 2 (0 + 1 * i)) trivial rfl rfl rfl (runO_ixA i rfl Tryd.underlying30 rfl rfl rfl hil) ?_
    refine g_opV hst (.v (.int .u8 ((x[i]!).toNat : Int))) trivial rfl rfl rfl (runO_ldA _ rfl rfl rfl (row_at (by omega)) Tryd.underlying5 rfl) ?_
    refine g_autoS TY_ok hst rfl ?_
    refine g_opS (.a 3 (0 + 1 * i)) trivial rfl rfl rfl (runO_ixA i rfl Tryd.underlying30 rfl rfl rfl hil) ?_
    refine g_opV hst (.v (.int .u8 ((y[i]!).toNat : Int))) trivial rfl rfl rfl (runO_ldA _ rfl rfl rfl (row_at (by omega)) Tryd.underlying5 rfl) ?_
    refine g_autoS TY_ok hst rfl ?_
    refine g_endS hst ?_
    refine s_end (hK3 _ ?_)
    refine s_ifD (((x[i]!).toNat : Int) ≠ ((y[i]!).toNat : Int)) rfl (fun hne => ?_) (fun he => ?_)
    · have hne : x[i]! ≠ y[i]! := fun e => hne (by rw [e])
      refine s_regD 7 (by decide) (by kernel_rfl) (by kernel_rfl) fun K4 hK4 G S w0 hst => ?_
      refine g_autoS TY_ok hst rfl ?_
      refine g_opS (.a 2 (0 + 1 * i)) trivial rfl rfl rfl (runO_ixA i rfl Tryd.underlying30 rfl rfl rfl hil) ?_
      refine g_opV hst (.v (.int .u8 ((x[i]!).toNat : Int))) trivial rfl rfl rfl (runO_ldA _ rfl rfl rfl (row_at (by omega)) Tryd.underlying5 rfl) ?_
      refine g_autoS TY_ok hst rfl ?_
      refine g_opS (.a 3 (0 + 1 * i)) trivial rfl rfl rfl (runO_ixA i rfl Tryd.underlying30 rfl rfl rfl hil) ?_
      refine g_opV hst (.v (.int .u8 ((y[i]!).toNat : Int))) trivial rfl rfl rfl (runO_ldA _ rfl rfl rfl (row_at (by omega)) Tryd.underlying5 rfl) ?_
      refine g_autoS TY_ok hst rfl ?_
      refine g_endS hst ?_
      refine l_autoS TY_ok rfl ?_
      refine s_end (hK4 _ ?_)
      exact s_ret (k_retD TY_ok () rfl (by decide) rfl (by
        rw [lessT_take i (by omega) (by omega) ht hne]
        show Value.bool _ = Value.bool _
        congr 1
        exact decide_eq_decide.2 (by omega)) trivial rfl (fun _ _ _ => trivial) (fun _ _ => trivial))
    · have he : x[i]! = y[i]! := UInt8.toNat_inj.1 (by omega)
      refine s_skip (hK2 _ ?_)
      refine s_autoE TY_ok rfl ?_
      exact k_next (i + 1) ⟨hil, take_moreT (by omega) (by omega) ht he⟩ (by omega) ⟨⟨congrArg some (congrArg SV.v (congrArg (Value.int .i64) (wrapI rfl (by omega) (by omega)))), rfl, rfl, trivial⟩, ⟨rfl, rfl, rfl, rfl, trivial⟩, .refl _, fun _ _ _ => trivial, fun _ _ => trivial⟩
  · obtain rfl : i = 32 := by omega
    have e : x = y := by
      rw [List.take_of_length_le (by omega), List.take_of_length_le (by omega)] at ht
      exact ht
    refine s_exit (k_pass (k_pass (k_out ?_)))
    refine hK _ ?_
    refine s_auto TY_ok rfl ?_
    exact s_ret (k_retD TY_ok () rfl (by decide) rfl (by rw [e, lessT_irrefl]; rfl) trivial rfl (fun _ _ _ => trivial) (fun _ _ => trivial))
end Go.Proofs.YtlaikmpnijlcbaaDoor
/-
  THE DOCUMENT'S TREE: the value of a key; pairs with one more.
-/
namespace Go.Proofs.YtlaikmpnijlcbaaDoor
open Go.RowKit Go.IntWalk Nums

theorem own_rget9 : Own 12 := fun _ _ => by go_simp
theorem own_rput9 : Own 10 := fun _ _ => by go_simp
/-- A pair's cells. -/
def eP (p : PairT) : SQ := .p [.agg 32 (By p.1).toArray, .agg 32 (By p.2).toArray]
def OkT2 (p : PairT) : Prop := p.1.length = 32 ∧ p.2.length = 32
theorem eP_ok {p : PairT} (h : OkT2 p) : OkP (eP p).parts1 ∧ (eP p).cl.length = 64 := by
  have h1 : (By p.1).toArray.size = 32 := by rw [List.size_toArray, By_len, h.1]
  have h2 : (By p.2).toArray.size = 32 := by rw [List.size_toArray, By_len, h.2]
  refine ⟨fun q hq => ?_, ?_⟩
  · rcases List.mem_cons.1 hq with rfl | hq
    · exact ⟨h1, By_one p.1⟩
    · rw [List.mem_singleton.1 hq]
      exact ⟨h2, By_one p.2⟩
  · rw [SQ.cl, Array.length_toList]
    show (catP [Pt.agg 32 (By p.1).toArray, .agg 32 (By p.2).toArray]).size = 64
    rw [catP_cons, Array.size_append]
    simp [Pt.cells, catP, By_len, h.1, h.2]
theorem eP_len {p : PairT} (h : OkP (eP p).parts1) : OkT2 p := by
  have h1 := (h (.agg 32 (By p.1).toArray) (by simp [eP, SQ.parts1])).1
  have h2 := (h (.agg 32 (By p.2).toArray) (by simp [eP, SQ.parts1])).1
  rw [List.size_toArray, By_len] at h1 h2
  exact ⟨h1, h2⟩
theorem find_takeT {α : Type} (p : α → Bool) (l : List α) (i : Nat) {x : α} (h : ∀ y ∈ l.take i, p y = false) (hx : l[i]? = some x) (hp : p x = true) : l.find? p = some x := by
  have e : l = l.take i ++ x :: l.drop (i + 1) := by
    have hlt := (List.getElem?_eq_some_iff.1 hx).1
    have := List.take_append_drop i l
    rw [List.drop_eq_getElem_cons hlt, (List.getElem?_eq_some_iff.1 hx).2] at this
    exact this.symm
  rw [e, List.find?_append, List.find?_eq_none.2 (fun y hy => by rw [h y hy]; decide), Option.none_or, List.find?_cons_of_pos hp]
theorem take_nextT {α : Type} {p : α → Prop} {l : List α} {i : Nat} {x : α} (h : ∀ y ∈ l.take i, p y) (hx : l[i]? = some x) (hp : p x) : ∀ y ∈ l.take (i + 1), p y := fun y hy => by
  rw [List.take_add_one, hx] at hy
  rcases List.mem_append.1 hy with hy | hy
  · exact h y hy
  · simp at hy
    rw [hy]
    exact hp
def retG : Option (List UInt8) → RV
  | some v => .t [eY 32 v, .c (.v (.bool true))]
  | none => .t [eY 32 z32T, .c (.v (.bool false))]
set_option maxRecDepth 100000 in
set_option maxHeartbeats 2000000 in
theorem rget_S {A : Option Addr} {c : Nat} (l : List PairT) {k : List UInt8} (hk : k.length = 32) : Spec 12 [.slice A l.length c, (eY 32 k).den] [] (Rd 64 eP A c l) { ret := fun _ : Unit => retG (getT l k), own := fun _ => [] } := by
  refine spec_S [.c (.v (.slice A l.length c)), eY 32 k] 22 Tryd.func12 rfl (by rw [Tryd.ntmps12]; rfl) (two_ok trivial (eY_ok hk).1) fun b => ?_
  refine s_pure (l.length ≤ 9223372036854775807 ∧ ∀ x ∈ l, OkT2 x) (fun w h _ => ⟨Nat.le_trans h.1 h.2.1, fun x hx => eP_len (h.2.2.2.1 x hx).1⟩) fun ⟨hl, hs⟩ => ?_
  refine s_auto TY_ok rfl ?_
  refine s_seq fun K hK => ?_
  refine s_auto TY_ok rfl ?_
  refine s_block ?_
  let F : Nat → Env := fun i => ⟨[(10, .v (.int .i64 (i : Int))), (9, .v (.int .i64 (l.length : Int))), (8, .v (.slice A l.length c)), (3, .a 3 0), (4, .a 4 0)], [⟨4, none, 30, [.agg 32 (By z32T).toArray]⟩, ⟨3, none, 30, [.agg 32 (By k).toArray]⟩], [], Rd 64 eP A c l, fun _ => True⟩
  refine c_weak (e' := F 0) ⟨⟨rfl, rfl, rfl, rfl, rfl, trivial⟩, ⟨rfl, rfl, rfl, rfl, trivial⟩, .refl _, fun _ h _ => h, fun _ _ => trivial⟩ (s_loop (fun i => l.length - i) F (fun i => i ≤ l.length ∧ ∀ y ∈ l.take i, (y.1 == k) = false) ?_ 0 ⟨Nat.zero_le _, by simp⟩)
  rintro i ⟨hi, hno⟩
  refine s_auto TY_ok rfl ?_
  refine s_seq fun K1 hK1 => ?_
  refine s_ifD ((i : Int) < (l.length : Int)) rfl (fun hlt => ?_) (fun hge => ?_)
  · have hlt : i < l.length := by omega
    obtain ⟨x, hx⟩ : ∃ x, l[i]? = some x := ⟨_, List.getElem?_eq_getElem hlt⟩
    have hx2 := hs x (List.mem_of_getElem? hx)
    refine s_skip (hK1 _ ?_)
    refine s_seq fun K2 hK2 => ?_
    refine s_block ?_
    refine s_regA TY_ok rfl fun K3 hK3 => ?_
    refine l_elem TY_ok rfl rfl rfl i rfl hx rfl rfl (rd_fact fun _ h _ => h) ?_
    refine l_autoS TY_ok rfl ?_
    refine s_end (hK3 _ ?_)
    refine s_regA TY_ok rfl fun K4 hK4 => ?_
    refine l_op (.b (decide (x.1 = k))) trivial rfl rfl rfl (run_eqY rfl rfl rfl Tryd.underlying30 (by kernel_rfl) hx2.1 hk) ?_
    refine l_autoS TY_ok rfl ?_
    refine s_end (hK4 _ ?_)
    refine s_ifD (x.1 = k) rfl (fun he => ?_) (fun hne => ?_)
    · have hg : getT l k = some x.2 := by
        unfold getT
        rw [find_takeT _ l i hno hx (by simpa using he)]
        rfl
      refine s_auto TY_ok rfl ?_
      exact s_ret (k_ret TY_ok () rfl (by decide) rfl (congrArg retG hg) rfl (fun _ _ _ => trivial) (fun _ _ => trivial))
    · refine s_skip (hK2 _ ?_)
      refine s_autoE TY_ok rfl ?_
      exact k_next (i + 1) ⟨hlt, take_nextT hno hx (by simpa using hne)⟩ (by omega) ⟨⟨congrArg some (congrArg SV.v (congrArg (Value.int .i64) (wrapI rfl (by omega) (by omega)))), rfl, rfl, rfl, rfl, trivial⟩, ⟨rfl, rfl, rfl, rfl, trivial⟩, .refl _, fun _ h _ => h, fun _ _ => trivial⟩
  · obtain rfl : i = l.length := by omega
    rw [List.take_length] at hno
    have hg : getT l k = none := by
      unfold getT
      rw [List.find?_eq_none.2 fun y hy => by rw [hno y hy]; decide]
      rfl
    refine s_exit (k_pass (k_pass (k_out ?_)))
    refine hK _ ?_
    refine s_auto TY_ok rfl ?_
    exact s_ret (k_ret TY_ok () rfl (by decide) rfl (congrArg retG hg) rfl (fun _ _ _ => trivial) (fun _ _ => trivial))

/-- What comes of the pairs that are left. -/
def finT (o : List PairT) (d : Bool) (r : List PairT) (p : PairT) : List PairT := if d then o ++ r else o ++ putT r p
theorem finT_done (o r : List PairT) (q p : PairT) : finT o true (q :: r) p = finT (o ++ [q]) true r p := by simp [finT]
theorem finT_less {o r : List PairT} {q p : PairT} (h : lessT q.1 p.1 = true) : finT o false (q :: r) p = finT (o ++ [q]) false r p := by
  simp [finT, putT, h]
theorem finT_same {o r : List PairT} {q p : PairT} (e : q.1 = p.1) : finT o false (q :: r) p = finT (o ++ [p]) true r p := by
  have h2 : lessT p.1 p.1 = false := lessT_irrefl _
  simp [finT, putT, h2, e]
theorem finT_new {o r : List PairT} {q p : PairT} (h : lessT q.1 p.1 = false) (e : q.1 ≠ p.1) : finT o false (q :: r) p = finT (o ++ [p] ++ [q]) true r p := by
  simp [finT, putT, h, e]
abbrev PX := Option Addr × Nat
set_option maxRecDepth 100000 in
set_option maxHeartbeats 4000000 in
theorem rput_S {A : Option Addr} {c : Nat} (l : List PairT) {p : PairT} (hp : OkT2 p) (hl : l.length ≤ 1000000) : Spec 10 [.slice A l.length c, (eP p).den] [] (Rd 64 eP A c l) { ret := fun x : PX => .v (.slice x.1 (putT l p).length x.2), own := fun _ => [], n := fun x => Rd 64 eP x.1 x.2 (putT l p) } := by
  refine spec_S [.c (.v (.slice A l.length c)), eP p] 46 Tryd.func10 rfl (by rw [Tryd.ntmps10]; rfl) (two_ok trivial (eP_ok hp).1) fun b => ?_
  refine s_pure (∀ x ∈ l, OkT2 x) (fun _ h _ => fun x hx => eP_len (h.2.2.2.1 x hx).1) fun hs => ?_
  refine s_auto TY_ok rfl ?_
  refine s_auto TY_ok rfl ?_
  refine s_auto TY_ok rfl ?_
  refine s_nil0 b.B.heap.size 32 64 eP ?_
  refine s_seq fun K hK => ?_
  refine s_auto TY_ok rfl ?_
  refine s_block ?_
  let F : Nat × List PairT × Bool × Option Addr × Nat → Env := fun ⟨i, o, d, B, e⟩ => ⟨[(11, .v (.int .i64 (i : Int))), (10, .v (.int .i64 (l.length : Int))), (9, .v (.slice A l.length c)), (5, .v (.slice B o.length e)), (6, .v (.bool d)), (3, .a 3 0)], [⟨3, none, 32, [.agg 32 (By p.1).toArray, .agg 32 (By p.2).toArray]⟩], [OwnS b.B.heap.size 32 64 eP B e o], Rd 64 eP A c l, fun _ => True⟩
  refine c_weak (e' := F (0, [], false, none, 0)) ⟨⟨rfl, rfl, rfl, rfl, rfl, rfl, trivial⟩, ⟨rfl, rfl, trivial⟩, .refl _, fun _ h _ => h, fun _ _ => trivial⟩ (s_loop (fun x => l.length - x.1) F (fun x => x.1 ≤ l.length ∧ x.2.1.length ≤ x.1 + x.2.2.1.toNat ∧ finT x.2.1 x.2.2.1 (l.drop x.1) p = putT l p) ?_ (0, [], false, none, 0) ⟨Nat.zero_le _, Nat.zero_le _, rfl⟩)
  rintro ⟨i, o, d, B, e⟩ ⟨hi, ho, hf⟩
  dsimp only at hi ho hf
  have hd0 : d.toNat ≤ 1 := Bool.toNat_le d
  refine s_auto TY_ok rfl ?_
  refine s_seq fun K1 hK1 => ?_
  refine s_ifD ((i : Int) < (l.length : Int)) rfl (fun hlt => ?_) (fun hge => ?_)
  · have hlt : i < l.length := by omega
    obtain ⟨x, hx⟩ : ∃ x, l[i]? = some x := ⟨_, List.getElem?_eq_getElem hlt⟩
    have hx2 := hs x (List.mem_of_getElem? hx)
    have hdr : l.drop i = x :: l.drop (i + 1) := by
      rw [List.drop_eq_getElem_cons hlt]
      rw [List.getElem?_eq_getElem hlt] at hx
      injection hx with hx
      rw [hx]
    rw [hdr] at hf
    refine s_skip (hK1 _ ?_)
    refine s_seq fun K2 hK2 => ?_
    refine s_block ?_
    refine s_regA TY_ok rfl fun K3 hK3 => ?_
    refine l_elem TY_ok rfl rfl rfl i rfl hx rfl rfl (rd_fact fun _ h _ => h) ?_
    refine l_autoS TY_ok rfl ?_
    refine s_end (hK3 _ ?_)
    refine s_seq fun K4 hK4 => ?_
    have hpush : ∀ (o' : List PairT) (d' : Bool) (B' : Option Addr) (e' : Nat), o'.length ≤ i + d'.toNat → finT (o' ++ [x]) d' (l.drop (i + 1)) p = putT l p → ∀ en, Weak en ⟨[(11, .v (.int .i64 (i : Int))), (10, .v (.int .i64 (l.length : Int))), (9, .v (.slice A l.length c)), (5, .v (.slice B' o'.length e')), (6, .v (.bool d')), (3, .a 3 0), (8, .a 8 0)], [⟨8, none, 32, [.agg 32 (By x.1).toArray, .agg 32 (By x.2).toArray]⟩, ⟨3, none, 32, [.agg 32 (By p.1).toArray, .agg 32 (By p.2).toArray]⟩], [OwnS b.B.heap.size 32 64 eP B' e' o'], Rd 64 eP A c l, fun _ => True⟩ → kS b K4 46 en := by
      intro o' d' B' e' ho' hf' en hw
      have hd1 : d'.toNat ≤ 1 := Bool.toNat_le d'
      refine k_weak hw (hK4 _ ?_)
      refine s_lit ?_
      refine l_autoS TY_ok rfl ?_
      refine l_push TY_ok 0 x rfl rfl rfl rfl rfl rfl rfl (eP_ok hx2) (by decide) (by decide) (by show (_ + 1) * 64 ≤ _; omega) (by omega) (Nat.le_refl _) fun B2 e2 => ?_
      refine l_autoS TY_ok rfl ?_
      refine s_end (hK2 _ ?_)
      refine s_autoE TY_ok rfl ?_
      exact k_next (i + 1, o' ++ [x], d', B2, e2) ⟨hlt, by show (o' ++ [x]).length ≤ i + 1 + d'.toNat; rw [List.length_append, List.length_singleton]; omega, hf'⟩ (by show l.length - (i + 1) < l.length - i; omega) ⟨⟨congrArg some (congrArg SV.v (congrArg (Value.int .i64) (wrapI rfl (by omega) (by omega)))), rfl, rfl, rfl, rfl, rfl, trivial⟩, ⟨rfl, rfl, trivial⟩, .refl _, fun _ h _ => h, fun _ _ => trivial⟩
    cases d with
    | true =>
      rw [finT_done] at hf
      refine s_auto TY_ok rfl ?_
      refine s_no rfl ?_
      exact s_skip (hpush o true B e ho hf _ ⟨⟨rfl, rfl, rfl, rfl, rfl, rfl, rfl, trivial⟩, ⟨rfl, rfl, rfl, rfl, trivial⟩, .refl _, fun _ h _ => h, fun _ _ => trivial⟩)
    | false =>
      refine s_regA TY_ok rfl fun K5 hK5 => ?_
      refine l_call0 [.agg (By x.1).toArray, .agg (By p.1).toArray] rfl rfl rfl own_rless9 rfl rfl (fun _ _ => rfl) (rless_S hx2.1 hp.1) (fun _ _ _ => trivial) fun _ => ?_
      cases hls : lessT x.1 p.1 with
      | true =>
        rw [finT_less hls] at hf
        refine l_is 22 true rfl rfl ?_
        refine l_autoS TY_ok rfl ?_
        refine s_end (hK5 _ ?_)
        refine s_no rfl ?_
        exact s_skip (hpush o false B e ho hf _ ⟨⟨rfl, rfl, rfl, rfl, rfl, rfl, rfl, trivial⟩, ⟨rfl, rfl, rfl, rfl, trivial⟩, .refl _, fun _ h _ => h.2, fun _ _ => trivial⟩)
      | false =>
        refine l_is 22 false rfl rfl ?_
        refine l_autoS TY_ok rfl ?_
        refine s_end (hK5 _ ?_)
        refine s_yes rfl ?_
        refine s_seq fun K6 hK6 => ?_
        refine s_lit ?_
        refine l_autoS TY_ok rfl ?_
        refine l_push TY_ok 0 p rfl rfl rfl rfl rfl rfl rfl (eP_ok hp) (by decide) (by decide) (by show (_ + 1) * 64 ≤ _; omega) (by omega) (Nat.le_refl _) fun B2 e2 => ?_
        refine l_autoS TY_ok rfl ?_
        refine s_end (hK6 _ ?_)
        refine s_auto TY_ok rfl ?_
        refine s_regA TY_ok rfl fun K7 hK7 => ?_
        refine l_op (.b (decide (x.1 = p.1))) trivial rfl rfl rfl (run_eqY rfl rfl rfl Tryd.underlying30 (by kernel_rfl) hx2.1 hp.1) ?_
        refine l_autoS TY_ok rfl ?_
        refine s_end (hK7 _ ?_)
        refine s_ifD (x.1 = p.1) rfl (fun he => ?_) (fun hne => ?_)
        · rw [finT_same he] at hf
          refine s_exit (k_pass (k_out ?_))
          refine hK2 _ ?_
          refine s_autoE TY_ok rfl ?_
          exact k_next (i + 1, o ++ [p], true, B2, e2) ⟨hlt, by show (o ++ [p]).length ≤ i + 1 + 1; rw [List.length_append, List.length_singleton]; omega, hf⟩ (by show l.length - (i + 1) < l.length - i; omega) ⟨⟨congrArg some (congrArg SV.v (congrArg (Value.int .i64) (wrapI rfl (by omega) (by omega)))), rfl, rfl, rfl, rfl, rfl, trivial⟩, ⟨rfl, rfl, trivial⟩, .refl _, fun _ h _ => h.2, fun _ _ => trivial⟩
        · rw [finT_new hls hne] at hf
          have ho1 : o.length ≤ i := ho
          exact s_skip (hpush (o ++ [p]) true B2 e2 (by show (o ++ [p]).length ≤ i + 1; rw [List.length_append, List.length_singleton]; omega) hf _ ⟨⟨rfl, rfl, rfl, rfl, rfl, rfl, rfl, trivial⟩, ⟨rfl, rfl, rfl, rfl, trivial⟩, .refl _, fun _ h _ => h.2, fun _ _ => trivial⟩)
  · obtain rfl : i = l.length := by omega
    rw [List.drop_length] at hf
    refine s_exit (k_pass (k_pass (k_out ?_)))
    refine hK _ ?_
    cases d with
    | true =>
      have hf : o = putT l p := by simpa [finT] using hf
      subst hf
      refine s_seq fun Kc hKc => ?_
      refine s_auto TY_ok rfl ?_
      refine s_no rfl ?_
      refine s_skip (hKc _ ?_)
      refine s_auto TY_ok rfl ?_
      exact s_ret (k_freeM 0 rfl (Nat.le_refl _) (k_ret TY_ok (B, e) rfl (by decide) rfl rfl rfl (fun _ _ _ => trivial) (fun _ h => h.1)))
    | false =>
      have hf : o ++ [p] = putT l p := by simpa [finT, putT] using hf
      refine s_seq fun Kc hKc => ?_
      refine s_auto TY_ok rfl ?_
      refine s_yes rfl ?_
      refine s_lit ?_
      refine l_autoS TY_ok rfl ?_
      refine l_push TY_ok 0 p rfl rfl rfl rfl rfl rfl rfl (eP_ok hp) (by decide) (by decide) (by show (_ + 1) * 64 ≤ _; omega) (by omega) (Nat.le_refl _) fun B2 e2 => ?_
      rw [hf]
      refine l_autoS TY_ok rfl ?_
      refine s_end (hKc _ ?_)
      refine s_auto TY_ok rfl ?_
      exact s_ret (k_freeM 0 rfl (Nat.le_refl _) (k_ret TY_ok (B2, e2) rfl (by decide) rfl rfl rfl (fun _ _ _ => trivial) (fun _ h => h.1)))
end Go.Proofs.YtlaikmpnijlcbaaDoor
/-
  DRAWN REGIONS WITH MEMORY, over states: what only reads is taken as early as may be; what is left goes step by step.
-/
namespace Go.Proofs.YtlaikmpnijlcbaaDoor
open Go.RowKit Go.IntWalk

/-! ### Whatever order, from one world -/
section
variable {P : Program} {ops : Array Oper} {Q : Exit → Act → World → Prop} {Inv : World → Prop}
def wpAnyK (P : Program) (ops : Array Oper) (Q : Exit → Act → World → Prop) (Inv : World → Prop) (n m : Nat) : Nat → Array Bool → Act → World → Prop
  | 0, listed, a, w => (∀ j ∈ Region.ready .any ops listed, ∀ i, i < n → waitsT .any ops ops.size j i = true) ∧ wpAny P .any ops Q m listed a w
  | fuel + 1, listed, a, w => Region.ready .any ops listed ≠ [] ∧ ∀ i ∈ Region.ready .any ops listed, wpOp P ops Q i (fun a' w' => Inv w' ∧ wpAnyK P ops Q Inv n m fuel (listed.setIfInBounds i true) a' w') a w
theorem wpAny_of_K {n m : Nat} : ∀ (fuel : Nat) (listed : Array Bool) (a : Act) (w : World), wpAnyK P ops Q Inv n m fuel listed a w → wpAny P .any ops Q (m + fuel) listed a w
  | 0, _, _, _, h => h.2
  | fuel + 1, _, _, _, h => ⟨fun h0 => absurd h0 h.1, fun i hi => wpOp_mono (fun a' w' h' => wpAny_of_K fuel _ a' w' h'.2) (h.2 i hi)⟩
theorem still_wpOp {i : Nat} {oi : Oper} {v : Value} {K : Act → World → Prop} {a : Act} {w : World} (hi : ops[i]? = some oi) (hst : stillG oi.op = true) (hy : YieldsB P ops Inv oi (· = v) a) (hC : Inv w) (h : K (a.put oi.dst v) w) : wpOp P ops Q i K a w := by
  unfold Go.wpOp
  simp only [hi]
  rcases hy with ⟨hw, hv⟩ | ⟨hw, hv⟩
  · simp only [hw, if_true]
    refine .inl ?_
    have h3 := hv w hC
    unfold atB at h3
    unfold Oper.wp
    cases hr : (execOp a.eval oi).run P w with
    | ok n w' =>
      rw [hr] at h3
      rcases still_ok hst hr with ⟨u, rfl⟩ | rfl
      · simp only [uponB] at h3
        obtain ⟨e1, e2⟩ := h3
        subst e1 e2
        exact h
      · simp only [uponB] at h3
        obtain ⟨e1, e2⟩ := h3
        subst e1 e2
        exact h
    | halt x w' =>
      rw [hr] at h3
      simp only [uponB] at h3
  · simp only [hw, Bool.false_eq_true, if_false]
    rw [hv]
    exact h
theorem K_first {n m i : Nat} {oi : Oper} {v : Value} (hin : i < n) (hi : ops[i]? = some oi) (hst : stillG oi.op = true) (hsel : ∀ (j : Nat) (o : Oper) cs b, ops[j]? = some o → o.op ≠ .select cs b) (hQ : ∀ c a d v w, Q (.panic c) (a.put d v) w → Q (.panic c) a w) :
    ∀ (fuel : Nat) (listed : Array Bool) (a : Act) (w : World), Inv w → Closed .any ops listed →
      (∀ j oj, ops[j]? = some oj → j ≠ i → listed.getD j true = false → (∀ e ∈ oj.after, Region.binds .any e = true → e.on ≠ i) → oi.apart ops oj = true) →
      i ∈ Region.ready .any ops listed → YieldsB P ops Inv oi (· = v) a → wpAnyK P ops Q Inv n m fuel (listed.setIfInBounds i true) (a.put oi.dst v) w → wpAnyK P ops Q Inv n m (fuel + 1) listed a w := by
  intro fuel
  induction fuel with
  | zero =>
    intro listed a w hC hcs _ hr hy H
    refine ⟨fun h => (by rw [h] at hr; cases hr), fun j hj => ?_⟩
    by_cases hji : j = i
    · subst hji
      exact still_wpOp hi hst hy hC ⟨hC, H⟩
    · have h1 := H.1 j (ready_mono hj hji) i hin
      obtain ⟨_, oj, hoj, hall⟩ := mem_ready.1 hj
      have h6 := hcs.waits _ j i oj hoj hall h1
      rw [getD_ready hr] at h6
      cases h6
  | succ fuel ih =>
    intro listed a w hC hcs hfree hr hy H
    refine ⟨fun h => (by rw [h] at hr; cases hr), fun j hj => ?_⟩
    by_cases hji : j = i
    · subst hji
      exact still_wpOp hi hst hy hC ⟨hC, H⟩
    · obtain ⟨hjun, oj, hoj, hall⟩ := mem_ready.1 hj
      have hnot : ∀ e ∈ oj.after, Region.binds .any e = true → e.on ≠ i := fun e he hb heq => by
        have h1 := hall e he hb
        rw [heq, getD_ready hr] at h1
        cases h1
      have h2 := wpOp_putB (V := (· = v)) hoj (hfree j oj hoj hji hjun hnot) (fun cs b => hsel i oi cs b hi) (fun cs b => hsel j oj cs b hoj) ⟨v, rfl⟩ (.inr ⟨v, fun _ h => h⟩) hQ hy (fun u hu => by
        subst hu
        exact H.2 j (ready_mono hj hji))
      have hun' : ∀ k, (listed.setIfInBounds j true).getD k true = false → listed.getD k true = false := fun k hun => by
        by_cases hjk : j = k
        · subst hjk; exact hjun
        · rw [getD_set_ne true hjk] at hun; exact hun
      refine wpOp_mono (fun a' w' h3 => ?_) h2
      obtain ⟨hy', h4⟩ := h3
      obtain ⟨hC', h5⟩ := h4 v rfl
      refine ⟨hC', ih (listed.setIfInBounds j true) a' w' hC' (hcs.set hj) (fun k ok hk hki hun hno => hfree k ok hk hki (hun' k hun) hno) (ready_mono hr (Ne.symm hji)) hy' ?_⟩
      rw [Array.setIfInBounds_comm _ _ hji]
      exact h5
theorem upon_then {o : Oper} {a : Act} {K next : Act → World → Prop} (r : Result Next) (h : o.upon P a next (Exit.then K Q) r) : o.upon P a next Q r := by
  cases r with
  | ok n w' => cases n <;> exact h
  | halt x w' => cases x <;> exact h
theorem wpOp_of_list {i : Nat} {o : Oper} {K : Act → World → Prop} {a : Act} {w : World} (hi : ops[i]? = some o) (h : wpList P ops (Exit.then K Q) [o] a w) : wpOp P ops Q i K a w := by
  unfold Go.wpOp
  simp only [hi]
  unfold wpList at h
  split
  · rename_i hw
    rw [if_pos hw] at h
    refine h.imp (fun h => ?_) id
    exact Oper.wp_mono (fun a' w' h' => h') (upon_then _ h)
  · rename_i hw
    rw [if_neg hw] at h
    exact h
end
/-! ### Over states -/
/-- What the variables L hold, where they lie. -/
def InvL (L : List LV) (w : World) : Prop := ∀ x ∈ L, ∃ g, x.g = some g ∧ Blk w g x.t (catP x.ps)
def aS (P : Program) (b : Base) (Q : Exit → Act → World → Prop) (N : Nat) (ops : Array Oper) (Inv : World → Prop) (n m fuel : Nat) (listed : Array Bool) (e : Env) : Prop := Closed .any ops listed → ∀ a w, St b N e a w → Inv w → wpAnyK P ops (NoPanic Q) Inv n m fuel listed a w
/-- May it be taken here, ahead of all that is left? -/
def frontB (ops : Array Oper) (n i : Nat) (listed : Array Bool) : Bool := decide (i < n) && (Region.ready .any ops listed).contains i && Region.free .any ops listed i && Region.noSelect ops
section
variable {P : Program} {T : List TyR} {b : Base} {ops : Array Oper} {Q : Exit → Act → World → Prop} {N n m fuel : Nat} {listed : Array Bool} {E : SE} {L L0 : List LV} {R : List Res} {F M : World → Prop} {Inv : World → Prop} {e : Env}
theorem panic_put : ∀ c (a : Act) d v w, NoPanic Q (.panic c) (a.put d v) w → NoPanic Q (.panic c) a w := fun _ _ _ _ _ h => h
/-- A step that only reads is taken first. -/
theorem a_front {o : Oper} {k : Nat} {v : SV} (hT : OkT P T) (i : Nat) (hc : frontB ops n i listed = true) (ho : ops[i]? = some o) (hg : o.guard = none) (hd : o.dst = some k) (hk : Nat.blt k N = true) (hs : stillG o.op = true) (hv : stepS T E L0 o.op = some v) (hsub : ∀ x ∈ L0, x ∈ L)
    (hn : aS P b Q N ops (InvL L0) n m fuel (listed.setIfInBounds i true) ⟨(k, v) :: E, L, R, F, M⟩) : aS P b Q N ops (InvL L0) n m (fuel + 1) listed ⟨E, L, R, F, M⟩ := fun hcs a w hst hI => by
  obtain ⟨G, S, h1, h2, h3⟩ := hst
  simp only [frontB, Bool.and_eq_true, decide_eq_true_eq] at hc
  obtain ⟨⟨⟨hin, hr⟩, hfr⟩, hsel⟩ := hc
  have hr' : i ∈ Region.ready .any ops listed := by simpa using hr
  obtain ⟨h4, h5⟩ := stepS_ok hT h2 (fun x hx => (h3.var x (hsub x hx)).2.1) hv
  have h6 := hn (hcs.set hr') (a.put (some k) (v.den G)) w ⟨G, S, h1.put hk _, h2.cons h4, h3⟩ hI
  refine K_first hin ho hs (Region.noSelect_spec hsel) panic_put fuel listed a w hI hcs (Region.free_spec ho hfr) hr' (v := v.den G) (.inl ⟨by simp [Region.wanted, hg], fun w' hw' => ?_⟩) (by rw [hd]; exact h6)
  unfold atB
  rw [h5 h1 fun x hx => by
    obtain ⟨g, e1, e2⟩ := hw' x hx
    rw [(h3.var x (hsub x hx)).2.2 g e1]
    exact e2]
  exact ⟨rfl, rfl⟩
/-- A step whose value hangs on the frame alone is taken first. -/
theorem a_frontO {o : Oper} {k : Nat} (v : SV) (hvo : v.Ok) (i : Nat) (hc : frontB ops n i listed = true) (ho : ops[i]? = some o) (hg : o.guard = none) (hd : o.dst = some k) (hk : Nat.blt k N = true) (hs : stillG o.op = true) (hv : ∀ (G : Nat → Nat) (a : Act) (w : World), Fr N (denE G E) a → (execOp a.eval o).run P w = .ok (.value (v.den G)) w)
    (hn : aS P b Q N ops Inv n m fuel (listed.setIfInBounds i true) ⟨(k, v) :: E, L, R, F, M⟩) : aS P b Q N ops Inv n m (fuel + 1) listed ⟨E, L, R, F, M⟩ := fun hcs a w hst hI => by
  obtain ⟨G, S, h1, h2, h3⟩ := hst
  simp only [frontB, Bool.and_eq_true, decide_eq_true_eq] at hc
  obtain ⟨⟨⟨hin, hr⟩, hfr⟩, hsel⟩ := hc
  have hr' : i ∈ Region.ready .any ops listed := by simpa using hr
  have h6 := hn (hcs.set hr') (a.put (some k) (v.den G)) w ⟨G, S, h1.put hk _, h2.cons hvo, h3⟩ hI
  refine K_first hin ho hs (Region.noSelect_spec hsel) panic_put fuel listed a w hI hcs (Region.free_spec ho hfr) hr' (v := v.den G) (.inl ⟨by simp [Region.wanted, hg], fun w' _ => ?_⟩) (by rw [hd]; exact h6)
  unfold atB
  rw [hv G a w' h1]
  exact ⟨rfl, rfl⟩
theorem a_weak {e' : Env} (hw : Weak e e') (h : aS P b Q N ops Inv n m fuel listed e') : aS P b Q N ops Inv n m fuel listed e := fun hcs a w hst hI => h hcs a w (hst.weak hw) hI
/-- The only one that may come next. -/
theorem a_step {o : Oper} (i : Nat) (hr : Region.ready .any ops listed = [i]) (ho : ops[i]? = some o) (h : ∀ K : Act → World → Prop, (∀ e', (∀ a w, St b N e' a w → Inv w) → aS P b Q N ops Inv n m fuel (listed.setIfInBounds i true) e' → kS b K N e') → lS P b ops (Exit.then K (NoPanic Q)) N [o] e) : aS P b Q N ops Inv n m (fuel + 1) listed e := fun hcs a w hst _ =>
  ⟨by rw [hr]; simp, fun j hj => by
    rw [hr, List.mem_singleton] at hj
    subst hj
    have hcs' := hcs.set (i := j) (by rw [hr]; simp)
    exact wpOp_of_list ho (h (fun a' w' => Inv w' ∧ wpAnyK P ops (NoPanic Q) Inv n m fuel (listed.setIfInBounds j true) a' w') (fun e' hI' ha a' w' hs' => ⟨hI' a' w' hs', ha hcs' a' w' hs' (hI' a' w' hs')⟩) a w hst)⟩
/-- Either of two may come next. -/
theorem a_step2 {o o' : Oper} (i i' : Nat) (hr : Region.ready .any ops listed = [i, i']) (ho : ops[i]? = some o) (ho' : ops[i']? = some o')
    (h : ∀ K : Act → World → Prop, (∀ e', (∀ a w, St b N e' a w → Inv w) → aS P b Q N ops Inv n m fuel (listed.setIfInBounds i true) e' → kS b K N e') → lS P b ops (Exit.then K (NoPanic Q)) N [o] e)
    (h' : ∀ K : Act → World → Prop, (∀ e', (∀ a w, St b N e' a w → Inv w) → aS P b Q N ops Inv n m fuel (listed.setIfInBounds i' true) e' → kS b K N e') → lS P b ops (Exit.then K (NoPanic Q)) N [o'] e) : aS P b Q N ops Inv n m (fuel + 1) listed e := fun hcs a w hst _ =>
  ⟨by rw [hr]; simp, fun j hj => by
    rw [hr] at hj
    have key : ∀ (i : Nat) (o : Oper), i ∈ Region.ready .any ops listed → ops[i]? = some o → (∀ K : Act → World → Prop, (∀ e', (∀ a w, St b N e' a w → Inv w) → aS P b Q N ops Inv n m fuel (listed.setIfInBounds i true) e' → kS b K N e') → lS P b ops (Exit.then K (NoPanic Q)) N [o] e) → wpOp P ops (NoPanic Q) i (fun a' w' => Inv w' ∧ wpAnyK P ops (NoPanic Q) Inv n m fuel (listed.setIfInBounds i true) a' w') a w := fun i o hi ho h =>
      wpOp_of_list ho (h (fun a' w' => Inv w' ∧ wpAnyK P ops (NoPanic Q) Inv n m fuel (listed.setIfInBounds i true) a' w') (fun e' hI' ha a' w' hs' => ⟨hI' a' w' hs', ha (hcs.set hi) a' w' hs' (hI' a' w' hs')⟩) a w hst)
    rcases List.mem_cons.1 hj with rfl | hj
    · exact key _ o (by rw [hr]; simp) ho h
    · rw [List.mem_singleton] at hj
      subst hj
      exact key _ o' (by rw [hr]; simp) ho' h'⟩
/-- The rest is forced. -/
theorem a_tail {l : List Oper} (hB : (sinksB .any l.toArray n listed && forcedB .any l.toArray (l.drop n).length n listed) = true) (h : lS P b l.toArray (NoPanic Q) N (l.drop n) e) : aS P b Q N l.toArray Inv n (l.drop n).length 0 listed e := fun _ a w hst _ => by
  simp only [Bool.and_eq_true] at hB
  exact ⟨fun j hj i hi => List.all_eq_true.1 (List.all_eq_true.1 hB.1 j hj) i (List.mem_range.2 hi), wpAny_forced (l.drop n) n listed a w (fun j _ => by simp [List.getElem?_drop]) hB.2 (h a w hst)⟩
theorem inv_of {E' : SE} {L' : List LV} {R' : List Res} {F' M' : World → Prop} (hsub : ∀ x ∈ L0, x ∈ L' ∧ x.g.isSome = true) : ∀ a w, St b N ⟨E', L', R', F', M'⟩ a w → InvL L0 w := fun a w ⟨G, S, _, _, h3⟩ x hx => by
  obtain ⟨h1, h2⟩ := hsub x hx
  obtain ⟨g, hg⟩ := Option.isSome_iff_exists.1 h2
  have h4 := h3.var x h1
  refine ⟨g, hg, ?_⟩
  rw [← h4.2.2 g hg]
  exact h4.1
theorem StW.drew {G : Nat → Nat} {S : Nat → Prop} {w : World} (h : StW b G S L R F M w) : StW b G S L R F M w.drew := h.later (Up.drew w)
/-- A drawn region. -/
theorem s_any {l : List Oper} {id : Nat} (n : Nat) (L0 : List LV) (hm : P.follows .mixedOrders = true) (hn : n ≤ l.length) (h0 : ∀ a w, St b N e a w → InvL L0 w) (h : aS P b Q N l.toArray (InvL L0) n (l.drop n).length n (Array.replicate l.toArray.size false) e) : cS P b (.region id l.toArray true) Q N e := fun a w hst => by
  refine wp_region_noPanic (wp_region_any hm ?_)
  obtain ⟨G, S, h1, h2, h3⟩ := hst
  have hd : St b N e a w.drew := ⟨G, S, h1, h2, h3.drew⟩
  have h4 := wpAny_of_K n _ a w.drew (h (Closed.none _) a w.drew hd (h0 a _ hd))
  have e1 : (l.drop n).length + n = l.toArray.size := by simp; omega
  rw [e1] at h4
  exact h4
/-- A slice of all of a variable's row. -/
theorem runO_all {N : Nat} {E : SE} {o : Oper} {x : Operand} {t e : TypeId} {j off n sz : Nat} (ho : o.op = .slice t x none none none) (ht : P.underlying t = some (.array n e)) (he : (P.info? e).map (·.size) = some sz) (hx : evS E x = some (.a j off)) :
    ∀ (G : Nat → Nat) (a : Act) (w : World), Fr N (denE G E) a → (execOp a.eval o).run P w = .ok (.value ((SV.s j off n n).den G)) w := fun G a w ha => by
  have h1 : a.eval x = .pointer (some ⟨G j, off, none⟩) := ha.eval (evS_ok hx)
  have h5 := run_sizeOf he w
  unfold execOp
  simp only [ho]
  generalize a.eval = ρ at *
  simp only [Option.map, h1]
  show _ = Result.ok (Next.value (.slice (some ⟨G j, off, none⟩) n n)) w
  simp [Instr.sliceAt, Instr.sureAddr, run_underlying ht, Instr.sliceBounds, h5, Sem.run_bind, Addr.add_mid]
theorem putL_same : ∀ {L : List LV} {j : Nat} {ps : List Pt}, lookL L j = some ps → putL L j ps = L
  | [], _, _, h => by cases h
  | x :: L, j, ps, h => by
    unfold lookL at h
    unfold putL
    split at h
    · injection h with h
      subst h
      rfl
    · exact congrArg (x :: ·) (putL_same h)
/-- copy(v[:], s), v a variable. -/
theorem l_copyV {o : Oper} {rest : List Oper} {d s : Operand} {k j n' c : Nat} {A : Option Addr} {z l : List UInt8} (hg : o.guard = none) (hd : o.dst = some k) (hk : Nat.blt k N = true) (ho : o.op = .call { callee := .builtin .copy, args := #[d, s], argTypes := #[45, 45] })
    (hx : evS E d = some (.s j 0 n' n')) (hy : evS E s = some (.v (.slice A l.length c))) (hl : lookL L j = some [.agg n' (By z).toArray]) (hz : z.length = n') (hle : l.length ≤ n') (hrd : ∀ G S w, View G S L R F M w → Rd 1 eB A c l w)
    (hn : lS Tryd.prog b ops Q N rest ⟨(k, .v (.int .i64 (l.length : Int))) :: E, putL L j [.agg n' (By (l ++ z.drop l.length)).toArray], R, F, M⟩) : lS Tryd.prog b ops Q N (o :: rest) ⟨E, L, R, F, M⟩ := fun a w ⟨G, S, h1, h2, h3⟩ => by
  have hR := hrd G S w h3.view
  have e1 : a.eval d = .slice (some ⟨G j, 0, none⟩) n' n' := h1.eval (evS_ok hx)
  have e2 : a.eval s = .slice A l.length c := h1.eval (evS_ok hy)
  by_cases h0 : l.length = 0
  · obtain rfl := List.eq_nil_of_length_eq_zero h0
    rw [putL_same (by rw [hl]; rfl)] at hn
    refine wpList_copy_nothing hg d s 45 45 ho 5 Tryd.underlying45 size_u8 _ _ _ _ _ _ e1 e2 (Nat.zero_min _) ?_
    rw [hd]
    exact hn _ w ⟨G, S, h1.put hk _, h2.cons trivial, h3⟩
  · obtain ⟨bb, oo, rfl, _, hcell⟩ := hR.2.2.2.2 (by omega)
    obtain ⟨u, hu, rfl, hps⟩ := lookL_mem hl
    have hb := h3.at u hu
    rw [hps] at hb
    have hok : OkP [Pt.agg n' (By (l ++ z.drop l.length)).toArray] := fun p hp => by
      rw [List.mem_singleton.1 hp]
      exact ⟨by rw [List.size_toArray, By_len, List.length_append, List.length_drop]; omega, By_one _⟩
    refine wpList_copy_own hg d s 45 45 ho 5 Tryd.underlying45 size_u8 (G u.j) 0 n' n' ⟨bb, oo, none⟩ l.length c e1 e2 (By z).toArray u.t hb (By l) (by rw [By_len]; exact (Nat.min_eq_left hle).symm) ?_ (by rw [By_len, List.size_toArray, By_len]; omega) (By_one l) ?_
    · intro i v hv
      obtain ⟨x, hx1, rfl⟩ := By_at hv
      have := hcell i x hx1 0 (.int .u8 (x.toNat : Int)) rfl
      rw [Addr.add_mid]
      simpa using this
    · have e : (By z).toArray.toList.take 0 ++ (By l ++ (By z).toArray.toList.drop (0 + (By l).length)) = By (l ++ z.drop l.length) := by
        simp [By]
      rw [e, hd, By_len]
      exact hn _ _ ⟨G, S, h1.put hk _, h2.cons trivial, h3.set (lookL_name hl) hok⟩
/-- The variables, with where they lie. -/
def withG (G : Nat → Nat) : List LV → List LV
  | [] => []
  | x :: L => { x with g := some (G x.j) } :: withG G L
theorem withG_names (G : Nat → Nat) : ∀ L : List LV, namesL (withG G L) = namesL L
  | [] => rfl
  | x :: L => congrArg (x.j :: ·) (withG_names G L)
theorem withG_mem {G : Nat → Nat} : ∀ {L : List LV} {x : LV}, x ∈ withG G L → ∃ y ∈ L, x = { y with g := some (G y.j) }
  | [], _, h => by cases h
  | y :: L, x, h => by
    rcases List.mem_cons.1 h with rfl | h
    · exact ⟨y, List.mem_cons_self, rfl⟩
    · obtain ⟨z, hz, e⟩ := withG_mem h
      exact ⟨z, List.mem_cons_of_mem _ hz, e⟩
theorem s_locs {c : Code} (h : ∀ G : Nat → Nat, cS P b c Q N ⟨E, withG G L, R, F, M⟩) : cS P b c Q N ⟨E, L, R, F, M⟩ := fun a w ⟨G, S, h1, h2, h3⟩ => by
  have hM : ∀ k, Mine S G (withG G L) k ↔ Mine S G L k := fun k => by unfold Mine; rw [withG_names]
  refine h G a w ⟨G, S, h1, h2, ⟨fun x hx => ?_, by rw [withG_names]; exact h3.apart, h3.res, by rw [withG_names]; exact h3.sep, h3.fact.less fun k _ hk => hk.imp id (hM k).1, h3.fresh.less fun k _ hk => hk.imp id (hM k).1, h3.chg, fun k hk => h3.mine k ((hM k).1 hk), h3.old⟩⟩
  obtain ⟨y, hy, rfl⟩ := withG_mem hx
  exact ⟨(h3.var y hy).1, (h3.var y hy).2.1, fun g hg => Option.some.inj hg⟩
/-- Where a variable lies is told no more. -/
def noG : List LV → List LV
  | [] => []
  | x :: L => { x with g := none } :: noG L
theorem noG_names : ∀ L : List LV, namesL (noG L) = namesL L
  | [] => rfl
  | x :: L => congrArg (x.j :: ·) (noG_names L)
theorem noG_mem : ∀ {L : List LV} {x : LV}, x ∈ noG L → ∃ y ∈ L, x = { y with g := none }
  | [], _, h => by cases h
  | y :: L, x, h => by
    rcases List.mem_cons.1 h with rfl | h
    · exact ⟨y, List.mem_cons_self, rfl⟩
    · obtain ⟨z, hz, e⟩ := noG_mem h
      exact ⟨z, List.mem_cons_of_mem _ hz, e⟩
theorem k_noloc {K : Act → World → Prop} (h : kS b K N ⟨E, noG L, R, F, M⟩) : kS b K N ⟨E, L, R, F, M⟩ := fun a w ⟨G, S, h1, h2, h3⟩ => by
  have hM : ∀ k, Mine S G (noG L) k ↔ Mine S G L k := fun k => by unfold Mine; rw [noG_names]
  refine h a w ⟨G, S, h1, h2, ⟨fun x hx => ?_, by rw [noG_names]; exact h3.apart, h3.res, by rw [noG_names]; exact h3.sep, h3.fact.less fun k _ hk => hk.imp id (hM k).1, h3.fresh.less fun k _ hk => hk.imp id (hM k).1, h3.chg, fun k hk => h3.mine k ((hM k).1 hk), h3.old⟩⟩
  obtain ⟨y, hy, rfl⟩ := noG_mem hx
  exact ⟨(h3.var y hy).1, (h3.var y hy).2.1, fun g hg => by cases hg⟩
end
end Go.Proofs.YtlaikmpnijlcbaaDoor
/-
  DIGESTS OF PARTS, over states: a slice of slices and the call that reads it.
-/
namespace Go.Proofs.YtlaikmpnijlcbaaDoor
open Go.RowKit Go.IntWalk

theorem flat_cells : ∀ {vs : List Value}, (∀ v ∈ vs, v.cells = #[v]) → (vs.flatMap fun v => v.cells.toList) = vs
  | [], _ => rfl
  | v :: vs, h => by
    rw [List.flatMap_cons, h v List.mem_cons_self, flat_cells fun u hu => h u (List.mem_cons_of_mem _ hu)]
    rfl
section
variable {T : List TyR} {b : Base} {ops : Array Oper} {Q : Exit → Act → World → Prop} {N : Nat} {E : SE} {L : List LV} {R : List Res} {F M : World → Prop} {o1 o2 : Oper} {rest : List Oper} {k1 k2 bs e : Nat}
/-- The parts' slice is built, and handed to a call that answers the row r. -/
theorem l_dig {f : FuncId} {n m t : Nat} {parts : Array (Nat × Operand)} {ats : Array TypeId} (hT : OkT Tryd.prog T) (vs : List SV) (ls : List (List UInt8)) (r : List UInt8) (hg1 : o1.guard = none) (hg2 : o2.guard = none) (hd1 : o1.dst = some k1) (hd2 : o2.dst = some k2) (hk1 : Nat.blt k1 N = true) (hk2 : Nat.blt k2 N = true)
    (ho1 : o1.op = .buildSlice t n parts) (ho2 : o2.op = .call { callee := .value (.func f), args := #[.tmp k1], argTypes := ats }) (hs : slS T t = some (e, 1, bs)) (hf : Own f)
    (hp : ∀ G : Nat → Nat, parts.toList.map (fun p => (p.1, (evS E p.2).map (SV.den G))) = ((vs.map (SV.den G)).zipIdx 0).map fun x => (x.2, some x.1)) (hn : vs.length = n) (h0 : 0 < n) (h24 : n ≤ 16777216) (hr : r.length = m)
    (hc : ∀ A w, PT w A ls → F w → M w → Calls Tryd.prog f #[.slice A n n] w fun e w' => e = .returned (.agg (By r).toArray) ∧ Below w.heap.size w w')
    (hrd : ∀ G S w, View G S L R F M w → All2 w (vs.map (SV.den G)) ls)
    (hnx : ∀ A, lS Tryd.prog b ops Q N rest ⟨(k2, .q (eY m r)) :: (k1, .v (.slice A n n)) :: E, L, R, F, M⟩) : lS Tryd.prog b ops Q N (o1 :: o2 :: rest) ⟨E, L, R, F, M⟩ := fun a w ⟨G, S, h1, h2, h3⟩ => by
  have hA := hrd G S w h3.view
  obtain ⟨ht, ie, z, hi, hz, hsz, hbs, hzs, _⟩ := slS_ok hT hs
  have hrun := run_lit (P := Tryd.prog) ht hi hz hsz (vs.map (SV.den G)) n (parts.map fun (i, x) => (i, a.eval x)) (by rw [Array.toList_map]; exact map_parts h1 _ _ (hp G)) (by rw [List.length_map, hn]) (by omega) (by omega) (fun v hv => by
    rw [(hA.one v hv).1]
    rfl) w
  rw [flat_cells fun v hv => (hA.one v hv).1] at hrun
  have hal := (Below.refl w.heap.size w).alloc (Nat.le_refl _) (.cells (vs.map (SV.den G)).toArray e)
  have hPT : PT (w.alloc (.cells (vs.map (SV.den G)).toArray e)) (some ⟨w.heap.size, 0, none⟩) ls := pt_of (Blk.new w e (vs.map (SV.den G)).toArray) (fun j v hj => by simpa using hj) (All2.later hal hA)
  have h4 := h3.later hal
  have h5 := h1.put hk1 (.slice (some ⟨w.heap.size, 0, none⟩) n n)
  refine wpl_go (v := .slice (some ⟨w.heap.size, 0, none⟩) n n) (w' := w.alloc (.cells (vs.map (SV.den G)).toArray e)) (oneS hg1) (by
    unfold execOp
    simp only [ho1, Sem.run_bind, hrun, Result.andThen_ok, Sem.run_pure]) ?_
  rw [hd1]
  have hr2 := call_run (E := (k1, .v (.slice (some ⟨w.heap.size, 0, none⟩) n n)) :: E) (svs := [.v (.slice (some ⟨w.heap.size, 0, none⟩) n n)]) (w := w.alloc (.cells (vs.map (SV.den G)).toArray e)) hf ho2 (by simp [evSs, evS, lookS]) h5
  unfold wpList
  rw [if_pos (by simp [Region.wanted, hg2])]
  refine .inl ?_
  unfold Oper.wp
  rw [hr2]
  simp only [Oper.upon, hd2]
  refine (hc _ _ hPT h4.view.fact h4.view.fresh).mono ?_
  rintro e' w' ⟨rfl, hb⟩
  have h6 : OkE ((k1, .v (.slice (some ⟨w.heap.size, 0, none⟩) n n)) :: E) := h2.cons trivial
  exact hnx (some ⟨w.heap.size, 0, none⟩) _ w' ⟨G, S, h5.put hk2 _, h6.cons (v := .q (eY m r)) (eY_ok hr).1, h4.later hb⟩
/-- The whole of a variable's row. -/
theorem sb_var {j n : Nat} {l : List UInt8} (hj : lookL L j = some [.agg n (By l).toArray]) (hl : l.length = n) (hm : n ≤ 9223372036854775807) : ∀ G S w, View G S L R F M w → SB w ((SV.s j 0 n n).den G) l := fun G S w hv => by
  obtain ⟨z, hz, rfl, hps⟩ := lookL_mem hj
  have hb := (hv.var z hz).1
  rw [hps] at hb
  exact SB.all hb hl hm
end
end Go.Proofs.YtlaikmpnijlcbaaDoor
/-
  BYTES OF A NUMBER, ONE BY ONE.
-/
namespace Go.Proofs.YtlaikmpnijlcbaaDoor
open Go.RowKit Go.IntWalk

theorem bytes_get : ∀ (k v : Nat) {m : Nat}, m < k → ((Nums.bytes k v)[m]!).toNat = v / 256 ^ m % 256
  | k + 1, v, 0, _ => by
    show (UInt8.ofNat v).toNat = v / 1 % 256
    rw [UInt8.toNat_ofNat', Nat.div_one]
  | k + 1, v, m + 1, h => by
    have ih := bytes_get k (v / 256) (m := m) (by omega)
    show ((Nums.bytes k (v / 256))[m]!).toNat = v / 256 ^ (m + 1) % 256
    rw [ih, Nat.div_div_eq_div_mul, Nat.pow_succ, Nat.mul_comm 256]

end Go.Proofs.YtlaikmpnijlcbaaDoor
/-
  THE DOCUMENT'S OWN DIGESTS: turn, three, cut.
-/
namespace Go.Proofs.YtlaikmpnijlcbaaDoor
open Go.RowKit Go.IntWalk Nums

theorem rot_sum (w n x : Nat) (hn : n ≤ w) (hx : x < 2 ^ w) : x * 2 ^ (w - n) % 2 ^ w = x % 2 ^ n * 2 ^ (w - n) ∧ x / 2 ^ n < 2 ^ (w - n) := by
  have e : (2 : Nat) ^ w = 2 ^ n * 2 ^ (w - n) := by rw [← Nat.pow_add, Nat.add_sub_cancel' hn]
  refine ⟨?_, Nat.div_lt_of_lt_mul (by rw [← e]; exact hx)⟩
  rw [e, Nat.mul_mod_mul_right]

theorem rot_mod32 (x n : Nat) (hx : x < 4294967296) (hn : n < 32) : (x * 2 ^ (32 - n) + x / 2 ^ n) % 4294967296 = rotw 32 n x := by
  obtain ⟨e1, e2⟩ := rot_sum 32 n x (by omega) hx
  have h4 : x % 2 ^ n + 1 ≤ 2 ^ n := Nat.mod_lt _ (Nat.two_pow_pos n)
  have h5 := Nat.mul_le_mul_right (2 ^ (32 - n)) h4
  have h6 : (2 : Nat) ^ n * 2 ^ (32 - n) = 4294967296 := by
    rw [← Nat.pow_add, Nat.add_sub_cancel' (show n ≤ 32 by omega)]
  rw [h6, Nat.add_mul, Nat.one_mul] at h5
  rw [show (2 : Nat) ^ 32 = 4294967296 from rfl] at e1
  unfold rotw
  generalize x / 2 ^ n = d at *
  generalize x * 2 ^ (32 - n) = y at *
  generalize x % 2 ^ n * 2 ^ (32 - n) = z at *
  generalize (2 : Nat) ^ (32 - n) = c at *
  omega

set_option maxRecDepth 100000 in
set_option maxHeartbeats 1000000 in
theorem rturn64_f (x n : Nat) (hx : x < 18446744073709551616) (hn : n < 64) (w : World) :
    Calls Tryd.prog 56 #[.int .u64 (x : Int), .int .u64 (n : Int), .int .u64 64] w fun e w' => e = .returned (.int .u64 ((rotw 64 n x : Nat) : Int)) ∧ w' = w := by
  obtain ⟨e1, e2⟩ := rot_sum 64 n x (by omega) hx
  have q3 : IntKind.u64.wrap ((x : Int) * 2 ^ (64 - n)) = ((x % 2 ^ n * 2 ^ (64 - n) : Nat) : Int) := by
    rw [← e1, IntKind.wrap_u64]
    simp
  have q4 : IntKind.u64.wrap (64 - (n : Int)) = ((64 - n : Nat) : Int) := by
    rw [IntKind.wrap_u64]
    omega
  have f1 : ((x : Int) / 2 ^ n) = ((x / 2 ^ n : Nat) : Int) := by simp
  have hm : x % 2 ^ n * 2 ^ (64 - n) < 18446744073709551616 := by
    rw [← e1]
    exact Nat.mod_lt _ (by decide)
  have hd : x / 2 ^ n < 18446744073709551616 := Nat.lt_of_le_of_lt (Nat.div_le_self _ _) hx
  have q5 : bits .or .u64 ((x / 2 ^ n : Nat) : Int) ((x % 2 ^ n * 2 ^ (64 - n) : Nat) : Int) = ((rotw 64 n x : Nat) : Int) := by
    rw [u64_or_nat _ _ hd hm, Nat.or_comm, nat_join (64 - n) _ _ (Nat.mul_mod_left _ _) e2]
    unfold rotw
    rw [Nat.add_comm]
  have g1 : ((64 - n : Nat) : Int) ≤ 64 := by omega
  have g2 : (n : Int) ≤ 64 := by omega
  clear e1 e2 hm hd
  generalize rotw 64 n x = r at *
  generalize x % 2 ^ n * 2 ^ (64 - n) = m at *
  generalize x / 2 ^ n = d at *
  generalize hs : 64 - n = s at *
  clear hs
  go_enter Tryd.func56, Tryd.ntmps56
  go_wp2
  go_ret
  exact ⟨rfl, rfl⟩

set_option maxRecDepth 100000 in
set_option maxHeartbeats 1000000 in
theorem rturn32_f (x n : Nat) (hx : x < 4294967296) (hn : n < 32) (w : World) :
    Calls Tryd.prog 56 #[.int .u64 (x : Int), .int .u64 (n : Int), .int .u64 32] w fun e w' => e = .returned (.int .u64 ((rotw 32 n x : Nat) : Int)) ∧ w' = w := by
  obtain ⟨e1, e2⟩ := rot_sum 32 n x (by omega) hx
  have hp : (2 : Nat) ^ (32 - n) ≤ 2 ^ 32 := Nat.pow_le_pow_right (by decide) (by omega)
  have hb : x * 2 ^ (32 - n) < 18446744073709551616 := by
    have h1 := Nat.mul_le_mul (show x ≤ 4294967295 by omega) hp
    have : (4294967295 : Nat) * 2 ^ 32 < 18446744073709551616 := by decide
    omega
  have q3 : IntKind.u64.wrap ((x : Int) * 2 ^ (32 - n)) = ((x * 2 ^ (32 - n) : Nat) : Int) := by
    rw [show ((x : Int) * 2 ^ (32 - n)) = ((x * 2 ^ (32 - n) : Nat) : Int) by simp]
    exact wrapN _ hb
  have q4 : IntKind.u64.wrap (32 - (n : Int)) = ((32 - n : Nat) : Int) := by
    rw [IntKind.wrap_u64]
    omega
  have f1 : ((x : Int) / 2 ^ n) = ((x / 2 ^ n : Nat) : Int) := by simp
  have hd : x / 2 ^ n < 18446744073709551616 := Nat.lt_of_le_of_lt (Nat.div_le_self _ _) (by omega)
  have q5 : bits .or .u64 ((x / 2 ^ n : Nat) : Int) ((x * 2 ^ (32 - n) : Nat) : Int) = ((x * 2 ^ (32 - n) + x / 2 ^ n : Nat) : Int) := by
    rw [u64_or_nat _ _ hd hb, Nat.or_comm, nat_join (32 - n) _ _ (Nat.mul_mod_left _ _) e2]
  have q6 := rot_mod32 x n hx hn
  have q7 : ((x * 2 ^ (32 - n) + x / 2 ^ n : Nat) : Int).tmod 4294967296 = ((rotw 32 n x : Nat) : Int) := by
    rw [← q6]
    rfl
  have g1 : ((32 - n : Nat) : Int) ≤ 64 := by omega
  have g2 : (n : Int) ≤ 64 := by omega
  clear e1 e2 hb hd q6 hp
  generalize rotw 32 n x = r at *
  generalize x * 2 ^ (32 - n) + x / 2 ^ n = y at *
  generalize x * 2 ^ (32 - n) = m at *
  generalize x / 2 ^ n = d at *
  generalize hs : 32 - n = s at *
  clear hs
  go_enter Tryd.func56, Tryd.ntmps56
  go_wp2
  go_ret
  exact ⟨rfl, rfl⟩

theorem own_rturn : Own 56 := fun _ _ => by go_simp
theorem own_rthree : Own 51 := fun _ _ => by go_simp
theorem own_rcut : Own 50 := fun _ _ => by go_simp
theorem own_rcube : Own 52 := fun _ _ => by go_simp
theorem own_rsquare : Own 49 := fun _ _ => by go_simp

set_option maxRecDepth 100000 in
set_option maxHeartbeats 1000000 in
theorem rcut64_f (x : Nat) (w : World) : Calls Tryd.prog 50 #[.int .u64 (x : Int), .int .u64 64] w fun e w' => e = .returned (.int .u64 (x : Int)) ∧ w' = w := by
  go_enter Tryd.func50, Tryd.ntmps50
  go_wp2
  go_ret
  exact ⟨rfl, rfl⟩
set_option maxRecDepth 100000 in
set_option maxHeartbeats 1000000 in
theorem rcut32_f (x : Nat) (w : World) : Calls Tryd.prog 50 #[.int .u64 (x : Int), .int .u64 32] w fun e w' => e = .returned (.int .u64 ((x % 4294967296 : Nat) : Int)) ∧ w' = w := by
  have q : (x : Int).tmod 4294967296 = ((x % 4294967296 : Nat) : Int) := rfl
  generalize x % 4294967296 = y at *
  go_enter Tryd.func50, Tryd.ntmps50
  go_wp2
  go_ret
  exact ⟨rfl, rfl⟩

set_option maxRecDepth 100000 in
set_option maxHeartbeats 1000000 in
theorem rbig64_f (x a b c : Nat) (hx : x < 18446744073709551616) (ha : a < 64) (hb : b < 64) (hc : c < 64) (w : World) :
    Calls Tryd.prog 51 #[.int .u64 (x : Int), .int .u64 64, .int .u64 (a : Int), .int .u64 (b : Int), .int .u64 (c : Int), .bool false] w fun e w' => e = .returned (.int .u64 ((bigw 64 (a, b, c) x : Nat) : Int)) ∧ w' = w := by
  have r1 := rotw_lt (w := 64) (n := a) (x := x) (by omega) hx
  have r2 := rotw_lt (w := 64) (n := b) (x := x) (by omega) hx
  have r3 := rotw_lt (w := 64) (n := c) (x := x) (by omega) hx
  have R1 := fun w1 => Lib.hid (rturn64_f x a hx ha w1)
  have R2 := fun w1 => Lib.hid (rturn64_f x b hx hb w1)
  have R3 := fun w1 => Lib.hid (rturn64_f x c hx hc w1)
  have x1 := u64_xor_nat _ _ r1 r2
  have x2 := u64_xor_nat _ _ (xor_lt r1 r2) r3
  have e1 : bigw 64 (a, b, c) x = rotw 64 a x ^^^ rotw 64 b x ^^^ rotw 64 c x := rfl
  rw [← e1] at x2
  clear e1 r1 r2 r3
  generalize bigw 64 (a, b, c) x = z at *
  generalize rotw 64 a x ^^^ rotw 64 b x = y at *
  generalize rotw 64 a x = p1 at *
  generalize rotw 64 b x = p2 at *
  generalize rotw 64 c x = p3 at *
  go_enter Tryd.func51, Tryd.ntmps51
  go_wp2_with (fail)
  refine (R1 _).out.mono ?_
  rintro e w4 ⟨rfl, rfl⟩
  go_wp2_with (fail)
  refine (R2 _).out.mono ?_
  rintro e w4 ⟨rfl, rfl⟩
  go_wp2_with (fail)
  refine (R3 _).out.mono ?_
  rintro e w4 ⟨rfl, rfl⟩
  go_wp2_with (fail)
  go_ret
  exact ⟨rfl, rfl⟩

set_option maxRecDepth 100000 in
set_option maxHeartbeats 1000000 in
theorem rlow64_f (x a b c : Nat) (hx : x < 18446744073709551616) (ha : a < 64) (hb : b < 64) (hc : c < 64) (w : World) :
    Calls Tryd.prog 51 #[.int .u64 (x : Int), .int .u64 64, .int .u64 (a : Int), .int .u64 (b : Int), .int .u64 (c : Int), .bool true] w fun e w' => e = .returned (.int .u64 ((loww 64 (a, b, c) x : Nat) : Int)) ∧ w' = w := by
  have r1 := rotw_lt (w := 64) (n := a) (x := x) (by omega) hx
  have r2 := rotw_lt (w := 64) (n := b) (x := x) (by omega) hx
  have r3 : x / 2 ^ c < 2 ^ 64 := Nat.lt_of_le_of_lt (Nat.div_le_self _ _) hx
  have R1 := fun w1 => Lib.hid (rturn64_f x a hx ha w1)
  have R2 := fun w1 => Lib.hid (rturn64_f x b hx hb w1)
  have x1 := u64_xor_nat _ _ r1 r2
  have x2 := u64_xor_nat _ _ (xor_lt r1 r2) r3
  have e1 : loww 64 (a, b, c) x = rotw 64 a x ^^^ rotw 64 b x ^^^ x / 2 ^ c := rfl
  rw [← e1] at x2
  clear e1 r1 r2 r3
  have f1 : ((x : Int) / 2 ^ c) = ((x / 2 ^ c : Nat) : Int) := by simp
  have g2 : (c : Int) ≤ 64 := by omega
  generalize loww 64 (a, b, c) x = z at *
  generalize rotw 64 a x ^^^ rotw 64 b x = y at *
  generalize rotw 64 a x = p1 at *
  generalize rotw 64 b x = p2 at *
  generalize x / 2 ^ c = p3 at *
  go_enter Tryd.func51, Tryd.ntmps51
  go_wp2_with (fail)
  refine (R1 _).out.mono ?_
  rintro e w4 ⟨rfl, rfl⟩
  go_wp2_with (fail)
  refine (R2 _).out.mono ?_
  rintro e w4 ⟨rfl, rfl⟩
  go_wp2_with (fail)
  go_ret
  exact ⟨rfl, rfl⟩

set_option maxRecDepth 100000 in
set_option maxHeartbeats 2000000 in
theorem rcube_f (i : Nat) (hi : i < 80) (w : World) :
    Calls Tryd.prog 52 #[.int .i64 (i : Int)] w fun e w' => e = .returned (.int .u64 (cbs[i]! : Nat)) ∧ Below w.heap.size w w' := by
  go_enter Tryd.func52, Tryd.ntmps52
  go_wp2
  go_ret
  refine ⟨?_, (Below.refl _ _).alloc (Nat.le_refl _) _⟩
  have hod : i < cbs.length := hi
  have e : (Us cbs)[i]'(by rw [Us_len]; exact hod) = .int .u64 (cbs[i]! : Nat) := by
    rw [getElem!_pos cbs i hod]
    simp [Us]
  exact congrArg Ending.returned e
set_option maxRecDepth 100000 in
set_option maxHeartbeats 2000000 in
theorem rsquare_f (i : Nat) (hi : i < 8) (w : World) :
    Calls Tryd.prog 49 #[.int .i64 (i : Int)] w fun e w' => e = .returned (.int .u64 (sqs[i]! : Nat)) ∧ Below w.heap.size w w' := by
  go_enter Tryd.func49, Tryd.ntmps49
  go_wp2
  go_ret
  refine ⟨?_, (Below.refl _ _).alloc (Nat.le_refl _) _⟩
  have hod : i < sqs.length := hi
  have e : (Us sqs)[i]'(by rw [Us_len]; exact hod) = .int .u64 (sqs[i]! : Nat) := by
    rw [getElem!_pos sqs i hod]
    simp [Us]
  exact congrArg Ending.returned e
end Go.Proofs.YtlaikmpnijlcbaaDoor
/-
  PLAIN NUMBERS: a number as four words of 64 bits; sums with carries; the number modulo L out of five words. No program is imported.
-/
namespace Nums

/-- Four words of 64 bits, the least first. -/
def ws (n : Nat) : List Nat := [n % 18446744073709551616, n / 18446744073709551616 % 18446744073709551616, n / 340282366920938463463374607431768211456 % 18446744073709551616, n / 6277101735386680763835789423207666416102355444464034512896 % 18446744073709551616]
/-- The number of four words. -/
def v4 (a b c d : Nat) : Nat := a + 18446744073709551616 * b + 340282366920938463463374607431768211456 * c + 6277101735386680763835789423207666416102355444464034512896 * d
theorem ws_len (n : Nat) : (ws n).length = 4 := rfl
theorem ws_v4 {a b c d : Nat} (h0 : a < 18446744073709551616) (h1 : b < 18446744073709551616) (h2 : c < 18446744073709551616) (h3 : d < 18446744073709551616) : ws (v4 a b c d) = [a, b, c, d] := by
  unfold ws v4
  have e0 : (a + 18446744073709551616 * b + 340282366920938463463374607431768211456 * c + 6277101735386680763835789423207666416102355444464034512896 * d) % 18446744073709551616 = a := by omega
  have e1 : (a + 18446744073709551616 * b + 340282366920938463463374607431768211456 * c + 6277101735386680763835789423207666416102355444464034512896 * d) / 18446744073709551616 % 18446744073709551616 = b := by omega
  have e2 : (a + 18446744073709551616 * b + 340282366920938463463374607431768211456 * c + 6277101735386680763835789423207666416102355444464034512896 * d) / 340282366920938463463374607431768211456 % 18446744073709551616 = c := by omega
  have e3 : (a + 18446744073709551616 * b + 340282366920938463463374607431768211456 * c + 6277101735386680763835789423207666416102355444464034512896 * d) / 6277101735386680763835789423207666416102355444464034512896 % 18446744073709551616 = d := by omega
  rw [e0, e1, e2, e3]
/-- Each number below 2^256 is its words'. -/
theorem ws_cut {n : Nat} (h : n < 115792089237316195423570985008687907853269984665640564039457584007913129639936) :
    ∃ a b c d, n = v4 a b c d ∧ ws n = [a, b, c, d] ∧ a < 18446744073709551616 ∧ b < 18446744073709551616 ∧ c < 18446744073709551616 ∧ d < 18446744073709551616 := by
  refine ⟨_, _, _, _, ?_, rfl, Nat.mod_lt _ (by decide), Nat.mod_lt _ (by decide), Nat.mod_lt _ (by decide), Nat.mod_lt _ (by decide)⟩
  unfold v4
  omega
theorem ws_lt (n : Nat) : ∀ y ∈ ws n, y < 18446744073709551616 := by
  intro y hy
  simp only [ws, List.mem_cons, List.not_mem_nil, or_false] at hy
  rcases hy with rfl | rfl | rfl | rfl <;> exact Nat.mod_lt _ (by decide)
theorem ws_get_lt (n : Nat) {k : Nat} (hk : k < 4) : (ws n)[k]! < 18446744073709551616 :=
  ws_lt n _ (by rw [getElem!_pos (ws n) k hk]; exact List.getElem_mem _)

/-! ### Rows whose first k words have turned -/
def mxl (f : Nat → Nat) (l : List Nat) (k : Nat) : List Nat := (List.range l.length).map fun j => if j < k then f j else l[j]!
theorem mxl_len (f : Nat → Nat) (l : List Nat) (k : Nat) : (mxl f l k).length = l.length := by simp [mxl]
theorem mxl_zero (f : Nat → Nat) (l : List Nat) : mxl f l 0 = l := by
  apply List.ext_getElem (by simp [mxl])
  intro i h1 h2
  simp [mxl, h2]
theorem mxl_get (f : Nat → Nat) (l : List Nat) {k : Nat} (h : k < l.length) : (mxl f l k)[k]! = l[k]! := by
  rw [getElem!_pos _ k (by rw [mxl_len]; exact h)]
  simp [mxl]
theorem mxl_set (f : Nat → Nat) (l : List Nat) {k : Nat} : (mxl f l k).set k (f k) = mxl f l (k + 1) := by
  apply List.ext_getElem (by simp [mxl])
  intro j h1 h2
  rw [List.getElem_set]
  simp only [mxl, List.getElem_map, List.getElem_range]
  by_cases hjk : k = j
  · subst hjk
    simp
  · rw [if_neg hjk]
    by_cases hlt : j < k
    · rw [if_pos hlt, if_pos (by omega)]
    · rw [if_neg hlt, if_neg (by omega)]

/-! ### Sums -/
/-- What the sum carries into word k. -/
def sup (a b : List Nat) : Nat → Nat
  | 0 => 0
  | k + 1 => (a[k]! + b[k]! + sup a b k) / 18446744073709551616
/-- The sum's word k. -/
def swd (a b : List Nat) (k : Nat) : Nat := (a[k]! + b[k]! + sup a b k) % 18446744073709551616
theorem sup_le {a b : List Nat} (ha : ∀ k, k < 4 → a[k]! < 18446744073709551616) (hb : ∀ k, k < 4 → b[k]! < 18446744073709551616) : ∀ k, k ≤ 4 → sup a b k ≤ 1
  | 0, _ => Nat.zero_le _
  | k + 1, hk => by
    have := sup_le ha hb k (by omega)
    have := ha k (by omega)
    have := hb k (by omega)
    show (a[k]! + b[k]! + sup a b k) / 18446744073709551616 ≤ 1
    omega
theorem sum_ws {A B : Nat} (hA : A < 115792089237316195423570985008687907853269984665640564039457584007913129639936) (hB : B < 115792089237316195423570985008687907853269984665640564039457584007913129639936) :
    mxl (swd (ws A) (ws B)) (ws A) 4 = ws ((A + B) % 115792089237316195423570985008687907853269984665640564039457584007913129639936) := by
  obtain ⟨a0, a1, a2, a3, eA, wA, p0, p1, p2, p3⟩ := ws_cut hA
  obtain ⟨b0, b1, b2, b3, eB, wB, q0, q1, q2, q3⟩ := ws_cut hB
  rw [wA, wB]
  have e : mxl (swd [a0, a1, a2, a3] [b0, b1, b2, b3]) [a0, a1, a2, a3] 4 = [swd [a0, a1, a2, a3] [b0, b1, b2, b3] 0, swd [a0, a1, a2, a3] [b0, b1, b2, b3] 1, swd [a0, a1, a2, a3] [b0, b1, b2, b3] 2, swd [a0, a1, a2, a3] [b0, b1, b2, b3] 3] := rfl
  have g0 : sup [a0, a1, a2, a3] [b0, b1, b2, b3] 0 = 0 := rfl
  have g1 : sup [a0, a1, a2, a3] [b0, b1, b2, b3] 1 = (a0 + b0 + sup [a0, a1, a2, a3] [b0, b1, b2, b3] 0) / 18446744073709551616 := rfl
  have g2 : sup [a0, a1, a2, a3] [b0, b1, b2, b3] 2 = (a1 + b1 + sup [a0, a1, a2, a3] [b0, b1, b2, b3] 1) / 18446744073709551616 := rfl
  have g3 : sup [a0, a1, a2, a3] [b0, b1, b2, b3] 3 = (a2 + b2 + sup [a0, a1, a2, a3] [b0, b1, b2, b3] 2) / 18446744073709551616 := rfl
  have s0 : swd [a0, a1, a2, a3] [b0, b1, b2, b3] 0 = (a0 + b0 + sup [a0, a1, a2, a3] [b0, b1, b2, b3] 0) % 18446744073709551616 := rfl
  have s1 : swd [a0, a1, a2, a3] [b0, b1, b2, b3] 1 = (a1 + b1 + sup [a0, a1, a2, a3] [b0, b1, b2, b3] 1) % 18446744073709551616 := rfl
  have s2 : swd [a0, a1, a2, a3] [b0, b1, b2, b3] 2 = (a2 + b2 + sup [a0, a1, a2, a3] [b0, b1, b2, b3] 2) % 18446744073709551616 := rfl
  have s3 : swd [a0, a1, a2, a3] [b0, b1, b2, b3] 3 = (a3 + b3 + sup [a0, a1, a2, a3] [b0, b1, b2, b3] 3) % 18446744073709551616 := rfl
  rw [e]
  generalize swd [a0, a1, a2, a3] [b0, b1, b2, b3] 0 = x0 at *
  generalize swd [a0, a1, a2, a3] [b0, b1, b2, b3] 1 = x1 at *
  generalize swd [a0, a1, a2, a3] [b0, b1, b2, b3] 2 = x2 at *
  generalize swd [a0, a1, a2, a3] [b0, b1, b2, b3] 3 = x3 at *
  generalize sup [a0, a1, a2, a3] [b0, b1, b2, b3] 0 = c0 at *
  generalize sup [a0, a1, a2, a3] [b0, b1, b2, b3] 1 = c1 at *
  generalize sup [a0, a1, a2, a3] [b0, b1, b2, b3] 2 = c2 at *
  generalize sup [a0, a1, a2, a3] [b0, b1, b2, b3] 3 = c3 at *
  have hx : (A + B) % 115792089237316195423570985008687907853269984665640564039457584007913129639936 = v4 x0 x1 x2 x3 := by
    rw [eA, eB]
    unfold v4
    clear e wA wB hA hB eA eB
    omega
  rw [hx, ws_v4 (by omega) (by omega) (by omega) (by omega)]

/-! ### Five words modulo L -/
theorem LL_eq : LL = 7237005577332262213973186563042994240857116359379907606001950938285454250989 := rfl
/-- The rest, with what was borrowed. -/
theorem rest_L {v0 v1 v2 v3 t m0 m1 p1 r0 r1 r2 r3 l0 l1 l2 l3 V : Nat} (h0 : v0 < 18446744073709551616) (h1 : v1 < 18446744073709551616) (h2 : v2 < 18446744073709551616) (h3 : v3 < 1152921504606846976) (ht : t < 34359738368)
    (hm0 : m0 = t * 6346243789798364141) (hm1 : m1 = t * 1503914060200516822) (hp1 : p1 = m1 % 18446744073709551616 + m0 / 18446744073709551616)
    (hl0 : l0 = if v0 < m0 % 18446744073709551616 + 0 then 1 else 0) (hr0 : r0 = (v0 + 18446744073709551616 - m0 % 18446744073709551616 - 0) % 18446744073709551616)
    (hl1 : l1 = if v1 < p1 % 18446744073709551616 + l0 then 1 else 0) (hr1 : r1 = (v1 + 18446744073709551616 - p1 % 18446744073709551616 - l0) % 18446744073709551616)
    (hl2 : l2 = if v2 < m1 / 18446744073709551616 + p1 / 18446744073709551616 + l1 then 1 else 0) (hr2 : r2 = (v2 + 18446744073709551616 - (m1 / 18446744073709551616 + p1 / 18446744073709551616) - l1) % 18446744073709551616)
    (hl3 : l3 = if v3 < 0 + l2 then 1 else 0) (hr3 : r3 = (v3 + 18446744073709551616 - 0 - l2) % 18446744073709551616)
    (hV : V = v4 v0 v1 v2 v3 + 7237005577332262213973186563042994240829374041602535252466099000494570602496 * t) :
    (l3 = 0 → v4 r0 r1 r2 r3 = V % LL) ∧ (l3 = 1 → (v4 r0 r1 r2 r3 + LL) % 115792089237316195423570985008687907853269984665640564039457584007913129639936 = V % LL) ∧ l3 ≤ 1 ∧ l0 ≤ 1 ∧ l1 ≤ 1 ∧ l2 ≤ 1 ∧
      r0 < 18446744073709551616 ∧ r1 < 18446744073709551616 ∧ r2 < 18446744073709551616 ∧ r3 < 18446744073709551616 := by
  have b0 : l0 ≤ 1 := by rw [hl0]; split <;> omega
  have b1 : l1 ≤ 1 := by rw [hl1]; split <;> omega
  have b2 : l2 ≤ 1 := by rw [hl2]; split <;> omega
  have b3 : l3 ≤ 1 := by rw [hl3]; split <;> omega
  have d0 : r0 + m0 % 18446744073709551616 = v0 + 18446744073709551616 * l0 := by rw [hr0, hl0]; split <;> omega
  have d1 : r1 + p1 % 18446744073709551616 + l0 = v1 + 18446744073709551616 * l1 := by rw [hr1, hl1]; split <;> omega
  have hm : m1 / 18446744073709551616 < 17179869184 := by omega
  have hp : p1 / 18446744073709551616 < 2 := by omega
  have d2 : r2 + (m1 / 18446744073709551616 + p1 / 18446744073709551616) + l1 = v2 + 18446744073709551616 * l2 := by rw [hr2, hl2]; split <;> omega
  have d3 : r3 + l2 = v3 + 18446744073709551616 * l3 := by rw [hr3, hl3]; split <;> omega
  have c0 : r0 < 18446744073709551616 := by omega
  have c1 : r1 < 18446744073709551616 := by omega
  have c2 : r2 < 18446744073709551616 := by omega
  have c3 : r3 < 18446744073709551616 := by omega
  clear hr0 hr1 hr2 hr3 hl0 hl1 hl2 hl3
  have key : v4 r0 r1 r2 r3 + m0 + 18446744073709551616 * m1 = v4 v0 v1 v2 v3 + 115792089237316195423570985008687907853269984665640564039457584007913129639936 * l3 := by
    unfold v4
    omega
  have hlow : v4 v0 v1 v2 v3 < 7237005577332262213973186563042994240829374041602535252466099000494570602496 := by
    unfold v4
    omega
  have hR : v4 r0 r1 r2 r3 < 115792089237316195423570985008687907853269984665640564039457584007913129639936 := by
    unfold v4
    omega
  clear d0 d1 d2 d3 hp1 hm hp
  refine ⟨fun h => ?_, fun h => ?_, b3, b0, b1, b2, c0, c1, c2, c3⟩
  · have e : V = v4 r0 r1 r2 r3 + LL * t := by
      rw [hV, LL_eq]
      omega
    rw [e, Nat.add_mul_mod_self_left, Nat.mod_eq_of_lt]
    rw [LL_eq]
    omega
  · have hg : 115792089237316195423570985008687907853269984665640564039457584007913129639936 ≤ v4 r0 r1 r2 r3 + LL := by
      rw [LL_eq]
      omega
    have e : V + LL = (v4 r0 r1 r2 r3 + LL - 115792089237316195423570985008687907853269984665640564039457584007913129639936) + LL * t := by
      rw [hV, LL_eq] at *
      omega
    have e2 : V % LL = (V + LL) % LL := by rw [Nat.add_mod_right]
    rw [e2, e, Nat.add_mul_mod_self_left, Nat.mod_eq_sub_mod hg, Nat.mod_eq_of_lt, Nat.mod_eq_of_lt]
    · rw [LL_eq] at *
      omega
    · rw [LL_eq] at *
      omega
end Nums
