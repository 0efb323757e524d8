/-
PLAIN NUMBERS: rows that are filled from the first digit on; the digits that Load, Add, Sub and Of make. No program is imported.
PLAIN NUMBERS: the product digit by digit. No program is imported.
PLAIN NUMBERS: what is lent, step by step; bytes two by two. No program is imported.
-/
import Derived.Test.YtchhkejgdcmicaaDoorSteps
namespace Nums

/-- The first k digits, the others 0. -/
def fil (l : List Int) (n k : Nat) : List Int := l.take k ++ List.replicate (n - k) 0
theorem fil_zero (l : List Int) (n : Nat) : fil l n 0 = List.replicate n 0 := by simp [fil]
theorem fil_all {l : List Int} {n : Nat} (h : l.length = n) : fil l n n = l := by simp [fil, ← h]
theorem fil_len {l : List Int} {n k : Nat} (h : l.length = n) (hk : k ≤ n) : (fil l n k).length = n := by simp [fil]; omega
theorem fil_next {l : List Int} {n k : Nat} (h : l.length = n) (hk : k < n) {x : Int} (hx : x = l[k]!) : (fil l n k).set k x = fil l n (k + 1) := by
  unfold fil
  rw [take_one (by omega), show n - k = (n - (k + 1)) + 1 by omega, List.replicate_succ, set_mid _ _ _ _ (by rw [List.length_take]; omega), hx]
  simp

theorem join_get : ∀ (k : Nat) (b : List UInt8), 2 * k + 1 < b.length → (join b)[k]! = ((b[2 * k]!).toNat : Int) + 256 * ((b[2 * k + 1]!).toNat : Int)
  | _, [], h => absurd h (by simp)
  | _, [_], h => absurd h (by simp)
  | 0, x :: y :: b, _ => rfl
  | k + 1, x :: y :: b, h => by
    have ih := join_get k b (by simp at h; omega)
    exact ih

/-- The digits of bytes, the highest bit away. -/
def low (b : List UInt8) : List Int := (join b).set 15 ((join b)[15]! % 32768)
theorem W15' : W 15 * 32768 = 57896044618658097711785492504343953926634992332820282019728792003956564819968 := by decide
theorem low_all {b : List UInt8} (h : b.length = 32) :
    (low b).length = 16 ∧ Small (low b) ∧ V (low b) = ((le b % 57896044618658097711785492504343953926634992332820282019728792003956564819968 : Nat) : Int) := by
  obtain ⟨h1, h2⟩ := V_join 16 b (by omega)
  have hs := join_small b
  refine ⟨by simp [low, h1], ?_, ?_⟩
  · intro x hx
    rcases List.mem_or_eq_of_mem_set hx with hx | rfl
    · exact hs x hx
    · omega
  · have ht := take15 h1
    have hl : ((join b).take 15).length = 15 := by simp [h1]
    have e : V (join b) = V ((join b).take 15) + W 15 * ((join b)[15]! + 65536 * 0) := by
      conv => lhs; rw [ht]
      rw [V_append, hl]
      rfl
    have hv := V_small (l := (join b).take 15) (fun x hx => hs x (List.mem_of_mem_take hx))
    have hd : 0 ≤ (join b)[15]! := by
      have := hs (join b)[15]! (by rw [getElem!_pos _ 15 (by omega)]; exact List.getElem_mem _)
      omega
    rw [hl] at hv
    unfold low
    rw [V_set _ _ _ (by omega)]
    have hW := W15'
    have hp := W_pos 15
    generalize (join b)[15]! = d at *
    generalize V ((join b).take 15) = v at *
    have hm := Int.emod_add_mul_ediv d 32768
    have hq : V (join b) + (d % 32768 - d) * W 15 = v + W 15 * (d % 32768) := by rw [e]; grind only
    rw [hq, Int.natCast_emod, ← h2, e]
    have hr : v + W 15 * (d + 65536 * 0) = v + W 15 * (d % 32768) + (W 15 * 32768) * (d / 32768) := by
      have : d = d % 32768 + 32768 * (d / 32768) := hm.symm
      grind only
    rw [hr, hW, show ((57896044618658097711785492504343953926634992332820282019728792003956564819968 : Nat) : Int) = (57896044618658097711785492504343953926634992332820282019728792003956564819968 : Int) from rfl, Int.add_mul_emod_self_left]
    symm
    apply Int.emod_eq_of_lt
    · have : 0 ≤ W 15 * (d % 32768) := Int.mul_nonneg (by omega) (by omega)
      omega
    · have h6 : W 15 * (d % 32768) ≤ W 15 * 32767 := Int.mul_le_mul_of_nonneg_left (by omega) (by omega)
      omega

/-- Sums and differences, digit by digit. -/
def adds (a b : List Int) : List Int := List.zipWith (fun x y => x + y) a b
def subs (a b : List Int) : List Int := List.zipWith (fun x y => x - y) a b
theorem adds_len {a b : List Int} {n : Nat} (ha : a.length = n) (hb : b.length = n) : (adds a b).length = n := by simp [adds, ha, hb]
theorem subs_len {a b : List Int} {n : Nat} (ha : a.length = n) (hb : b.length = n) : (subs a b).length = n := by simp [subs, ha, hb]
theorem V_adds {a b : List Int} (h : a.length = b.length) : V (adds a b) = V a + V b := by
  rw [adds, V_zip _ 1 (fun x y => by omega) a b h]
  omega
theorem V_subs {a b : List Int} (h : a.length = b.length) : V (subs a b) = V a - V b := by
  rw [subs, V_zip _ (-1) (fun x y => by omega) a b h]
  omega
theorem adds_get {a b : List Int} {k : Nat} (ha : k < a.length) (hb : k < b.length) : (adds a b)[k]! = a[k]! + b[k]! := by
  rw [getElem!_pos _ k (by simp [adds]; omega), getElem!_pos a k ha, getElem!_pos b k hb]
  simp [adds]
theorem subs_get {a b : List Int} {k : Nat} (ha : k < a.length) (hb : k < b.length) : (subs a b)[k]! = a[k]! - b[k]! := by
  rw [getElem!_pos _ k (by simp [subs]; omega), getElem!_pos a k ha, getElem!_pos b k hb]
  simp [subs]
theorem zip_bnd {f : Int → Int → Int} {B C : Int} (hf : ∀ x y, -B ≤ x → x ≤ B → -C ≤ y → y ≤ C → -(B + C) ≤ f x y ∧ f x y ≤ B + C) :
    ∀ {a b : List Int}, Bnd B a → Bnd C b → Bnd (B + C) (List.zipWith f a b)
  | [], _, _, _ => fun x hx => absurd hx (by simp)
  | _ :: _, [], _, _ => fun x hx => absurd hx (by simp)
  | x :: a, y :: b, ha, hb => by
    intro z hz
    rcases List.mem_cons.mp (show z ∈ f x y :: List.zipWith f a b from hz) with rfl | hz
    · have h1 := ha x (List.mem_cons_self ..)
      have h2 := hb y (List.mem_cons_self ..)
      exact hf x y h1.1 h1.2 h2.1 h2.2
    · exact zip_bnd hf (fun u hu => ha u (List.mem_cons_of_mem _ hu)) (fun u hu => hb u (List.mem_cons_of_mem _ hu)) z hz
theorem adds_bnd {B C : Int} {a b : List Int} (ha : Bnd B a) (hb : Bnd C b) : Bnd (B + C) (adds a b) := zip_bnd (fun x y _ _ _ _ => by omega) ha hb
theorem subs_bnd {B C : Int} {a b : List Int} (ha : Bnd B a) (hb : Bnd C b) : Bnd (B + C) (subs a b) := zip_bnd (fun x y _ _ _ _ => by omega) ha hb

/-- The digits of a machine's number. -/
def ofd (v : Nat) : List Int := [((v % 65536 : Nat) : Int), ((v / 65536 % 65536 : Nat) : Int), ((v / 65536 / 65536 % 65536 : Nat) : Int), ((v / 65536 / 65536 / 65536 % 65536 : Nat) : Int), 0, 0, 0, 0, 0, 0, 0, 0, 0, 0, 0, 0]
theorem V_ofd {v : Nat} (h : v < 18446744073709551616) : V (ofd v) = (v : Int) := by
  show (((v % 65536 : Nat) : Int) + 65536 * (((v / 65536 % 65536 : Nat) : Int) + 65536 * (((v / 65536 / 65536 % 65536 : Nat) : Int) + 65536 * (((v / 65536 / 65536 / 65536 % 65536 : Nat) : Int) + 65536 * 0)))) = v
  omega
theorem ofd_small (v : Nat) : Small (ofd v) := by
  intro x hx
  simp only [ofd, List.mem_cons, List.not_mem_nil, or_false] at hx
  omega

end Nums

namespace Nums

/-- What 31 digits hold when i whole rows and j digits of the next have been multiplied in. -/
structure Conv (a b t : List Int) (i j : Nat) : Prop where
  len : t.length = 31
  val : V t = V (a.take i) * V b + a[i]! * W i * V (b.take j)
  bnd : Bnd ((16 * i + j : Nat) * 1099511627776) t

theorem Conv.zero (a b : List Int) : Conv a b (List.replicate 31 0) 0 0 where
  len := by simp
  val := by
    have : V (List.replicate 31 0) = 0 := by decide
    rw [this]
    simp [V]
  bnd := fun x hx => by
    have := (List.mem_replicate.mp hx).2
    subst this
    simp

theorem V_take_next {l : List Int} {k : Nat} (h : k < l.length) : V (l.take (k + 1)) = V (l.take k) + W k * l[k]! := by
  rw [take_one h, V_append, List.length_take, Nat.min_eq_left (by omega)]
  show V (l.take k) + W k * (l[k]! + 65536 * 0) = _
  rw [Int.mul_zero, Int.add_zero]

theorem mul_bound {x y : Int} (h1 : -1048576 ≤ x) (h2 : x ≤ 1048576) (h3 : -1048576 ≤ y) (h4 : y ≤ 1048576) : -1099511627776 ≤ x * y ∧ x * y ≤ 1099511627776 := by
  have a := Int.mul_nonneg (show 0 ≤ 1048576 - x by omega) (show 0 ≤ 1048576 - y by omega)
  have b := Int.mul_nonneg (show 0 ≤ 1048576 + x by omega) (show 0 ≤ 1048576 + y by omega)
  have c := Int.mul_nonneg (show 0 ≤ 1048576 - x by omega) (show 0 ≤ 1048576 + y by omega)
  have d := Int.mul_nonneg (show 0 ≤ 1048576 + x by omega) (show 0 ≤ 1048576 - y by omega)
  have ea : (1048576 - x) * (1048576 - y) = 1099511627776 - 1048576 * x - 1048576 * y + x * y := by grind only
  have eb : (1048576 + x) * (1048576 + y) = 1099511627776 + 1048576 * x + 1048576 * y + x * y := by grind only
  have ec : (1048576 - x) * (1048576 + y) = 1099511627776 - 1048576 * x + 1048576 * y - x * y := by grind only
  have ed : (1048576 + x) * (1048576 - y) = 1099511627776 + 1048576 * x - 1048576 * y - x * y := by grind only
  omega

theorem Conv.next {a b t : List Int} {i j : Nat} (h : Conv a b t i j) (hi : i < 16) (hj : j < 16) (ha : a.length = 16) (hb : b.length = 16)
    (hba : Bnd 1048576 a) (hbb : Bnd 1048576 b) : Conv a b (t.set (i + j) (t[i + j]! + a[i]! * b[j]!)) i (j + 1) where
  len := by rw [List.length_set, h.len]
  val := by
    rw [V_set _ _ _ (by rw [h.len]; omega), h.val, V_take_next (l := b) (by omega), W_add]
    grind only
  bnd := by
    intro x hx
    have h0 := h.bnd
    rcases List.mem_or_eq_of_mem_set hx with hx | rfl
    · have := h0 x hx
      omega
    · have h1 := h0 t[i + j]! (by rw [getElem!_pos _ _ (by rw [h.len]; omega)]; exact List.getElem_mem _)
      have h2 := hba a[i]! (by rw [getElem!_pos _ _ (by omega)]; exact List.getElem_mem _)
      have h3 := hbb b[j]! (by rw [getElem!_pos _ _ (by omega)]; exact List.getElem_mem _)
      have h4 := mul_bound h2.1 h2.2 h3.1 h3.2
      omega

theorem Conv.roll {a b t : List Int} {i : Nat} (h : Conv a b t i 16) (hi : i < 16) (ha : a.length = 16) (hb : b.length = 16) : Conv a b t (i + 1) 0 where
  len := h.len
  val := by
    rw [h.val, V_take_next (l := a) (by omega), show b.take 16 = b from List.take_of_length_le (by omega)]
    show _ = (V (a.take i) + W i * a[i]!) * V b + a[i + 1]! * W (i + 1) * 0
    grind only
  bnd := h.bnd.mono (by omega)

theorem Conv.all {a b t : List Int} (h : Conv a b t 16 0) (ha : a.length = 16) : V t = V a * V b ∧ Bnd 281474976710656 t := by
  refine ⟨?_, h.bnd.mono (by omega)⟩
  rw [h.val, List.take_of_length_le (by omega)]
  show V a * V b + a[16]! * W 16 * 0 = _
  omega

theorem folded_get {t : List Int} (h : t.length = 31) {k : Nat} (hk : k < 15) : (folded t)[k]! = t[k]! + 38 * t[k + 16]! := by
  rw [getElem!_pos _ k (by rw [(V_folded h).1]; omega), getElem!_pos t k (by omega), getElem!_pos t (k+16) (by omega)]
  simp only [folded, List.getElem_zipWith, List.getElem_take]
  rw [List.getElem_append_left (by simp; omega), List.getElem_drop]
  simp [Nat.add_comm]
theorem folded_last {t : List Int} (h : t.length = 31) : (folded t)[15]! = t[15]! := by
  rw [getElem!_pos _ 15 (by rw [(V_folded h).1]; omega), getElem!_pos t 15 (by omega)]
  simp only [folded, List.getElem_zipWith, List.getElem_take]
  rw [List.getElem_append_right (by simp [h])]
  simp
theorem folded_bnd {t : List Int} (h : t.length = 31) (hb : Bnd 281474976710656 t) : Bnd 10977524091715584 (folded t) := by
  intro x hx
  obtain ⟨k, hk, rfl⟩ := List.getElem_of_mem hx
  have hk2 := hk
  rw [(V_folded h).1] at hk2
  rw [← getElem!_pos _ k hk]
  have h1 := hb t[k]! (by rw [getElem!_pos _ _ (by omega)]; exact List.getElem_mem _)
  by_cases h15 : k < 15
  · rw [folded_get h h15]
    have h2 := hb t[k+16]! (by rw [getElem!_pos _ _ (by omega)]; exact List.getElem_mem _)
    omega
  · obtain rfl : k = 15 := by omega
    rw [folded_last h]
    omega

end Nums

namespace Nums

theorem lessp_get {t : List Int} (h : t.length = 16) {k : Nat} (hk : k < 16) : (lessp t)[k]! = t[k]! - pdig[k]! := by
  rw [getElem!_pos _ k (by rw [lessp_len h]; omega), getElem!_pos t k (by omega), getElem!_pos pdig k (by simp [pdig]; omega)]
  simp [lessp]
theorem pdig_0 : pdig[0]! = 65517 := rfl
theorem pdig_15 : pdig[15]! = 32767 := rfl
theorem pdig_mid : ∀ k : Nat, k < 15 → 1 ≤ k → pdig[k]! = 65535 := by decide
theorem lessp_bnd {t : List Int} (hs : Small t) (h : t.length = 16) {k : Nat} (hk : k < 16) : -65535 ≤ (lessp t)[k]! ∧ (lessp t)[k]! ≤ 65535 := by
  have h1 := hs t[k]! (by rw [getElem!_pos t k (by omega)]; exact List.getElem_mem _)
  have h2 : ∀ k : Nat, k < 16 → 0 ≤ pdig[k]! ∧ pdig[k]! ≤ 65535 := by decide
  have h3 := h2 k hk
  rw [lessp_get h hk]
  omega

theorem lent_c {t : List Int} (hs : Small t) (h : t.length = 16) (k : Nat) : (chain 0 ((lessp t).take k)).2 = -1 ∨ (chain 0 ((lessp t).take k)).2 = 0 := by
  have hb : Bnd 65535 (lessp t) := fun x hx => by
    obtain ⟨j, hj, rfl⟩ := List.getElem_of_mem hx
    rw [← getElem!_pos _ j hj]
    exact lessp_bnd hs h (by rw [lessp_len h] at hj; exact hj)
  have hV := V_bnd (l := (lessp t).take k) (B := 65535) (fun x hx => hb x (List.mem_of_mem_take hx))
  have hc := (chain_out 0 ((lessp t).take k)).1
  have hW := W_pos ((lessp t).take k).length
  have hd := div_bound (v := V ((lessp t).take k) + 0) (b := 1) hW (by omega) (by omega)
  omega

theorem pst_get {l : List Int} {k : Nat} (h : k < l.length) : (pst l k)[k]! = l[k]! + (chain 0 (l.take k)).2 := by
  have hl : (chain 0 (l.take k)).1.length = k := by rw [chain_len, List.length_take]; omega
  rw [pst_split h]
  exact get_mid _ _ _ hl
theorem pst_get1 {l : List Int} {k : Nat} (h : k + 1 < l.length) : (pst l k)[k + 1]! = l[k + 1]! := by
  have hl : (chain 0 (l.take k)).1.length = k := by rw [chain_len, List.length_take]; omega
  have e2 : l.drop (k + 1) = l[k+1]! :: l.drop (k + 2) := by rw [List.drop_eq_getElem_cons h, getElem!_pos l (k+1) h]
  rw [pst_split (by omega), e2, show ∀ (a : List Int) x y b, a ++ x :: y :: b = (a ++ [x]) ++ y :: b from fun a x y b => by simp]
  exact get_mid _ _ _ (by simp [hl])

theorem lent_at {t : List Int} (hs : Small t) (h : t.length = 16) {k : Nat} (hk : k < 16) : -65536 ≤ (pst (lessp t) k)[k]! ∧ (pst (lessp t) k)[k]! ≤ 65535 := by
  have h1 := lessp_bnd hs h hk
  have h2 := lent_c hs h k
  rw [pst_get (by rw [lessp_len h]; omega)]
  omega
theorem lent_at1 {t : List Int} (hs : Small t) (h : t.length = 16) {k : Nat} (hk : k < 15) : -65535 ≤ (pst (lessp t) k)[k + 1]! ∧ (pst (lessp t) k)[k + 1]! ≤ 65535 := by
  rw [pst_get1 (by rw [lessp_len h]; omega)]
  exact lessp_bnd hs h (by omega)

theorem set_self {l : List Int} {k : Nat} (h : k < l.length) : l.set k l[k]! = l := by
  rw [getElem!_pos l k h]
  exact List.set_getElem_self h

theorem lent_neg {t : List Int} (hs : Small t) (h : t.length = 16) {k : Nat} (hk : k < 15) (hn : (pst (lessp t) k)[k]! < 0) :
    pst (lessp t) (k + 1) = ((pst (lessp t) k).set k ((pst (lessp t) k)[k]! + 65536)).set (k + 1) ((pst (lessp t) k)[k + 1]! - 1) := by
  have h1 := lent_at hs h (k := k) (by omega)
  rw [pst_next (by rw [lessp_len h]; omega)]
  congr 1
  · congr 1
    omega
  · omega
theorem lent_pos {t : List Int} (hs : Small t) (h : t.length = 16) {k : Nat} (hk : k < 15) (hn : ¬ (pst (lessp t) k)[k]! < 0) :
    pst (lessp t) (k + 1) = pst (lessp t) k := by
  have h1 := lent_at hs h (k := k) (by omega)
  have hl : (pst (lessp t) k).length = 16 := by rw [pst_len, lessp_len h]
  rw [pst_next (by rw [lessp_len h]; omega)]
  have e1 : (pst (lessp t) k)[k]! % 65536 = (pst (lessp t) k)[k]! := by omega
  have e2 : (pst (lessp t) k)[k+1]! + (pst (lessp t) k)[k]! / 65536 = (pst (lessp t) k)[k+1]! := by omega
  rw [e1, e2, set_self (by omega), set_self (by omega)]

theorem pst_lent {l : List Int} (h : l.length = 16) : pst l 15 = lent l := by
  unfold lent
  rw [pst_split (by omega), List.drop_eq_nil_of_le (by omega)]

/-- How often it has been reduced. -/
def rst (t : List Int) : Nat → List Int
  | 0 => t
  | k + 1 => redp (rst t k)
theorem rst_all {t : List Int} (h : t.length = 16) (hs : Small t) : ∀ k, (rst t k).length = 16 ∧ Small (rst t k)
  | 0 => ⟨h, hs⟩
  | k + 1 => by
    have ih := rst_all h hs k
    have h1 := redp_all ih.1 ih.2
    exact ⟨h1.1, h1.2.1⟩

/-- The bytes of the first k digits, the others 0. -/
def hst (d : List Int) (k : Nat) : List UInt8 := split (d.take k) ++ List.replicate (2 * (16 - k)) 0
theorem hst_zero (d : List Int) : hst d 0 = List.replicate 32 0 := rfl
theorem hst_all {d : List Int} (h : d.length = 16) : hst d 16 = split d := by
  unfold hst
  rw [List.take_of_length_le (by omega)]
  simp
theorem hst_len {d : List Int} (h : d.length = 16) {k : Nat} (hk : k ≤ 16) : (hst d k).length = 32 := by
  unfold hst
  rw [List.length_append, split_len, List.length_take, List.length_replicate]
  omega
theorem split_snoc : ∀ (a : List Int) (x : Int), split (a ++ [x]) = split a ++ [UInt8.ofNat (x % 256).toNat, UInt8.ofNat (x / 256).toNat]
  | [], x => rfl
  | y :: a, x => by
    have ih := split_snoc a x
    show UInt8.ofNat (y % 256).toNat :: UInt8.ofNat (y / 256).toNat :: split (a ++ [x]) = _
    rw [ih]
    rfl
theorem hst_next {d : List Int} (h : d.length = 16) {k : Nat} (hk : k < 16) :
    ((hst d k).set (2 * k) (UInt8.ofNat (d[k]! % 256).toNat)).set (2 * k + 1) (UInt8.ofNat (d[k]! / 256).toNat) = hst d (k + 1) := by
  have hl : (split (d.take k)).length = 2 * k := by rw [split_len, List.length_take]; omega
  unfold hst
  rw [take_one (by omega), split_snoc, show 2 * (16 - k) = 2 * (16 - (k + 1)) + 1 + 1 by omega, List.replicate_succ, List.replicate_succ]
  generalize split (d.take k) = a at *
  rw [List.set_append_right _ _ (by omega), hl, Nat.sub_self, List.set_append_right _ _ (by omega), hl]
  rw [show 2 * k + 1 - 2 * k = 1 by omega]
  simp

end Nums
