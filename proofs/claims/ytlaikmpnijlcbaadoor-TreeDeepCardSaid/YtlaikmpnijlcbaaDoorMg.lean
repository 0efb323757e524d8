/-
  SEVERAL TEXTS IN ONE: Vq, Vr, Curve, Root, Pack, ShaP.
-/
import Derived.Test.YtlaikmpnijlcbaaDoorMf
/-
  MORE STEPS, over states: remainders by what is known, bytes that are turned.
-/
namespace Go.Proofs.YtlaikmpnijlcbaaDoor
open Go.RowKit Go.IntWalk

/-- A number of 64 bits, modulo a small one. -/
theorem wrapU_mod (f : Int) (m : Nat) (h0 : 0 < m) (hm : m ≤ 4294967296) : ∃ k : Nat, k < m ∧ k = (IntKind.u64.wrap f).toNat % m ∧ IntKind.i64.wrap ((IntKind.u64.wrap f).tmod (m : Int)) = (k : Int) := by
  have h1 : 0 ≤ IntKind.u64.wrap f := by show 0 ≤ f % 18446744073709551616; omega
  refine ⟨(IntKind.u64.wrap f).toNat % m, Nat.mod_lt _ h0, rfl, ?_⟩
  have h2 : (IntKind.u64.wrap f).tmod (m : Int) = (((IntKind.u64.wrap f).toNat % m : Nat) : Int) := by
    rw [Int.tmod_eq_emod_of_nonneg h1, Int.natCast_emod, Int.toNat_of_nonneg h1]
  have h3 := Nat.mod_lt (IntKind.u64.wrap f).toNat h0
  exact wrapI h2 (by omega) (by omega)
theorem wrapU {m r : Int} (h : m = r) (h1 : 0 ≤ r) (h2 : r < 18446744073709551616) : IntKind.u64.wrap m = r := by
  subst h
  show m % 18446744073709551616 = m
  omega
theorem run_remU {N : Nat} {E : SE} {o : Oper} {x y : Operand} {t' : TypeId} {m n : Int} (hz : n ≠ 0) (ho : o.op = .binOp .rem 41 x y t') (hx : evS E x = some (.v (.int .u64 m))) (hy : evS E y = some (.v (.int .u64 n))) :
    ∀ (G : Nat → Nat) (a : Act) (w : World), Fr N (denE G E) a → (execOp a.eval o).run Tryd.prog w = .ok (.value ((SV.v (.int .u64 (m.tmod n))).den G)) w := fun G a w ha => by
  have h1 : a.eval x = .int .u64 m := ha.eval (evS_ok hx)
  have h2 : a.eval y = .int .u64 n := ha.eval (evS_ok hy)
  unfold execOp
  simp only [ho, h1, h2]
  show _ = Result.ok (Next.value (.int .u64 (m.tmod n))) w
  go_simp
theorem byte_z {z : Int} (h : 0 ≤ z ∧ z < 256) : ∃ y : UInt8, z = (y.toNat : Int) := ⟨UInt8.ofNat z.toNat, by rw [UInt8.toNat_ofNat']; omega⟩
theorem xor_b1 (a : UInt8) : ∃ y : UInt8, bits .xor .u8 (a.toNat : Int) 1 = (y.toNat : Int) := by
  have key : ∀ m : Nat, m < 256 → 0 ≤ bits .xor .u8 (m : Int) 1 ∧ bits .xor .u8 (m : Int) 1 < 256 := by decide +kernel
  exact byte_z (key a.toNat a.toNat_lt)
theorem xor_b4 (a : UInt8) : ∃ y : UInt8, bits .xor .u8 (a.toNat : Int) 4 = (y.toNat : Int) := by
  have key : ∀ m : Nat, m < 256 → 0 ≤ bits .xor .u8 (m : Int) 4 ∧ bits .xor .u8 (m : Int) 4 < 256 := by decide +kernel
  exact byte_z (key a.toNat a.toNat_lt)
theorem sh_at {s : SC} {l : List UInt8} {j : Nat} (hj : j < l.length) : (catP [.one s, .agg 64 (By l).toArray])[1 + j]? = some (.int .u8 (l[j].toNat : Int)) := by
  have h1 := By_at? hj
  rw [getElem!_pos l j hj] at h1
  show (#[s.den] ++ (By l).toArray)[1 + j]? = _
  rw [Array.getElem?_append_right (by simp)]
  simpa using h1
theorem sh_set {s : SC} {l : List UInt8} {j : Nat} (y : UInt8) : (catP [.one s, .agg 64 (By (l.set j y)).toArray]).toList = (catP [.one s, .agg 64 (By l).toArray]).toList.set (1 + j) (.int .u8 (y.toNat : Int)) := by
  have h : ∀ l : List UInt8, (catP [.one s, .agg 64 (By l).toArray]).toList = s.den :: By l := fun l => by
    show (#[s.den] ++ (By l).toArray).toList = _
    simp
  have e : By (l.set j y) = (By l).set j (.int .u8 (y.toNat : Int)) := List.map_set
  rw [h, h, Nat.add_comm, List.set_cons_succ, e]
theorem tmod_nat (f : Int) (m : Nat) (h0 : 0 < m) : ∃ k : Nat, k < m ∧ (IntKind.u64.wrap f).tmod (m : Int) = (k : Int) := by
  have h1 : 0 ≤ IntKind.u64.wrap f := by show 0 ≤ f % 18446744073709551616; omega
  exact ⟨(IntKind.u64.wrap f).toNat % m, Nat.mod_lt _ h0, by rw [Int.tmod_eq_emod_of_nonneg h1, Int.natCast_emod, Int.toNat_of_nonneg h1]⟩
section
variable {α : Type} {fe : α → SQ} {l : List α} {P : Program} {b : Base} {ops : Array Oper} {Q : Exit → Act → World → Prop} {N : Nat} {E : SE} {L : List LV} {R : List Res} {F M : World → Prop} {e : TypeId} {A : Option Addr} {lo c sz : Nat}
/-- What hangs on a step that was left out is left out. -/
theorem l_skipU {o : Oper} {rest : List Oper} {j t k : Nat} {q : Bool} (hgd : o.guard = some (j, q)) (hj : (ops[j]?).bind (·.dst) = some t) (hN : Nat.blt t N = true) (ht : lookS E t = some (.v undef)) (hd : o.dst = some k) (hk : Nat.blt k N = true)
    (hn : lS P b ops Q N rest ⟨(k, .v undef) :: E, L, R, F, M⟩) : lS P b ops Q N (o :: rest) ⟨E, L, R, F, M⟩ := fun a w ⟨G, S, h1, h2, h3⟩ => by
  have hw : Region.wanted o (yielded ops a.tmps) = false := by
    have h4 := h1.get t undef (by rw [look_den, ht]; rfl)
    have htN : t < a.tmps.size := by rw [h1.size]; simpa using hN
    simp only [Act.eval, Array.getD_eq_getD_getElem?] at h4
    have h5 : a.tmps[t]? = some undef := by
      rw [Array.getElem?_eq_getElem htN] at h4 ⊢
      simpa using h4
    unfold Region.wanted
    rw [hgd]
    simp [yielded, hj, h5, undef]
  unfold wpList
  rw [hw, if_neg (by decide), hd]
  exact hn _ w ⟨G, S, h1.put hk undef, h2.cons trivial, h3⟩
/-- Where a slice of one's own lies. -/
theorem s_where {y : Code} (i : Nat) (hi : R[i]? = some (OwnS lo e sz fe A c l)) (h0 : 0 < l.length) (h : ∀ g, A = some ⟨g, 0, none⟩ → cS P b y Q N ⟨E, L, R, F, M⟩) : cS P b y Q N ⟨E, L, R, F, M⟩ := fun a w ⟨G, S, h1, h2, h3⟩ => by
  obtain ⟨S1, ⟨_, hrow, _⟩, _⟩ := h3.put hi
  rcases hrow.2 with ⟨_, h7⟩ | ⟨g, cap, cur, hv, _⟩
  · omega
  injection hv with v1 _ _
  exact h g v1 a w ⟨G, S, h1, h2, h3⟩
/-- What is known of a slice of one's own, whatever the world. -/
theorem s_own {y : Code} (i : Nat) (hi : R[i]? = some (OwnS lo e sz fe A c l)) (h : OkF sz fe l → l.length ≤ c → (A = none → c = 0) → cS P b y Q N ⟨E, L, R, F, M⟩) : cS P b y Q N ⟨E, L, R, F, M⟩ := fun a w ⟨G, S, h1, h2, h3⟩ => by
  obtain ⟨S1, h5, _⟩ := h3.put hi
  have hr := OwnS.rd h5
  exact h hr.2.2.2.1 hr.1 hr.2.2.1 a w ⟨G, S, h1, h2, h3⟩
theorem OwnS.cut {w : World} {S : Nat → Prop} (h : (OwnS lo e sz fe A c l).holds w S) (m : Nat) : (OwnS lo e sz fe A c (l.take m)).holds w S := by
  obtain ⟨h1, h2, h3⟩ := h
  have hok : OkF sz fe (l.take m) := fun x hx => h1 x (List.mem_of_mem_take hx)
  refine ⟨hok, ⟨flatF_len hok, ?_⟩, h3⟩
  rcases h2.2 with ⟨h4, h5⟩ | ⟨g, cap, cur, hv, hb, hg, hnc, hm, hs, ht⟩
  · have hl := List.eq_nil_of_length_eq_zero h5
    subst hl
    exact .inl ⟨by simpa using h4, by simp⟩
  · injection hv with v1 _ v3
    refine .inr ⟨g, cap, cur, by rw [v1, v3], hb, hg, Nat.le_trans (List.length_take_le' _ _) hnc, hm, hs, ?_⟩
    have e1 : flatF fe l = flatF fe (l.take m) ++ flatF fe (l.drop m) := by rw [← flatF_app, List.take_append_drop]
    have e2 : (flatF fe (l.take m)).length = (l.take m).length * sz := flatF_len hok
    have e3 : (l.take m).length * sz ≤ l.length * sz := Nat.mul_le_mul_right _ (List.length_take_le' _ _)
    have e4 := congrArg (List.take ((l.take m).length * sz)) ht
    rw [List.take_take, Nat.min_eq_left e3, e1, ← e2, List.take_left] at e4
    rw [← e2]
    exact e4
/-- Of a slice of one's own the first m are wanted from here on. -/
theorem l_cutR {l' : List Oper} (i m : Nat) (hi : R[i]? = some (OwnS lo e sz fe A c l)) (h : lS P b ops Q N l' ⟨E, L, R.set i (OwnS lo e sz fe A c (l.take m)), F, M⟩) : lS P b ops Q N l' ⟨E, L, R, F, M⟩ := fun a w ⟨G, S, h1, h2, h3⟩ => by
  obtain ⟨S1, h5, hput⟩ := h3.put hi
  obtain ⟨S', h6⟩ := hput _ w S1 (Chg.refl _ _) (OwnS.cut h5 m) (fun _ h _ => h)
  exact h a w ⟨G, S', h1, h2, h6⟩
end
/-- A bool that is seen. -/
def eV (t : Bool) : SQ := .c (.v (.bool t))
theorem eV_ok (t : Bool) : OkP (eV t).parts1 ∧ (eV t).cl.length = 1 := ⟨fun p hp => by rw [List.mem_singleton.1 hp]; exact ⟨trivial, rfl, rfl⟩, rfl⟩
end Go.Proofs.YtlaikmpnijlcbaaDoor
/-
  OBJECTS, over states: written behind pointers; variables that are handed out as objects; slices cut at their begin.
-/
namespace Go.Proofs.YtlaikmpnijlcbaaDoor
open Go.RowKit Go.IntWalk

section
variable {P : Program} {T : List TyR} {b : Base} {ops : Array Oper} {Q : Exit → Act → World → Prop} {N : Nat} {E E' : SE} {L : List LV} {R : List Res} {F M : World → Prop} {o : Oper} {rest : List Oper} {k : Nat} {t ty : TypeId} {x z : Operand} {off g : Nat} {ps ps' : List Pt} {q : SQ}
/-- What lies behind a pointer of one's own is written. -/
theorem l_stO (hT : OkT P T) (i : Nat) (hi : R[i]? = some (ObjS g ty ps)) (hg : o.guard = none) (hd : o.dst = none) (ho : o.op = .store t x z) (hx : evS E x = some (.v (.pointer (some ⟨g, off, none⟩)))) (hz : evS E z = some (.q q)) (hs : storeS T ps t off q = some ps')
    (hn : lS P b ops Q N rest ⟨E, L, R.set i (ObjS g ty ps'), F, M⟩) : lS P b ops Q N (o :: rest) ⟨E, L, R, F, M⟩ := fun a w ⟨G, S, f1, f2, f3⟩ => by
  obtain ⟨S1, ⟨⟨hb, hok⟩, hS1⟩, hput⟩ := f3.put hi
  have e1 : a.eval x = .pointer (some ⟨g, off, none⟩) := f1.eval (evS_ok hx)
  have e2 : a.eval z = q.den := f1.eval (evS_ok hz)
  obtain ⟨h3, h4⟩ := storeS_ok hT hok (f2.ev hz) hs
  obtain ⟨S'', h6⟩ := hput (ObjS g ty ps') (w.setRow g (catP ps')) S1 ((Chg.row w g _).mono fun k _ hk => (hS1 k).2 hk) ⟨⟨hb.row _, h3⟩, hS1⟩ (fun k hk _ => hk)
  refine wpl_skip (w' := w.setRow g (catP ps')) (oneS hg) (by
    unfold execOp
    simp only [ho, e1, e2, h4 hb, Sem.run_bind, Sem.run_pure, Result.andThen_ok]) ?_
  rw [hd]
  exact hn _ _ ⟨G, S'', f1, f2, h6⟩
theorem StW.give {G : Nat → Nat} {S : Nat → Prop} {y : LV} {w : World} (h : StW b G S (y :: L) R F M w) : StW b G (fun k => k = G y.j ∨ S k) L (ObjS (G y.j) y.t y.ps :: R) F M w := by
  have hM : ∀ k, Mine (fun k => k = G y.j ∨ S k) G L k → Mine S G (y :: L) k := fun k hk => by
    rcases hk with (rfl | hk) | ⟨j, hj, rfl⟩
    · exact .inr ⟨y.j, List.mem_cons_self, rfl⟩
    · exact .inl hk
    · exact .inr ⟨j, List.mem_cons_of_mem _ hj, rfl⟩
  have hy := h.var y List.mem_cons_self
  have hap := List.pairwise_cons.1 (show (y.j :: namesL L).Pairwise fun i j => G i ≠ G j from h.apart)
  refine ⟨fun x hx => h.var x (List.mem_cons_of_mem _ hx), hap.2, ⟨fun k => k = G y.j, S, ⟨⟨hy.1, hy.2.1⟩, fun _ => Iff.rfl⟩, h.res, fun _ => Iff.rfl, fun k hk hs => h.sep y.j List.mem_cons_self (by rw [← hk]; exact hs)⟩, fun j hj hs => ?_, h.fact.less fun k _ hk => hk.imp id (hM k), h.fresh.less fun k _ hk => hk.imp id (hM k), h.chg, fun k hk => h.mine k (hM k hk), h.old⟩
  rcases hs with hs | hs
  · exact hap.1 j hj hs.symm
  · exact h.sep j (List.mem_cons_of_mem _ hj) hs
/-- The newest variable is an object from here on. -/
theorem k_give {K : Act → World → Prop} {y : LV} (i : Nat) (hx : lookS E i = some (.a y.j 0)) (hs : SubS E' E) (h : ∀ g, kS b K N ⟨(i, .v (.pointer (some ⟨g, 0, none⟩))) :: E', L, ObjS g y.t y.ps :: R, F, M⟩) : kS b K N ⟨E, y :: L, R, F, M⟩ := fun a w ⟨G, S, h1, h2, h3⟩ => by
  refine h (G y.j) a w ⟨G, _, ?_, (hs.ok h2).cons trivial, h3.give⟩
  exact (h1.sub (denE_sub hs)).more (h1.get i _ (by rw [look_den, hx]; rfl))
end
/-- The address behind a cut at the begin. -/
def cutA (A : Option Addr) (c n : Nat) : Option Addr := if c = n then A else A.map (·.add n)
theorem Rd.part {A : Option Addr} {c n : Nat} {l : List UInt8} {w : World} (h : Rd 1 eB A c l w) (hn : n ≤ l.length) : Rd 1 eB (cutA A c n) (c - n) (l.drop n) w := by
  have h1 := h.sl.part (n := l.length - n) hn
  rw [List.take_of_length_le (by rw [List.length_drop]; exact Nat.le_refl _)] at h1
  exact Rd.of_sl h1
section
variable {N : Nat} {E : SE} {o : Oper} {x y : Operand} {t : TypeId}
/-- A cut at the begin: s[j:] of bytes. -/
theorem run_cutLo {A : Option Addr} {n c j : Nat} (hj : j ≤ n) (hc : n ≤ c) (hA : A = none → c = 0) (ho : o.op = .slice 45 x (some y) none none) (hx : evS E x = some (.v (.slice A n c))) (hy : evS E y = some (.v (.int .i64 (j : Int)))) :
    ∀ (G : Nat → Nat) (a : Act) (w : World), Fr N (denE G E) a → (execOp a.eval o).run Tryd.prog w = .ok (.value ((SV.v (.slice (cutA A c j) (n - j) (c - j))).den G)) w := fun G a w ha => by
  have h1 : a.eval x = .slice A n c := ha.eval (evS_ok hx)
  have h2 : a.eval y = .int .i64 (j : Int) := ha.eval (evS_ok hy)
  have h3 : (j : Int) ≤ (n : Int) := by omega
  have h4 : (0 : Int) ≤ (j : Int) := by omega
  have h5 : (n : Int) ≤ (c : Int) := by omega
  unfold execOp
  simp only [ho]
  generalize a.eval = ρ at *
  simp only [Option.map, h1, h2]
  show _ = Result.ok (Next.value (.slice (cutA A c j) (n - j) (c - j))) w
  cases A with
  | none =>
    obtain rfl : c = 0 := hA rfl
    obtain rfl : n = 0 := by omega
    obtain rfl : j = 0 := by omega
    go_simp
    rfl
  | some ad =>
    unfold cutA
    by_cases e : c = j
    · rw [if_pos e]
      go_simp
    · rw [if_neg e]
      go_simp
end
end Go.Proofs.YtlaikmpnijlcbaaDoor
/-
PLAIN NUMBERS: primes, Fermat's little theorem, Pocklington's criterion; p = 2^255 - 19 is prime. No program is imported.
PLAIN NUMBERS: the numbers modulo a prime as Fin n: no divisors of zero, powers, inverses, roots. No program is imported.
PLAIN NUMBERS: the curve -x² + y² = 1 + d x² y² modulo a prime, where -1 is a square and d is none: its sums are a group. No program is imported.
-/

namespace Nums

def Prime (p : Nat) : Prop := 1 < p ∧ ∀ m, m ∣ p → m = 1 ∨ m = p

theorem Prime.pos {p : Nat} (h : Prime p) : 0 < p := by have := h.1; omega

theorem Prime.coprime {p a : Nat} (h : Prime p) (ha : ¬ p ∣ a) : Nat.Coprime p a := by
  have hd : Nat.gcd p a ∣ p := Nat.gcd_dvd_left p a
  rcases h.2 _ hd with h1 | h1
  · exact h1
  · exact absurd (h1 ▸ Nat.gcd_dvd_right p a) ha

theorem Prime.dvd_mul {p a b : Nat} (h : Prime p) (hd : p ∣ a * b) : p ∣ a ∨ p ∣ b := by
  by_cases ha : p ∣ a
  · exact .inl ha
  · exact .inr ((h.coprime ha).dvd_of_dvd_mul_left hd)

theorem Prime.dvd_pow {p a : Nat} (h : Prime p) : ∀ {n : Nat}, p ∣ a ^ n → p ∣ a
  | 0, hd => by
    have := Nat.le_of_dvd (by omega) (by simpa using hd : p ∣ 1)
    have := h.1
    omega
  | n + 1, hd => by
    rw [Nat.pow_succ] at hd
    rcases h.dvd_mul hd with h1 | h1
    · exact h.dvd_pow h1
    · exact h1

/-- Every number above 1 has a prime divisor. -/
theorem exists_prime_dvd : ∀ (n : Nat), 1 < n → ∃ r, Prime r ∧ r ∣ n := by
  intro n
  induction n using Nat.strongRecOn with
  | ind n ih =>
    intro hn
    by_cases hp : ∃ m, m ∣ n ∧ m ≠ 1 ∧ m ≠ n
    · obtain ⟨m, hm, h1, h2⟩ := hp
      have hle := Nat.le_of_dvd (by omega) hm
      have hpos := Nat.pos_of_dvd_of_pos hm (by omega)
      obtain ⟨r, hr, hrm⟩ := ih m (by omega) (by omega)
      exact ⟨r, hr, Nat.dvd_trans hrm hm⟩
    · refine ⟨n, ⟨hn, fun m hm => ?_⟩, Nat.dvd_refl n⟩
      by_cases h1 : m = 1
      · exact .inl h1
      · by_cases h2 : m = n
        · exact .inr h2
        · exact absurd ⟨m, hm, h1, h2⟩ hp

/-- A composite number has a prime divisor whose square is at most it. -/
theorem small_prime {n : Nat} (hn : 1 < n) (hp : ¬ Prime n) : ∃ r, Prime r ∧ r ∣ n ∧ r * r ≤ n := by
  have : ∃ m, m ∣ n ∧ m ≠ 1 ∧ m ≠ n := by
    by_cases h : ∃ m, m ∣ n ∧ m ≠ 1 ∧ m ≠ n
    · exact h
    · refine absurd ⟨hn, fun m hm => ?_⟩ hp
      by_cases h1 : m = 1
      · exact .inl h1
      · by_cases h2 : m = n
        · exact .inr h2
        · exact absurd ⟨m, hm, h1, h2⟩ h
  obtain ⟨m, ⟨k, hk⟩, h1, h2⟩ := this
  have hm0 : 0 < m := by
    rcases Nat.eq_zero_or_pos m with h | h
    · subst h; simp at hk; omega
    · exact h
  have hk0 : 0 < k := by
    rcases Nat.eq_zero_or_pos k with h | h
    · subst h; simp at hk; omega
    · exact h
  have hk1 : k ≠ 1 := fun h => by subst h; simp at hk; omega
  rcases Nat.le_total m k with hle | hle
  · obtain ⟨r, hr, hrm⟩ := exists_prime_dvd m (by omega)
    have hrle := Nat.le_of_dvd hm0 hrm
    exact ⟨r, hr, Nat.dvd_trans hrm ⟨k, hk⟩, by rw [hk]; exact Nat.mul_le_mul hrle (Nat.le_trans hrle hle)⟩
  · obtain ⟨r, hr, hrk⟩ := exists_prime_dvd k (by omega)
    have hrle := Nat.le_of_dvd hk0 hrk
    exact ⟨r, hr, Nat.dvd_trans hrk ⟨m, by rw [hk, Nat.mul_comm]⟩, by rw [hk]; exact Nat.mul_le_mul (Nat.le_trans hrle hle) hrle⟩

/-! Fermat. -/
def prod (l : List Nat) : Nat := l.foldr (· * ·) 1
theorem prod_cons (a : Nat) (l : List Nat) : prod (a :: l) = a * prod l := rfl
theorem prod_perm {l1 l2 : List Nat} (h : l1.Perm l2) : prod l1 = prod l2 := by
  induction h with
  | nil => rfl
  | cons x _ ih => rw [prod_cons, prod_cons, ih]
  | swap x y l => rw [prod_cons, prod_cons, prod_cons, prod_cons, ← Nat.mul_assoc, ← Nat.mul_assoc, Nat.mul_comm x y]
  | trans _ _ ih1 ih2 => rw [ih1, ih2]

theorem perm_of : ∀ {l1 l2 : List Nat}, l1.Nodup → (∀ x ∈ l1, x ∈ l2) → l2.length ≤ l1.length → l1.Perm l2
  | [], l2, _, _, hl => by
    have : l2 = [] := List.eq_nil_of_length_eq_zero (by simpa using hl)
    subst this
    exact List.Perm.refl _
  | x :: l1, l2, hn, hs, hl => by
    have hx : x ∈ l2 := hs x (by simp)
    have hp := List.perm_cons_erase hx
    obtain ⟨hx1, hn1⟩ := List.nodup_cons.1 hn
    have h1 : l1.Perm (l2.erase x) := perm_of hn1 (fun y hy => (List.mem_erase_of_ne (fun (e : y = x) => hx1 (e ▸ hy))).2 (hs y (by simp [hy]))) (by
      rw [List.length_erase_of_mem hx]
      simp at hl
      omega)
    exact (List.Perm.cons x h1).trans hp.symm

theorem prod_map_mod (a r : Nat) : ∀ (l : List Nat), prod (l.map fun i => a * i % r) % r = a ^ l.length * prod l % r
  | [] => by simp [prod]
  | i :: l => by
    rw [List.map_cons, prod_cons, prod_cons, List.length_cons, Nat.mul_mod, prod_map_mod a r l, Nat.mod_mod, ← Nat.mul_mod, Nat.pow_succ]
    congr 1
    rw [Nat.mul_assoc, Nat.mul_assoc]
    rw [Nat.mul_left_comm i, ← Nat.mul_assoc a (a ^ l.length), Nat.mul_comm a (a ^ l.length), Nat.mul_assoc]

theorem coprime_prod {r : Nat} (hr : Prime r) : ∀ (l : List Nat), (∀ x ∈ l, ¬ r ∣ x) → ¬ r ∣ prod l
  | [], _, h => by
    have := Nat.le_of_dvd (by simp [prod]) h
    simp [prod] at this
    have := hr.1
    omega
  | x :: l, hl, h => by
    rw [prod_cons] at h
    rcases hr.dvd_mul h with h1 | h1
    · exact hl x (by simp) h1
    · exact coprime_prod hr l (fun y hy => hl y (by simp [hy])) h1

theorem mod_cancel {r a b c : Nat} (hr : Prime r) (hc : ¬ r ∣ c) (h : a * c % r = b * c % r) : a % r = b % r := by
  have key : ∀ {x y : Nat}, y ≤ x → x * c % r = y * c % r → x % r = y % r := fun {x y} hle h => by
    have h1 : r ∣ x * c - y * c := Nat.dvd_of_mod_eq_zero (Nat.sub_mod_eq_zero_of_mod_eq h)
    rw [← Nat.sub_mul] at h1
    rcases hr.dvd_mul h1 with ⟨t, ht⟩ | h2
    · have : x = y + r * t := by omega
      rw [this, Nat.add_mul_mod_self_left]
    · exact absurd h2 hc
  rcases Nat.le_total b a with hle | hle
  · exact key hle h
  · exact (key hle h.symm).symm

theorem nodup_map {f : Nat → Nat} : ∀ {l : List Nat}, l.Nodup → (∀ x ∈ l, ∀ y ∈ l, f x = f y → x = y) → (l.map f).Nodup
  | [], _, _ => by simp
  | a :: l, hn, hi => by
    obtain ⟨h1, h2⟩ := List.nodup_cons.1 hn
    rw [List.map_cons, List.nodup_cons]
    refine ⟨fun h => ?_, nodup_map h2 (fun x hx y hy => hi x (by simp [hx]) y (by simp [hy]))⟩
    obtain ⟨b, hb, e⟩ := List.mem_map.1 h
    have := hi b (by simp [hb]) a (by simp) e
    subst this
    exact h1 hb

theorem fermat {r a : Nat} (hr : Prime r) (ha : ¬ r ∣ a) : a ^ (r - 1) % r = 1 := by
  have hr1 := hr.1
  have hnd : ∀ i ∈ List.range' 1 (r - 1), ¬ r ∣ i := fun i hi hd => by
    have hi' := List.mem_range'_1.1 hi
    have := Nat.le_of_dvd (by omega) hd
    omega
  have hperm : ((List.range' 1 (r - 1)).map fun i => a * i % r).Perm (List.range' 1 (r - 1)) := by
    refine perm_of ?_ ?_ (by simp)
    · refine nodup_map List.nodup_range' fun x hx y hy h => ?_
      have hx' := List.mem_range'_1.1 hx
      have hy' := List.mem_range'_1.1 hy
      rw [Nat.mul_comm a x, Nat.mul_comm a y] at h
      have := mod_cancel hr ha h
      rwa [Nat.mod_eq_of_lt (by omega), Nat.mod_eq_of_lt (by omega)] at this
    · intro x hx
      obtain ⟨i, hi, rfl⟩ := List.mem_map.1 hx
      have hlt : a * i % r < r := Nat.mod_lt _ hr.pos
      have hne : a * i % r ≠ 0 := fun h0 => by
        rcases hr.dvd_mul (Nat.dvd_of_mod_eq_zero h0) with h1 | h1
        · exact ha h1
        · exact hnd i hi h1
      exact List.mem_range'_1.2 ⟨by omega, by omega⟩
  have h1 := prod_map_mod a r (List.range' 1 (r - 1))
  rw [prod_perm hperm, List.length_range'] at h1
  have h2 : 1 * prod (List.range' 1 (r - 1)) % r = a ^ (r - 1) * prod (List.range' 1 (r - 1)) % r := by rw [Nat.one_mul]; exact h1
  have h3 := mod_cancel hr (coprime_prod hr _ hnd) h2
  rw [← h3, Nat.mod_eq_of_lt hr1]

/-! Powers modulo a number, reckoned. -/
def pm (n a : Nat) : Nat → Nat → Nat
  | 0, _ => 1 % n
  | k + 1, e => if e % 2 = 1 then pm n a k (e / 2) * pm n a k (e / 2) % n * a % n else pm n a k (e / 2) * pm n a k (e / 2) % n

theorem pm_eq (n a : Nat) : ∀ (k e : Nat), e < 2 ^ k → pm n a k e = a ^ e % n
  | 0, e, h => by
    have : e = 0 := by simpa using h
    subst this
    simp [pm]
  | k + 1, e, h => by
    have h1 : e / 2 < 2 ^ k := by rw [Nat.pow_succ] at h; omega
    have ih := pm_eq n a k (e / 2) h1
    unfold pm
    rw [ih]
    have e2 : a ^ (e / 2) % n * (a ^ (e / 2) % n) % n = a ^ (2 * (e / 2)) % n := by
      rw [← Nat.mul_mod, ← Nat.pow_add]
      congr 2
      omega
    rw [e2]
    split
    · rw [Nat.mod_mul_mod, ← Nat.pow_succ]
      congr 2
      omega
    · congr 2
      omega

theorem pow_gcd {r a : Nat} (hr : 1 < r) : ∀ (m n : Nat), a ^ m % r = 1 → a ^ n % r = 1 → a ^ Nat.gcd m n % r = 1 := by
  intro m n
  induction m, n using Nat.gcd.induction with
  | H0 n => intro _ h; simpa using h
  | H1 m n hm ih =>
    intro h1 h2
    rw [Nat.gcd_rec]
    refine ih ?_ h1
    have e : a ^ n = (a ^ m) ^ (n / m) * a ^ (n % m) := by
      rw [← Nat.pow_mul, ← Nat.pow_add, Nat.div_add_mod]
    have h3 : (a ^ m) ^ (n / m) % r = 1 := by
      rw [Nat.pow_mod, h1, Nat.one_pow, Nat.mod_eq_of_lt hr]
    rw [e, Nat.mul_mod, h3, Nat.one_mul, Nat.mod_mod] at h2
    exact h2

theorem pock_one {n q a m r : Nat} (hq : Prime q) (hn : n - 1 = q * m) (hn1 : 1 < n) (h1 : a ^ (n - 1) % n = 1) (g1 : Nat.gcd (a ^ m % n + n - 1) n = 1) (hr : Prime r) (hrn : r ∣ n) : q ∣ r - 1 := by
  have hr1 := hr.1
  have hmod : ∀ x, x % n % r = x % r := fun x => Nat.mod_mod_of_dvd x hrn
  have h1r : a ^ (n - 1) % r = 1 := by rw [← hmod, h1, Nat.mod_eq_of_lt hr1]
  have hra : ¬ r ∣ a := fun hd => by
    have h0 : a ^ (n - 1) % r = 0 := by
      refine Nat.mod_eq_zero_of_dvd (Nat.dvd_trans hd ?_)
      exact ⟨a ^ (n - 2), by rw [← Nat.pow_succ']; congr 1; omega⟩
    omega
  by_cases hqr : q ∣ r - 1
  · exact hqr
  · have hf := fermat hr hra
    have hg := pow_gcd hr1 (n - 1) (r - 1) h1r hf
    have hcop : Nat.Coprime (Nat.gcd (n - 1) (r - 1)) q := by
      have := hq.coprime (a := Nat.gcd (n - 1) (r - 1)) (fun hd => hqr (Nat.dvd_trans hd (Nat.gcd_dvd_right _ _)))
      exact this.symm
    have hdm : Nat.gcd (n - 1) (r - 1) ∣ m := by
      have : Nat.gcd (n - 1) (r - 1) ∣ q * m := hn ▸ Nat.gcd_dvd_left (n - 1) (r - 1)
      exact hcop.dvd_of_dvd_mul_left this
    obtain ⟨t, ht⟩ := hdm
    have hm : a ^ m % r = 1 := by
      rw [ht, Nat.pow_mul, Nat.pow_mod, hg, Nat.one_pow, Nat.mod_eq_of_lt hr1]
    exfalso
    have hlt : a ^ m % n < n := Nat.mod_lt _ (by omega)
    have hd : r ∣ a ^ m % n + n - 1 := by
      have e1 : a ^ m % n % r = 1 := by rw [hmod]; exact hm
      have e2 : 1 ≤ a ^ m % n := by
        rcases Nat.eq_zero_or_pos (a ^ m % n) with h0 | h0
        · rw [h0] at e1; simp at e1
        · exact h0
      have e3 : r ∣ a ^ m % n - 1 := Nat.dvd_of_mod_eq_zero (by
        have := Nat.sub_mod_eq_zero_of_mod_eq (m := a ^ m % n) (n := 1) (k := r) (by rw [e1, Nat.mod_eq_of_lt hr1])
        exact this)
      have e4 : a ^ m % n + n - 1 = (a ^ m % n - 1) + n := by omega
      rw [e4]
      exact Nat.dvd_add e3 hrn
    have := Nat.dvd_gcd hd hrn
    rw [g1] at this
    have := Nat.le_of_dvd (by omega) this
    omega

/-- Pocklington's criterion with two primes. -/
theorem pocklington {n q1 q2 m1 m2 a : Nat} (hq1 : Prime q1) (hq2 : Prime q2) (hne : q1 ≠ q2) (hn1 : 1 < n) (hm1 : n - 1 = q1 * m1) (hm2 : n - 1 = q2 * m2) (hsz : n < (q1 * q2 + 1) * (q1 * q2 + 1))
    (h1 : a ^ (n - 1) % n = 1) (g1 : Nat.gcd (a ^ m1 % n + n - 1) n = 1) (g2 : Nat.gcd (a ^ m2 % n + n - 1) n = 1) : Prime n := by
  by_cases hp : Prime n
  · exact hp
  · exfalso
    obtain ⟨r, hr, hrn, hrr⟩ := small_prime hn1 hp
    have d1 := pock_one hq1 hm1 hn1 h1 g1 hr hrn
    have d2 := pock_one hq2 hm2 hn1 h1 g2 hr hrn
    have hcop : Nat.Coprime q1 q2 := hq1.coprime (fun hd => by
      rcases hq2.2 _ hd with h | h
      · have := hq1.1; omega
      · exact hne h)
    have hd : q1 * q2 ∣ r - 1 := hcop.mul_dvd_of_dvd_of_dvd d1 d2
    have hr1 := hr.1
    have hle := Nat.le_of_dvd (by omega) hd
    have h2 : q1 * q2 + 1 ≤ r := by omega
    have := Nat.mul_le_mul h2 h2
    omega

/-- The criterion's reckoning, as one Bool. -/
def pockB (n q1 q2 a k : Nat) : Bool :=
  decide (1 < n) && decide (n - 1 = q1 * ((n - 1) / q1)) && decide (n - 1 = q2 * ((n - 1) / q2)) && decide (n < (q1 * q2 + 1) * (q1 * q2 + 1)) && decide (q1 ≠ q2) && decide (n < 2 ^ k) &&
  (pm n a k (n - 1) == 1) && (Nat.gcd (pm n a k ((n - 1) / q1) + n - 1) n == 1) && (Nat.gcd (pm n a k ((n - 1) / q2) + n - 1) n == 1)

theorem prime_of {n q1 q2 a k : Nat} (hq1 : Prime q1) (hq2 : Prime q2) (h : pockB n q1 q2 a k = true) : Prime n := by
  simp only [pockB, Bool.and_eq_true, decide_eq_true_eq, beq_iff_eq] at h
  obtain ⟨⟨⟨⟨⟨⟨⟨⟨h1, h2⟩, h3⟩, h4⟩, h5⟩, h6⟩, h7⟩, h8⟩, h9⟩ := h
  have hd1 : (n - 1) / q1 ≤ n - 1 := Nat.div_le_self _ _
  have hd2 : (n - 1) / q2 ≤ n - 1 := Nat.div_le_self _ _
  rw [pm_eq n a k _ (by omega)] at h7 h8 h9
  exact pocklington hq1 hq2 h5 h1 h2 h3 h4 h7 h8 h9

/-- Trial division. -/
def trial (n : Nat) : Nat → Bool
  | 0 => true
  | k + 1 => trial n k && (decide (k < 2) || decide (n % k ≠ 0))
theorem trial_get {n : Nat} : ∀ {k m : Nat}, trial n k = true → 2 ≤ m → m < k → ¬ m ∣ n
  | k + 1, m, h, h2, hm, hd => by
    simp only [trial, Bool.and_eq_true, Bool.or_eq_true, decide_eq_true_eq] at h
    by_cases e : m = k
    · subst e
      rcases h.2 with h3 | h3
      · omega
      · exact h3 (Nat.mod_eq_zero_of_dvd hd)
    · exact trial_get h.1 h2 (by omega) hd
theorem prime_trial {n k : Nat} (hn : 1 < n) (hk : n < k * k) (h : trial n k = true) : Prime n := by
  by_cases hp : Prime n
  · exact hp
  · exfalso
    obtain ⟨r, hr, hrn, hrr⟩ := small_prime hn hp
    have hr1 := hr.1
    have : r < k := by
      rcases Nat.lt_or_ge r k with h1 | h1
      · exact h1
      · have := Nat.mul_le_mul h1 h1; omega
    exact trial_get h (by omega) this hrn

theorem prime_127 : Prime 127 := prime_trial (k := 12) (by decide) (by decide) (by decide +kernel)
theorem prime_8574133 : Prime 8574133 := prime_trial (k := 2929) (by decide) (by decide +kernel) (by decide +kernel)
theorem prime_75707 : Prime 75707 := prime_trial (k := 276) (by decide) (by decide +kernel) (by decide +kernel)
theorem prime_65147 : Prime 65147 := prime_trial (k := 256) (by decide) (by decide +kernel) (by decide +kernel)
theorem prime_1923133 : Prime 1923133 := prime_trial (k := 1387) (by decide) (by decide +kernel) (by decide +kernel)
theorem prime_a : Prime 1919519569386763 := prime_of (q1 := 8574133) (q2 := 127) (a := 2) (k := 51) prime_8574133 prime_127 (by decide +kernel)
theorem prime_b : Prime 75445702479781427272750846543864801 := prime_of (q1 := 1919519569386763) (q2 := 75707) (a := 7) (k := 116) prime_a prime_75707 (by decide +kernel)
theorem prime_c : Prime 74058212732561358302231226437062788676166966415465897661863160754340907 := prime_of (q1 := 75445702479781427272750846543864801) (q2 := 1923133) (a := 2) (k := 236) prime_b prime_1923133 (by decide +kernel)

/-- p. -/
def p : Nat := 57896044618658097711785492504343953926634992332820282019728792003956564819949
theorem prime_p : Prime p := prime_of (q1 := 74058212732561358302231226437062788676166966415465897661863160754340907) (q2 := 65147) (a := 2) (k := 255) prime_c prime_65147 (by decide +kernel)

end Nums

namespace Nums
section
variable {n : Nat} [NeZero n]

omit [NeZero n] in
theorem val_mul (a b : Fin n) : (a * b).val = a.val * b.val % n := rfl
theorem val_zero : ((0 : Fin n)).val = 0 := by simp
theorem val_one (hn : Prime n) : ((1 : Fin n)).val = 1 := by
  show 1 % n = 1
  exact Nat.mod_eq_of_lt hn.1

theorem ne_one (hn : Prime n) : (0 : Fin n) ≠ 1 := by
  intro h
  have := congrArg Fin.val h
  rw [val_one hn, val_zero] at this
  omega

theorem zero_or (hn : Prime n) {a b : Fin n} (h : a * b = 0) : a = 0 ∨ b = 0 := by
  have h1 : a.val * b.val % n = 0 := by rw [← val_mul, h]; exact val_zero
  have z : ∀ c : Fin n, n ∣ c.val → c = 0 := fun c hc => by
    apply Fin.ext
    rw [val_zero]
    exact Nat.eq_zero_of_dvd_of_lt hc c.isLt
  rcases hn.dvd_mul (Nat.dvd_of_mod_eq_zero h1) with h2 | h2
  · exact .inl (z a h2)
  · exact .inr (z b h2)

theorem mul_ne (hn : Prime n) {a b : Fin n} (ha : a ≠ 0) (hb : b ≠ 0) : a * b ≠ 0 := fun h => by
  rcases zero_or hn h with h | h
  · exact ha h
  · exact hb h

/-- Powers. -/
def fpow (a : Fin n) : Nat → Fin n
  | 0 => 1
  | k + 1 => fpow a k * a

theorem fpow_zero (a : Fin n) : fpow a 0 = 1 := rfl
theorem fpow_succ (a : Fin n) (k : Nat) : fpow a (k + 1) = fpow a k * a := rfl
theorem fpow_add (a : Fin n) (j k : Nat) : fpow a (j + k) = fpow a j * fpow a k := by
  induction k with
  | zero => rw [Nat.add_zero, fpow_zero]; grind
  | succ k ih => rw [Nat.add_succ, fpow_succ, fpow_succ, ih]; grind
theorem fpow_one (a : Fin n) : fpow a 1 = a := by rw [fpow_succ, fpow_zero]; grind
theorem one_fpow (k : Nat) : fpow (1 : Fin n) k = 1 := by
  induction k with
  | zero => rfl
  | succ k ih => rw [fpow_succ, ih]; grind
theorem zero_fpow {k : Nat} (h : 0 < k) : fpow (0 : Fin n) k = 0 := by
  obtain ⟨j, rfl⟩ : ∃ j, k = j + 1 := ⟨k - 1, by omega⟩
  rw [fpow_succ]; grind
theorem fpow_mul (a : Fin n) (j k : Nat) : fpow a (j * k) = fpow (fpow a j) k := by
  induction k with
  | zero => rfl
  | succ k ih => rw [Nat.mul_succ, fpow_add, fpow_succ, ih]
theorem mul_fpow (a b : Fin n) (k : Nat) : fpow (a * b) k = fpow a k * fpow b k := by
  induction k with
  | zero => rw [fpow_zero, fpow_zero, fpow_zero]; grind
  | succ k ih => rw [fpow_succ, fpow_succ, fpow_succ, ih]; grind
theorem fpow_val (hn : Prime n) (a : Fin n) (k : Nat) : (fpow a k).val = a.val ^ k % n := by
  induction k with
  | zero => rw [fpow_zero, val_one hn, Nat.pow_zero, Nat.mod_eq_of_lt hn.1]
  | succ k ih => rw [fpow_succ, val_mul, ih, Nat.pow_succ, Nat.mod_mul_mod]

theorem fpow_fermat (hn : Prime n) {a : Fin n} (ha : a ≠ 0) : fpow a (n - 1) = 1 := by
  apply Fin.ext
  rw [fpow_val hn, val_one hn]
  apply fermat hn
  intro hd
  apply ha
  apply Fin.ext
  rw [val_zero]
  exact Nat.eq_zero_of_dvd_of_lt hd a.isLt

/-- The inverse (of 0: 0). -/
def finv (a : Fin n) : Fin n := fpow a (n - 2)

theorem finv_zero (hn : 2 < n) : finv (0 : Fin n) = 0 := zero_fpow (by omega)
theorem mul_finv (hn : Prime n) {a : Fin n} (ha : a ≠ 0) : a * finv a = 1 := by
  have h := fpow_fermat hn ha
  have h2 : n - 1 = (n - 2) + 1 := by have := hn.1; omega
  rw [h2, fpow_succ] at h
  unfold finv
  rw [← h]; grind

theorem cancel (hn : Prime n) {a b c : Fin n} (hc : c ≠ 0) (h : a * c = b * c) : a = b := by
  have h1 := mul_finv hn hc
  have : a * c * finv c = b * c * finv c := by rw [h]
  grind

theorem finv_of (hn : Prime n) {a b : Fin n} (h : a * b = 1) : finv a = b := by
  have ha : a ≠ 0 := by
    rintro rfl
    exact ne_one hn (by rw [← h]; grind)
  apply cancel hn ha
  have := mul_finv hn ha
  grind

theorem finv_ne (hn : Prime n) {a : Fin n} (ha : a ≠ 0) : finv a ≠ 0 := fun h => by
  have := mul_finv hn ha
  rw [h] at this
  exact ne_one hn (by rw [← this]; grind)

/-- Two roots of one square. -/
theorem root_or (hn : Prime n) {a b : Fin n} (h : a * a = b * b) : a = b ∨ a = -b := by
  have : (a - b) * (a + b) = 0 := by grind
  rcases zero_or hn this with h | h
  · left; grind
  · right; grind

end
end Nums

namespace Nums

theorem Ed.closed {n : Nat} [NeZero n] (x1 y1 x2 y2 d : Fin n) (h1 : y1*y1 - x1*x1 = 1 + d*x1*x1*y1*y1) (h2 : y2*y2 - x2*x2 = 1 + d*x2*x2*y2*y2) :
  (y1*y2+x1*x2)*(y1*y2+x1*x2)*(1+d*x1*x2*y1*y2)*(1+d*x1*x2*y1*y2) - (x1*y2+y1*x2)*(x1*y2+y1*x2)*(1-d*x1*x2*y1*y2)*(1-d*x1*x2*y1*y2)
   = (1+d*x1*x2*y1*y2)*(1+d*x1*x2*y1*y2)*(1-d*x1*x2*y1*y2)*(1-d*x1*x2*y1*y2) + d*(y1*y2+x1*x2)*(y1*y2+x1*x2)*(x1*y2+y1*x2)*(x1*y2+y1*x2) := by grind

set_option maxHeartbeats 4000000 in
theorem Ed.assoc_x {n : Nat} [NeZero n] (x1 y1 x2 y2 x3 y3 d : Fin n) (h1 : y1*y1 - x1*x1 = 1 + d*x1*x1*y1*y1) (h2 : y2*y2 - x2*x2 = 1 + d*x2*x2*y2*y2) (h3 : y3*y3 - x3*x3 = 1 + d*x3*x3*y3*y3) :
  ((x1*y2+y1*x2)*(1-d*x1*x2*y1*y2)*y3 + (y1*y2+x1*x2)*(1+d*x1*x2*y1*y2)*x3) * ((1+d*x2*x3*y2*y3)*(1-d*x2*x3*y2*y3) + d*x1*y1*(x2*y3+y2*x3)*(y2*y3+x2*x3))
  = (x1*(y2*y3+x2*x3)*(1+d*x2*x3*y2*y3) + y1*(x2*y3+y2*x3)*(1-d*x2*x3*y2*y3)) * ((1+d*x1*x2*y1*y2)*(1-d*x1*x2*y1*y2) + d*(x1*y2+y1*x2)*(y1*y2+x1*x2)*x3*y3) := by grind

set_option maxHeartbeats 4000000 in
theorem Ed.assoc_y {n : Nat} [NeZero n] (x1 y1 x2 y2 x3 y3 d : Fin n) (h1 : y1*y1 - x1*x1 = 1 + d*x1*x1*y1*y1) (h2 : y2*y2 - x2*x2 = 1 + d*x2*x2*y2*y2) (h3 : y3*y3 - x3*x3 = 1 + d*x3*x3*y3*y3) :
  ((y1*y2+x1*x2)*(1+d*x1*x2*y1*y2)*y3 + (x1*y2+y1*x2)*(1-d*x1*x2*y1*y2)*x3) * ((1+d*x2*x3*y2*y3)*(1-d*x2*x3*y2*y3) - d*x1*y1*(x2*y3+y2*x3)*(y2*y3+x2*x3))
  = (y1*(y2*y3+x2*x3)*(1+d*x2*x3*y2*y3) + x1*(x2*y3+y2*x3)*(1-d*x2*x3*y2*y3)) * ((1+d*x1*x2*y1*y2)*(1-d*x1*x2*y1*y2) - d*(x1*y2+y1*x2)*(y1*y2+x1*x2)*x3*y3) := by grind

theorem Ed.key {n : Nat} [NeZero n] {X1 Y1 X2 Y2 D e s : Fin n} (h1 : X1*X1 + Y1*Y1 = 1 + D*X1*X1*Y1*Y1) (h2 : X2*X2 + Y2*Y2 = 1 + D*X2*X2*Y2*Y2) (h : D*X1*X2*Y1*Y2 = e) (he : e * e = 1) (hs : s * s = 1) :
    (X1 + s*e*Y1) * (X1 + s*e*Y1) = D * ((X1*Y1*(X2+s*Y2)) * (X1*Y1*(X2+s*Y2))) := by
  have l : (X1 + s*e*Y1) * (X1 + s*e*Y1) = X1*X1 + (s*s)*(e*e)*(Y1*Y1) + 2*s*e*X1*Y1 := by grind only
  have r : D * ((X1*Y1*(X2+s*Y2)) * (X1*Y1*(X2+s*Y2))) = D*X1*X1*Y1*Y1*(X2*X2 + (s*s)*(Y2*Y2)) + 2*s*(D*X1*X2*Y1*Y2)*X1*Y1 := by grind only
  rw [l, r, hs, he, h]
  have e1 : (1 : Fin n) * 1 * (Y1*Y1) = Y1 * Y1 := by grind only
  have e2 : (1 : Fin n) * (Y2*Y2) = Y2 * Y2 := by grind only
  have e3 : D*X1*X1*Y1*Y1*(1 + D*X2*X2*Y2*Y2) = D*X1*X1*Y1*Y1 + (D*X1*X2*Y1*Y2) * (D*X1*X2*Y1*Y2) := by grind only
  rw [e1, e2, h1, h2, e3, h, he]
  grind only

section
variable {n : Nat} [NeZero n]

structure Ed.Pt (n : Nat) where
  x : Fin n
  y : Fin n

/-- A curve: n is a prime, -1 has a root, d has none. -/
structure Ed.Good (n : Nat) [NeZero n] (d : Fin n) : Prop where
  pr : Prime n
  two : (2 : Fin n) ≠ 0
  i : ∃ i : Fin n, i * i = -1
  d : ∀ t : Fin n, t * t ≠ d

namespace Ed
variable {d : Fin n}

def On (d : Fin n) (P : Pt n) : Prop := P.y*P.y - P.x*P.x = 1 + d*P.x*P.x*P.y*P.y

/-- The heart of it: d x1 x2 y1 y2 is neither 1 nor -1. -/
theorem complete (g : Good n d) {x1 y1 x2 y2 e : Fin n} (h1 : y1*y1 - x1*x1 = 1 + d*x1*x1*y1*y1) (h2 : y2*y2 - x2*x2 = 1 + d*x2*x2*y2*y2) (he : e * e = 1) :
    d*x1*x2*y1*y2 ≠ e := by
  intro h
  obtain ⟨i, hi⟩ := g.i
  have e0 : e ≠ 0 := by rintro rfl; exact ne_one g.pr (by grind only)
  have hx1 : x1 ≠ 0 := by rintro rfl; exact e0 (by grind only)
  have hy1 : y1 ≠ 0 := by rintro rfl; exact e0 (by grind only)
  have hx2 : x2 ≠ 0 := by rintro rfl; exact e0 (by grind only)
  have hi0 : i ≠ 0 := by
    rintro rfl
    exact ne_one g.pr (by grind only)
  have g1 : (i*x1)*(i*x1) + y1*y1 = 1 + (-d)*(i*x1)*(i*x1)*y1*y1 := by
    have a : (i*x1)*(i*x1) + y1*y1 = (i*i)*(x1*x1) + y1*y1 := by grind only
    have b : 1 + (-d)*(i*x1)*(i*x1)*y1*y1 = 1 + (-d)*(i*i)*(x1*x1)*y1*y1 := by grind only
    rw [a, b, hi]
    grind only
  have g2 : (i*x2)*(i*x2) + y2*y2 = 1 + (-d)*(i*x2)*(i*x2)*y2*y2 := by
    have a : (i*x2)*(i*x2) + y2*y2 = (i*i)*(x2*x2) + y2*y2 := by grind only
    have b : 1 + (-d)*(i*x2)*(i*x2)*y2*y2 = 1 + (-d)*(i*i)*(x2*x2)*y2*y2 := by grind only
    rw [a, b, hi]
    grind only
  have g3 : (-d)*(i*x1)*(i*x2)*y1*y2 = e := by
    have a : (-d)*(i*x1)*(i*x2)*y1*y2 = (-d)*(i*i)*x1*x2*y1*y2 := by grind only
    rw [a, hi, ← h]
    grind only
  have key : ∀ s : Fin n, s * s = 1 → i*x2 + s*y2 = 0 := by
    intro s hs
    by_cases hz : i*x2 + s*y2 = 0
    · exact hz
    exfalso
    have hw : i*x1*y1*(i*x2+s*y2) ≠ 0 := mul_ne g.pr (mul_ne g.pr (mul_ne g.pr hi0 hx1) hy1) hz
    have hm := mul_finv g.pr hw
    have hk := Ed.key g1 g2 g3 he hs
    generalize i*x1*y1*(i*x2+s*y2) = w at hm hk
    generalize i*x1 + s*e*y1 = v at hk
    refine g.d (i * (v * finv w)) ?_
    have a : i * (v * finv w) * (i * (v * finv w)) = (i*i)*(v*v)*(finv w)*(finv w) := by grind only
    have b : (-1) * ((-d) * (w*w)) * finv w * finv w = d * (w * finv w) * (w * finv w) := by grind only
    rw [a, hi, hk, b, hm]
    grind only
  have k1 := key 1 (by grind only)
  have k2 := key (-1) (by grind only)
  have : (2 : Fin n) * (i * x2) = 0 := by grind only
  rcases zero_or g.pr this with h3 | h3
  · exact g.two h3
  · exact mul_ne g.pr hi0 hx2 h3

end Ed
end
end Nums
/-
PLAIN NUMBERS: the sums of the curve's points are a group; multiples. No program is imported.
PLAIN NUMBERS: multiples of the curve's points; the sum in coordinates over one z. No program is imported.
PLAIN NUMBERS: p = 2^255 - 19: which numbers are squares, and their roots; the curve's d. No program is imported.
-/
namespace Nums
namespace Ed
variable {n : Nat} [NeZero n] {d : Fin n}

def kk (d : Fin n) (P Q : Pt n) : Fin n := d * P.x * Q.x * P.y * Q.y

theorem plus_ne (g : Good n d) {P Q : Pt n} (hP : On d P) (hQ : On d Q) : 1 + kk d P Q ≠ 0 := fun h =>
  complete g hP hQ (e := -1) (by grind only) (by unfold kk at h; grind only)

theorem minus_ne (g : Good n d) {P Q : Pt n} (hP : On d P) (hQ : On d Q) : 1 - kk d P Q ≠ 0 := fun h =>
  complete g hP hQ (e := 1) (by grind only) (by unfold kk at h; grind only)

/-- The sum. -/
def add (d : Fin n) (P Q : Pt n) : Pt n :=
  ⟨(P.x*Q.y + P.y*Q.x) * finv (1 + kk d P Q), (P.y*Q.y + P.x*Q.x) * finv (1 - kk d P Q)⟩

def zero : Pt n := ⟨0, 1⟩
def neg (P : Pt n) : Pt n := ⟨-P.x, P.y⟩

theorem on_zero : On d (zero : Pt n) := by
  show (1 : Fin n) * 1 - 0 * 0 = 1 + d * 0 * 0 * 1 * 1
  grind only

theorem on_neg {P : Pt n} (h : On d P) : On d (neg P) := by
  unfold On neg at *
  show P.y * P.y - -P.x * -P.x = 1 + d * -P.x * -P.x * P.y * P.y
  grind only

theorem add_x (g : Good n d) {P Q : Pt n} (hP : On d P) (hQ : On d Q) : (add d P Q).x * (1 + kk d P Q) = P.x*Q.y + P.y*Q.x := by
  have := mul_finv g.pr (plus_ne g hP hQ)
  show (P.x*Q.y + P.y*Q.x) * finv (1 + kk d P Q) * (1 + kk d P Q) = _
  generalize finv (1 + kk d P Q) = u at *
  generalize 1 + kk d P Q = v at *
  have a : (P.x*Q.y + P.y*Q.x) * u * v = (P.x*Q.y + P.y*Q.x) * (v * u) := by grind only
  rw [a, this]
  grind only

theorem add_y (g : Good n d) {P Q : Pt n} (hP : On d P) (hQ : On d Q) : (add d P Q).y * (1 - kk d P Q) = P.y*Q.y + P.x*Q.x := by
  have := mul_finv g.pr (minus_ne g hP hQ)
  show (P.y*Q.y + P.x*Q.x) * finv (1 - kk d P Q) * (1 - kk d P Q) = _
  generalize finv (1 - kk d P Q) = u at *
  generalize 1 - kk d P Q = v at *
  have a : (P.y*Q.y + P.x*Q.x) * u * v = (P.y*Q.y + P.x*Q.x) * (v * u) := by grind only
  rw [a, this]
  grind only

theorem on_add (g : Good n d) {P Q : Pt n} (hP : On d P) (hQ : On d Q) : On d (add d P Q) := by
  have hx := add_x g hP hQ
  have hy := add_y g hP hQ
  have h1 := plus_ne g hP hQ
  have h2 := minus_ne g hP hQ
  have c := closed P.x P.y Q.x Q.y d hP hQ
  have k1 : (1 : Fin n) + d*P.x*Q.x*P.y*Q.y = 1 + kk d P Q := rfl
  have k2 : (1 : Fin n) - d*P.x*Q.x*P.y*Q.y = 1 - kk d P Q := rfl
  rw [k1, k2] at c
  show (add d P Q).y * (add d P Q).y - (add d P Q).x * (add d P Q).x = 1 + d * (add d P Q).x * (add d P Q).x * (add d P Q).y * (add d P Q).y
  rw [← hx, ← hy] at c
  generalize (add d P Q).x = x at *
  generalize (add d P Q).y = y at *
  generalize 1 + kk d P Q = u at *
  generalize 1 - kk d P Q = v at *
  apply cancel g.pr (mul_ne g.pr (mul_ne g.pr h1 h1) (mul_ne g.pr h2 h2))
  clear hP hQ hx hy
  grind only

theorem add_comm (P Q : Pt n) : add d P Q = add d Q P := by
  unfold add kk
  have a : d * P.x * Q.x * P.y * Q.y = d * Q.x * P.x * Q.y * P.y := by grind only
  have b : P.x*Q.y + P.y*Q.x = Q.x*P.y + Q.y*P.x := by grind only
  have c : P.y*Q.y + P.x*Q.x = Q.y*P.y + Q.x*P.x := by grind only
  rw [a, b, c]

theorem zero_add (g : Good n d) (P : Pt n) : add d zero P = P := by
  unfold add kk zero
  have a : d * 0 * P.x * 1 * P.y = 0 := by grind only
  have f1 : finv (1 + 0 : Fin n) = 1 := finv_of g.pr (by grind only)
  have f2 : finv (1 - 0 : Fin n) = 1 := finv_of g.pr (by grind only)
  show Pt.mk ((0 * P.y + 1 * P.x) * finv (1 + d * 0 * P.x * 1 * P.y)) ((1 * P.y + 0 * P.x) * finv (1 - d * 0 * P.x * 1 * P.y)) = P
  rw [a, f1, f2]
  have b : (0 * P.y + 1 * P.x) * 1 = P.x := by grind only
  have c : (1 * P.y + 0 * P.x) * 1 = P.y := by grind only
  rw [b, c]

theorem add_zero (g : Good n d) (P : Pt n) : add d P zero = P := by rw [add_comm, zero_add g]

theorem add_neg (g : Good n d) {P : Pt n} (hP : On d P) : add d P (neg P) = zero := by
  have hm := minus_ne g hP (on_neg hP)
  have := mul_finv g.pr hm
  unfold add zero
  have a : (P.x * (neg P).y + P.y * (neg P).x) = 0 := by show P.x * P.y + P.y * -P.x = 0; grind only
  have b : P.y * (neg P).y + P.x * (neg P).x = 1 - kk d P (neg P) := by
    show P.y * P.y + P.x * -P.x = 1 - d * P.x * -P.x * P.y * P.y
    unfold On at hP
    grind only
  rw [a, b, this]
  have c : 0 * finv (1 + kk d P (neg P)) = 0 := by grind only
  rw [c]

theorem re_xl (sx sy rx ry px py tx ty a b e f d : Fin n) : (sx * a * b * ry + sy * b * a * rx) * (e * f + d * px * py * (tx * e) * (ty * f))
      = (a * b * e * f) * ((sx * ry + sy * rx) * (1 + d * px * tx * py * ty)) := by grind only
theorem re_xr (sx sy rx ry px py tx ty a b e f d : Fin n) : (px * (ty * f) * e + py * (tx * e) * f) * (a * b + d * (sx * a) * (sy * b) * rx * ry)
      = (a * b * e * f) * ((px * ty + py * tx) * (1 + d * sx * rx * sy * ry)) := by grind only
theorem re_yl (sx sy rx ry px py tx ty a b e f d : Fin n) : (sy * b * a * ry + sx * a * b * rx) * (e * f - d * px * py * (tx * e) * (ty * f))
      = (a * b * e * f) * ((sy * ry + sx * rx) * (1 - d * px * tx * py * ty)) := by grind only
theorem re_yr (sx sy rx ry px py tx ty a b e f d : Fin n) : (py * (ty * f) * e + px * (tx * e) * f) * (a * b - d * (sx * a) * (sy * b) * rx * ry)
      = (a * b * e * f) * ((py * ty + px * tx) * (1 - d * sx * rx * sy * ry)) := by grind only
theorem re_c (u z w v : Fin n) : u * (z * (w * v)) = z * (u * w * v) := by grind only
theorem re_d (t z w v : Fin n) : t * (z * (w * v)) = z * (t * v * w) := by grind only

set_option maxHeartbeats 4000000 in
theorem add_assoc (g : Good n d) {P Q R : Pt n} (hP : On d P) (hQ : On d Q) (hR : On d R) : add d (add d P Q) R = add d P (add d Q R) := by
  have hPQ := on_add g hP hQ
  have hQR := on_add g hQ hR
  have x1 := add_x g hP hQ
  have y1 := add_y g hP hQ
  have p1 := plus_ne g hP hQ
  have m1 := minus_ne g hP hQ
  have x2 := add_x g hQ hR
  have y2 := add_y g hQ hR
  have p2 := plus_ne g hQ hR
  have m2 := minus_ne g hQ hR
  have x3 := add_x g hPQ hR
  have y3 := add_y g hPQ hR
  have p3 := plus_ne g hPQ hR
  have m3 := minus_ne g hPQ hR
  have x4 := add_x g hP hQR
  have y4 := add_y g hP hQR
  have p4 := plus_ne g hP hQR
  have m4 := minus_ne g hP hQR
  have ax := assoc_x P.x P.y Q.x Q.y R.x R.y d hP hQ hR
  have ay := assoc_y P.x P.y Q.x Q.y R.x R.y d hP hQ hR
  clear hP hQ hR hPQ hQR
  have c1 : (1 : Fin n) + d*P.x*Q.x*P.y*Q.y = 1 + kk d P Q := rfl
  have c2 : (1 : Fin n) - d*P.x*Q.x*P.y*Q.y = 1 - kk d P Q := rfl
  have c3 : (1 : Fin n) + d*Q.x*R.x*Q.y*R.y = 1 + kk d Q R := rfl
  have c4 : (1 : Fin n) - d*Q.x*R.x*Q.y*R.y = 1 - kk d Q R := rfl
  rw [c1, c2, c3, c4, ← x1, ← y1, ← x2, ← y2] at ax ay
  have ex : (add d (add d P Q) R).x = (add d P (add d Q R)).x := by
    generalize add d (add d P Q) R = U at *
    generalize add d P (add d Q R) = V at *
    unfold kk at x3 p3 x4 p4
    generalize add d P Q = S at *
    generalize add d Q R = T at *
    generalize 1 + kk d P Q = a at *
    generalize 1 - kk d P Q = b at *
    generalize 1 + kk d Q R = e at *
    generalize 1 - kk d Q R = f at *
    -- ax: (S.x a b R.y + S.y b a R.x) (e f + d P.x P.y (T.x e)(T.y f)) = (P.x T.y f e + P.y T.x e f) (a b + d (S.x a)(S.y b) R.x R.y)
    rw [re_xl, re_xr, ← x3, ← x4] at ax
    have hne := mul_ne g.pr (mul_ne g.pr (mul_ne g.pr p1 m1) p2) m2
    apply cancel g.pr (mul_ne g.pr hne (mul_ne g.pr p3 p4))
    clear x1 y1 x2 y2 x3 y3 x4 y4 ay c1 c2 c3 c4 hne p1 p2 m1 m2 m3 m4
    generalize a * b * e * f = z at *
    generalize 1 + d * S.x * R.x * S.y * R.y = w at *
    generalize 1 + d * P.x * T.x * P.y * T.y = v at *
    generalize U.x = u at *
    generalize V.x = t at *
    clear g p3 p4
    rw [re_c, re_d, ax]
  have ey : (add d (add d P Q) R).y = (add d P (add d Q R)).y := by
    generalize add d (add d P Q) R = U at *
    generalize add d P (add d Q R) = V at *
    unfold kk at y3 m3 y4 m4
    generalize add d P Q = S at *
    generalize add d Q R = T at *
    generalize 1 + kk d P Q = a at *
    generalize 1 - kk d P Q = b at *
    generalize 1 + kk d Q R = e at *
    generalize 1 - kk d Q R = f at *
    rw [re_yl, re_yr, ← y3, ← y4] at ay
    have hne := mul_ne g.pr (mul_ne g.pr (mul_ne g.pr p1 m1) p2) m2
    apply cancel g.pr (mul_ne g.pr hne (mul_ne g.pr m3 m4))
    clear x1 y1 x2 y2 x3 y3 x4 y4 ax c1 c2 c3 c4 hne p1 p2 m1 m2 p3 p4
    generalize a * b * e * f = z at *
    generalize 1 - d * S.x * R.x * S.y * R.y = w at *
    generalize 1 - d * P.x * T.x * P.y * T.y = v at *
    generalize U.y = u at *
    generalize V.y = t at *
    clear g m3 m4
    rw [re_c, re_d, ay]
  have eta : ∀ A B : Pt n, A.x = B.x → A.y = B.y → A = B := by
    rintro ⟨_, _⟩ ⟨_, _⟩ h1 h2
    simp only at h1 h2
    rw [h1, h2]
  exact eta _ _ ex ey

end Ed
end Nums

namespace Nums
namespace Ed
variable {n : Nat} [NeZero n] {d : Fin n}

/-- So many of a point. -/
def mul (d : Fin n) : Nat → Pt n → Pt n
  | 0, _ => zero
  | k + 1, P => add d (mul d k P) P

theorem mul_0 (P : Pt n) : mul d 0 P = zero := rfl
theorem mul_succ (k : Nat) (P : Pt n) : mul d (k + 1) P = add d (mul d k P) P := rfl

theorem on_mul (g : Good n d) {P : Pt n} (hP : On d P) (k : Nat) : On d (mul d k P) := by
  induction k with
  | zero => exact on_zero
  | succ k ih => exact on_add g ih hP

theorem mul_1 (g : Good n d) (P : Pt n) : mul d 1 P = P := by rw [mul_succ, mul_0, zero_add g]

theorem mul_2 (g : Good n d) (P : Pt n) : mul d 2 P = add d P P := by rw [mul_succ, mul_1 g]

theorem mul_add (g : Good n d) {P : Pt n} (hP : On d P) (j k : Nat) : mul d (j + k) P = add d (mul d j P) (mul d k P) := by
  induction k with
  | zero => rw [Nat.add_zero, mul_0, add_zero g]
  | succ k ih => rw [← Nat.add_assoc, mul_succ, mul_succ, ih, add_assoc g (on_mul g hP j) (on_mul g hP k) hP]

theorem mul_zero (g : Good n d) (k : Nat) : mul d k (zero : Pt n) = zero := by
  induction k with
  | zero => rfl
  | succ k ih => rw [mul_succ, ih, zero_add g]

theorem mul_mul (g : Good n d) {P : Pt n} (hP : On d P) (j k : Nat) : mul d (j * k) P = mul d k (mul d j P) := by
  induction k with
  | zero => rw [Nat.mul_zero, mul_0, mul_0]
  | succ k ih => rw [Nat.mul_succ, mul_add g hP, ih, mul_succ]

theorem add_swap (g : Good n d) {A B C D : Pt n} (hA : On d A) (hB : On d B) (hC : On d C) (hD : On d D) :
    add d (add d A B) (add d C D) = add d (add d A C) (add d B D) := by
  rw [add_assoc g hA hB (on_add g hC hD), add_assoc g hA hC (on_add g hB hD), ← add_assoc g hB hC hD, ← add_assoc g hC hB hD, add_comm B C]

theorem mul_dist (g : Good n d) {P Q : Pt n} (hP : On d P) (hQ : On d Q) (k : Nat) : mul d k (add d P Q) = add d (mul d k P) (mul d k Q) := by
  induction k with
  | zero => rw [mul_0, mul_0, mul_0, zero_add g]
  | succ k ih => rw [mul_succ, mul_succ, mul_succ, ih, add_swap g (on_mul g hP k) (on_mul g hQ k) hP hQ]

/-- What is added to a point and gives the neutral one is its negative. -/
theorem neg_of (g : Good n d) {P Q : Pt n} (hP : On d P) (hQ : On d Q) (h : add d P Q = zero) : Q = neg P := by
  have a : add d (neg P) (add d P Q) = Q := by
    rw [← add_assoc g (on_neg hP) hP hQ, add_comm (neg P) P, add_neg g hP, zero_add g]
  rw [h, add_zero g] at a
  exact a.symm

theorem neg_zero : neg (zero : Pt n) = zero := by
  show Pt.mk (-0 : Fin n) 1 = Pt.mk 0 1
  have : (-0 : Fin n) = 0 := by grind only
  rw [this]

theorem neg_neg (P : Pt n) : neg (neg P) = P := by
  show Pt.mk (- -P.x) P.y = P
  have : - -P.x = P.x := by grind only
  rw [this]

theorem neg_add (g : Good n d) {P Q : Pt n} (hP : On d P) (hQ : On d Q) : neg (add d P Q) = add d (neg P) (neg Q) := by
  symm
  apply neg_of g (on_add g hP hQ) (on_add g (on_neg hP) (on_neg hQ))
  rw [add_swap g hP hQ (on_neg hP) (on_neg hQ), add_neg g hP, add_neg g hQ, zero_add g]

theorem mul_neg (g : Good n d) {P : Pt n} (hP : On d P) (k : Nat) : mul d k (neg P) = neg (mul d k P) := by
  induction k with
  | zero => rw [mul_0, mul_0, neg_zero]
  | succ k ih => rw [mul_succ, mul_succ, ih, neg_add g (on_mul g hP k) hP]

theorem mul_mod (g : Good n d) {P : Pt n} (hP : On d P) {L : Nat} (hL : mul d L P = zero) (k : Nat) : mul d k P = mul d (k % L) P := by
  have h := mul_add g hP (L * (k / L)) (k % L)
  rw [mul_mul g hP, hL, mul_zero g, zero_add g, Nat.div_add_mod] at h
  exact h

theorem mul_times (g : Good n d) {P : Pt n} (hP : On d P) (a b : Nat) : mul d a (mul d b P) = mul d (a * b) P := by
  rw [Nat.mul_comm, mul_mul g hP]

/-- Multiples that are neutral by two numbers with nothing in common: the point is. -/
theorem zero_of (g : Good n d) {P : Pt n} (hP : On d P) {j k a b : Nat} (hj : mul d j P = zero) (hk : mul d k P = zero) (h : j * a = k * b + 1) : P = zero := by
  have h1 : mul d (j * a) P = zero := by rw [mul_mul g hP, hj, mul_zero g]
  rw [h, mul_add g hP, mul_mul g hP, hk, mul_zero g, zero_add g, mul_1 g] at h1
  exact h1

/-- Coordinates over one z. -/
structure Rep (X Y Z : Fin n) (P : Pt n) : Prop where
  z : Z ≠ 0
  x : X = P.x * Z
  y : Y = P.y * Z

theorem Rep.zero (hn : Prime n) : Rep (0 : Fin n) 1 1 zero where
  z := fun h => ne_one hn h.symm
  x := by show (0 : Fin n) = 0 * 1; grind only
  y := by show (1 : Fin n) = 1 * 1; grind only

theorem Rep.neg {X Y Z : Fin n} {P : Pt n} (r : Rep X Y Z P) : Rep (-X) Y Z (neg P) where
  z := r.z
  x := by
    rw [r.x]
    show -(P.x * Z) = -P.x * Z
    grind only
  y := r.y

theorem kk_rep {X1 Y1 Z1 X2 Y2 Z2 : Fin n} {P Q : Pt n} (r : Rep X1 Y1 Z1 P) (s : Rep X2 Y2 Z2 Q) :
    d * ((X1 * X2) * (Y1 * Y2)) = kk d P Q * ((Z1 * Z2) * (Z1 * Z2)) := by
  rw [r.x, r.y, s.x, s.y]
  unfold kk
  grind only

/-- The sum over one z, by the formula that divides nothing. -/
theorem Rep.add (g : Good n d) {X1 Y1 Z1 X2 Y2 Z2 : Fin n} {P Q : Pt n} (hP : On d P) (hQ : On d Q) (r : Rep X1 Y1 Z1 P) (s : Rep X2 Y2 Z2 Q)
    {z m : Fin n} (hz : z = Z1 * Z2) (hm : m = d * ((X1 * X2) * (Y1 * Y2))) :
    Rep (((X1 * Y2 + Y1 * X2) * z) * (z * z - m)) (((Y1 * Y2 + X1 * X2) * z) * (z * z + m)) ((z * z + m) * (z * z - m)) (add d P Q) := by
  have hzn : z ≠ 0 := hz ▸ mul_ne g.pr r.z s.z
  have hm2 : m = kk d P Q * (z * z) := by rw [hm, hz, kk_rep r s]
  have p1 : z * z + m = (1 + kk d P Q) * (z * z) := by rw [hm2]; grind only
  have p2 : z * z - m = (1 - kk d P Q) * (z * z) := by rw [hm2]; grind only
  have nx : X1 * Y2 + Y1 * X2 = (P.x * Q.y + P.y * Q.x) * z := by rw [r.x, r.y, s.x, s.y, hz]; grind only
  have ny : Y1 * Y2 + X1 * X2 = (P.y * Q.y + P.x * Q.x) * z := by rw [r.x, r.y, s.x, s.y, hz]; grind only
  have hx := add_x g hP hQ
  have hy := add_y g hP hQ
  have n1 := plus_ne g hP hQ
  have n2 := minus_ne g hP hQ
  constructor
  · rw [p1, p2]
    exact mul_ne g.pr (mul_ne g.pr n1 (mul_ne g.pr hzn hzn)) (mul_ne g.pr n2 (mul_ne g.pr hzn hzn))
  · rw [p1, p2, nx, ← hx]
    grind only
  · rw [p1, p2, ny, ← hy]
    grind only

theorem Rep.same (hn : Prime n) {X Y Z : Fin n} {P Q : Pt n} (r : Rep X Y Z P) (s : Rep X Y Z Q) : P = Q := by
  have hx : P.x = Q.x := cancel hn r.z (r.x.symm.trans s.x)
  have hy : P.y = Q.y := cancel hn r.z (r.y.symm.trans s.y)
  cases P
  cases Q
  simp only at hx hy
  rw [hx, hy]

theorem Rep.aff (hn : Prime n) {X Y Z : Fin n} {P : Pt n} (r : Rep X Y Z P) : X * finv Z = P.x ∧ Y * finv Z = P.y := by
  have h := mul_finv hn r.z
  have a : ∀ u : Fin n, u * Z * finv Z = u * (Z * finv Z) := fun u => by grind only
  have b : ∀ u : Fin n, u * 1 = u := fun u => by grind only
  rw [r.x, r.y, a, a, h, b, b]
  exact ⟨rfl, rfl⟩

end Ed
end Nums

namespace Nums

instance : NeZero p := ⟨by decide⟩
/-- The numbers modulo p. -/
abbrev F := Fin p
/-- A number modulo p. -/
def fof (k : Nat) : F := ⟨k % p, Nat.mod_lt _ (by decide)⟩
theorem fof_val (k : Nat) : (fof k).val = k % p := rfl
theorem fof_add (a b : Nat) : fof (a + b) = fof a + fof b := by
  apply Fin.ext
  show (a + b) % p = (a % p + b % p) % p
  rw [← Nat.add_mod]
theorem fof_mul (a b : Nat) : fof (a * b) = fof a * fof b := by
  apply Fin.ext
  show (a * b) % p = (a % p * (b % p)) % p
  rw [← Nat.mul_mod]
theorem fof_mod (a : Nat) : fof (a % p) = fof a := by
  apply Fin.ext
  show a % p % p = a % p
  rw [Nat.mod_mod]
theorem fof_eq {a b : Nat} (h : a % p = b % p) : fof a = fof b := Fin.ext h
theorem fof_zero : fof 0 = 0 := by
  apply Fin.ext
  show 0 % p = 0 % p
  rfl
theorem fof_one : fof 1 = 1 := by
  apply Fin.ext
  show 1 % p = 1 % p
  rfl
theorem fof_of (a : F) : fof a.val = a := by
  apply Fin.ext
  exact Nat.mod_eq_of_lt a.isLt
theorem fof_sub {a b : Nat} (h : b ≤ a) : fof (a - b) = fof a - fof b := by
  have : fof a = fof (a - b) + fof b := by rw [← fof_add, Nat.sub_add_cancel h]
  rw [this]
  generalize fof (a - b) = u
  generalize fof b = v
  grind only
theorem fof_pow (a k : Nat) : fof (a ^ k) = fpow (fof a) k := by
  induction k with
  | zero => exact fof_one
  | succ k ih => rw [Nat.pow_succ, fof_mul, ih, fpow_succ]
theorem fof_pm {a e : Nat} (k : Nat) (h : e < 2 ^ k) : fpow (fof a) e = fof (pm p a k e) := by
  rw [pm_eq p a k e h, fof_mod, fof_pow]

/-- The numbers' names: (p - 1) / 2, (p - 1) / 4, (p + 3) / 8. -/
def ph : Nat := 28948022309329048855892746252171976963317496166410141009864396001978282409974
def pq : Nat := 14474011154664524427946373126085988481658748083205070504932198000989141204987
def pe : Nat := 7237005577332262213973186563042994240829374041602535252466099000494570602494
theorem ph_two : ph * 2 = p - 1 := by decide
theorem pq_two : pq * 2 = ph := by decide
theorem pe_two : pe * 2 = pq + 1 := by decide
theorem ph_pos : 0 < ph := by decide
theorem pq_pos : 0 < pq := by decide

/-- A root of -1: 2 to (p - 1) / 4. -/
def im : F := fpow (fof 2) pq
theorem im_im : im * im = -1 := by
  unfold im
  rw [← fpow_add, show pq + pq = ph from by decide, fof_pm 255 (by decide)]
  have : fof (pm p 2 255 ph) = fof (p - 1) := fof_eq (by decide +kernel)
  rw [this, fof_sub (by decide), fof_one, show fof p = 0 from fof_eq (a := p) (b := 0) (by decide)]
  generalize (1 : F) = u
  grind only

theorem two_ne : (2 : F) ≠ 0 := by
  intro h
  have h1 : (2 : F).val = (0 : F).val := by rw [h]
  revert h1
  decide

/-- Euler: a square's half power is 1. -/
theorem euler_sq {a : F} (ha : a ≠ 0) : fpow (a * a) ph = 1 := by
  rw [mul_fpow, ← fpow_add, show ph + ph = p - 1 from by decide]
  exact fpow_fermat prime_p ha

theorem euler_or {a : F} (ha : a ≠ 0) : fpow a ph = 1 ∨ fpow a ph = -1 := by
  have h := fpow_fermat prime_p ha
  rw [show p - 1 = ph + ph from by decide, fpow_add] at h
  have h1 : fpow a ph * fpow a ph = 1 * 1 := by rw [h]; grind only
  exact root_or prime_p h1

/-- The root's candidate: to (p + 3) / 8. -/
def cand (a : F) : F := fpow a pe
theorem cand_sq (a : F) : cand a * cand a = fpow a pq * a := by
  unfold cand
  rw [← fpow_add, show pe + pe = pq + 1 from by decide, fpow_succ]

theorem cand_zero : cand 0 = 0 := zero_fpow (by decide)

/-- Euler's criterion, and where the root is. -/
theorem root_of {w : F} (h : fpow w ph = 1) : cand w * cand w = w ∨ (cand w * im) * (cand w * im) = w := by
  have h1 : fpow w pq * fpow w pq = 1 * 1 := by
    rw [← fpow_add, show pq + pq = ph from by decide, h]
    grind only
  have hc := cand_sq w
  have hi := im_im
  rcases root_or prime_p h1 with h2 | h2
  · left
    rw [hc, h2]
    grind only
  · right
    rw [h2] at hc
    grind only

theorem no_root {w : F} (h0 : w ≠ 0) (h : fpow w ph ≠ 1) (x : F) : x * x ≠ w := by
  rintro rfl
  apply h
  apply euler_sq
  rintro rfl
  exact h0 (by grind only)

/-- A number below p is even or its negative is. -/
theorem neg_val {a : F} (h : a ≠ 0) : (-a).val = p - a.val := by
  have h1 : a.val ≠ 0 := fun h2 => h (Fin.ext h2)
  have h2 := a.isLt
  have h3 : fof (p - a.val) = -a := by
    rw [fof_sub (by omega), fof_of, show fof p = 0 from fof_eq (a := p) (b := 0) (by decide)]
    grind only
  rw [← h3, fof_val]
  exact Nat.mod_eq_of_lt (by omega)

theorem p_odd : p % 2 = 1 := by decide
theorem neg_odd {a : F} (h : a ≠ 0) : (-a).val % 2 = 1 - a.val % 2 := by
  rw [neg_val h]
  have h2 := a.isLt
  have h3 := p_odd
  omega

/-- The curve's d. -/
def dn : Nat := 37095705934669439343138083508754565189542113879843219016388785533085940283555
def dd : F := fof dn
theorem dd_def : dd = (0 - fof 121665) * finv (fof 121666) := by
  have h0 : fof 121666 ≠ 0 := fun h => by
    have := congrArg Fin.val h
    revert this
    decide
  have h : dd * fof 121666 = 0 - fof 121665 := by
    have h1 : fof (dn * 121666 + 121665) = 0 := fof_eq (a := dn * 121666 + 121665) (b := 0) (by decide)
    rw [fof_add, fof_mul] at h1
    unfold dd
    generalize fof dn = u at *
    generalize fof 121666 = v at *
    generalize fof 121665 = w at *
    grind only
  rw [← h]
  have h2 := mul_finv prime_p h0
  generalize fof 121666 = v at *
  generalize finv v = w at *
  generalize dd = u at *
  grind only

theorem dd_ne : dd ≠ 0 := fun h => by
  have := congrArg Fin.val h
  revert this
  decide

theorem dd_pow : fpow dd ph ≠ 1 := by
  unfold dd
  rw [fof_pm 255 (by decide)]
  intro h
  have := congrArg Fin.val h
  revert this
  rw [fof_val]
  decide +kernel

theorem good : Ed.Good p dd where
  pr := prime_p
  two := two_ne
  i := ⟨im, im_im⟩
  d := no_root dd_ne dd_pow

/-- The base point. -/
def bx : Nat := 15112221349535400772501151409588531511454012693041857206046113283949847762202
def bY : Nat := 46316835694926478169428394003475163141307993866256225615783033603165251855960
def base : Ed.Pt p := ⟨fof bx, fof bY⟩
theorem on_base : Ed.On dd base := by
  show fof bY * fof bY - fof bx * fof bx = 1 + dd * fof bx * fof bx * fof bY * fof bY
  unfold dd
  have h : fof (bY * bY) = fof (bx * bx + (1 + dn * bx * bx * bY * bY)) := fof_eq (by decide +kernel)
  rw [fof_mul, fof_add, fof_add, fof_mul, fof_mul, fof_mul, fof_mul, fof_mul, fof_one] at h
  rw [h]
  generalize fof bx = u
  generalize fof bY = v
  generalize fof dn = w
  grind only

end Nums
/-
PLAIN NUMBERS: the base point's order divides L. No program is imported.
PLAIN NUMBERS: rows of digits of 16 bits, carries, products digit by digit. No program is imported.
PLAIN NUMBERS: 16 digits of 16 bits as numbers modulo p: carries that come back 38 times, products, the packed row. No program is imported.
PLAIN NUMBERS: the packed row (below p), its bytes, the folded product. No program is imported.
-/
namespace Nums

/-- A number, reckoned before it is used. -/
def forced {α : Type} (x : Nat) (f : Nat → α) : α :=
  match x with
  | 0 => f 0
  | k + 1 => f (k + 1)
theorem forced_eq {α : Type} (x : Nat) (f : Nat → α) : forced x f = f x := by cases x <;> rfl

structure Tri where
  x : Nat
  y : Nat
  z : Nat

/-- The sum over one z, in plain numbers. -/
def triAdd (a b : Tri) : Tri :=
  forced (a.z * b.z % p) fun z => forced (z * z % p) fun zz => forced (dn * (a.x * b.x % p * (a.y * b.y % p) % p) % p) fun m =>
  forced ((zz + m) % p) fun pl => forced ((zz + p - m) % p) fun mi =>
  forced ((a.x * b.y + a.y * b.x) % p * z % p * mi % p) fun x => forced ((a.y * b.y + a.x * b.x) % p * z % p * pl % p) fun y =>
  forced (pl * mi % p) fun w => ⟨x, y, w⟩

/-- So many, by the bits from below: n bits of k, acc and the doubled point. -/
def triMul : Nat → Nat → Tri → Tri → Tri
  | 0, _, acc, _ => acc
  | n + 1, k, acc, q => triMul n (k / 2) (if k % 2 = 1 then triAdd acc q else acc) (triAdd q q)

def TriRep (t : Tri) (P : Ed.Pt p) : Prop := Ed.Rep (fof t.x) (fof t.y) (fof t.z) P

theorem triAdd_rep {a b : Tri} {P Q : Ed.Pt p} (hP : Ed.On dd P) (hQ : Ed.On dd Q) (ha : TriRep a P) (hb : TriRep b Q) : TriRep (triAdd a b) (Ed.add dd P Q) := by
  unfold triAdd
  simp only [forced_eq]
  have h := Ed.Rep.add good hP hQ ha hb rfl rfl
  unfold TriRep
  simp only
  generalize hz : a.z * b.z % p = z
  generalize hm : dn * (a.x * b.x % p * (a.y * b.y % p) % p) % p = m
  have ez : fof z = fof a.z * fof b.z := by rw [← hz, fof_mod, fof_mul]
  have em : fof m = dd * ((fof a.x * fof b.x) * (fof a.y * fof b.y)) := by
    rw [← hm]
    simp only [fof_mod, fof_mul]
    rfl
  have hmp : m < p := by rw [← hm]; exact Nat.mod_lt _ (by decide)
  have es : fof (z * z % p + p - m) = fof z * fof z - fof m := by
    rw [fof_sub (by omega), fof_add, fof_mod, fof_mul, show fof p = 0 from fof_eq (a := p) (b := 0) (by decide)]
    grind only
  rw [← ez, ← em] at h
  simp only [fof_mod, fof_mul, fof_add, es]
  exact h

theorem triMul_rep : ∀ (n k : Nat) (acc q : Tri) (A Q : Ed.Pt p), k < 2 ^ n → Ed.On dd A → Ed.On dd Q → TriRep acc A → TriRep q Q → TriRep (triMul n k acc q) (Ed.add dd A (Ed.mul dd k Q))
  | 0, k, acc, q, A, Q, hk, hA, hQ, ha, hq => by
    have : k = 0 := by simp at hk; omega
    subst this
    rw [Ed.mul_0, Ed.add_zero good]
    exact ha
  | n + 1, k, acc, q, A, Q, hk, hA, hQ, ha, hq => by
    have hk2 : k / 2 < 2 ^ n := by rw [Nat.pow_succ] at hk; omega
    have h2 := triAdd_rep hQ hQ hq hq
    have o2 := Ed.on_add good hQ hQ
    have e2 : Ed.mul dd (k / 2) (Ed.add dd Q Q) = Ed.mul dd (2 * (k / 2)) Q := by
      rw [Ed.mul_mul good hQ, Ed.mul_2 good]
    show TriRep (triMul n (k / 2) (if k % 2 = 1 then triAdd acc q else acc) (triAdd q q)) _
    by_cases h : k % 2 = 1
    · rw [if_pos h]
      have ih := triMul_rep n (k / 2) (triAdd acc q) (triAdd q q) (Ed.add dd A Q) (Ed.add dd Q Q) hk2 (Ed.on_add good hA hQ) o2 (triAdd_rep hA hQ ha hq) h2
      rw [e2, Ed.add_assoc good hA hQ (Ed.on_mul good hQ _), Ed.add_comm Q, ← Ed.mul_succ, show 2 * (k / 2) + 1 = k by omega] at ih
      exact ih
    · rw [if_neg h]
      have ih := triMul_rep n (k / 2) acc (triAdd q q) A (Ed.add dd Q Q) hk2 hA o2 ha h2
      rw [e2, show 2 * (k / 2) = k by omega] at ih
      exact ih

/-- The order L. -/
def LL : Nat := 7237005577332262213973186563042994240857116359379907606001950938285454250989

def ending : Bool :=
  let t := triMul 253 LL ⟨0, 1, 1⟩ ⟨bx, bY, 1⟩
  forced t.x fun x => forced t.y fun y => forced t.z fun z => Nat.beq (x % p) 0 && Nat.beq (y % p) (z % p)

theorem ending_true : ending = true := by decide +kernel

theorem order : Ed.mul dd LL base = Ed.zero := by
  have ha : TriRep ⟨0, 1, 1⟩ Ed.zero := by
    have := Ed.Rep.zero prime_p
    unfold TriRep
    rw [fof_zero, fof_one]
    exact this
  have hq : TriRep ⟨bx, bY, 1⟩ base := by
    refine ⟨?_, ?_, ?_⟩
    · show fof 1 ≠ 0
      rw [fof_one]
      exact fun h => ne_one prime_p h.symm
    · show fof bx = fof bx * fof 1
      rw [fof_one]
      grind only
    · show fof bY = fof bY * fof 1
      rw [fof_one]
      grind only
  have h := triMul_rep 253 LL _ _ Ed.zero base (by decide) Ed.on_zero on_base ha hq
  rw [Ed.zero_add good] at h
  have e := ending_true
  unfold ending at e
  simp only [forced_eq] at e
  generalize triMul 253 LL ⟨0, 1, 1⟩ ⟨bx, bY, 1⟩ = t at h e
  rw [Bool.and_eq_true] at e
  obtain ⟨e1, e2⟩ := e
  have e1 := Nat.eq_of_beq_eq_true e1
  have e2 := Nat.eq_of_beq_eq_true e2
  have x0 : fof t.x = 0 := Fin.ext e1
  have yz : fof t.y = fof t.z := Fin.ext e2
  have hz : Ed.Rep (fof t.x) (fof t.y) (fof t.z) Ed.zero := by
    refine ⟨h.z, ?_, ?_⟩
    · rw [x0]
      show (0 : F) = 0 * fof t.z
      grind only
    · rw [yz]
      show fof t.z = 1 * fof t.z
      grind only
  exact Ed.Rep.same prime_p h hz

end Nums

namespace Nums

/-- The number of a row of digits, the least first. -/
def V : List Int → Int
  | [] => 0
  | d :: ds => d + 65536 * V ds

/-- 65536 to a power. -/
def W : Nat → Int
  | 0 => 1
  | k + 1 => 65536 * W k

theorem W_pos : ∀ k, 0 < W k
  | 0 => by decide
  | k + 1 => by have := W_pos k; show 0 < 65536 * W k; omega
theorem W_add (j : Nat) : ∀ k, W (j + k) = W j * W k
  | 0 => by show W j = W j * 1; omega
  | k + 1 => by
    show 65536 * W (j + k) = W j * (65536 * W k)
    rw [W_add j k]
    grind only

theorem V_append (a b : List Int) : V (a ++ b) = V a + W a.length * V b := by
  induction a with
  | nil => show V b = 0 + 1 * V b; omega
  | cons d ds ih =>
    show d + 65536 * V (ds ++ b) = d + 65536 * V ds + 65536 * W ds.length * V b
    rw [ih]
    grind only

theorem V_set : ∀ (l : List Int) (k : Nat) (x : Int), k < l.length → V (l.set k x) = V l + (x - l[k]!) * W k
  | [], k, x, h => absurd h (by simp)
  | d :: ds, 0, x, h => by
    show x + 65536 * V ds = d + 65536 * V ds + (x - d) * 1
    omega
  | d :: ds, k + 1, x, h => by
    have ih := V_set ds k x (by simpa using h)
    show d + 65536 * V (ds.set k x) = d + 65536 * V ds + (x - (d :: ds)[k+1]!) * (65536 * W k)
    rw [ih, show (d :: ds)[k+1]! = ds[k]! from rfl]
    grind only

/-- Digits that are small. -/
def Small (l : List Int) : Prop := ∀ x ∈ l, 0 ≤ x ∧ x < 65536

theorem V_small {l : List Int} (h : Small l) : 0 ≤ V l ∧ V l < W l.length := by
  induction l with
  | nil => exact ⟨by decide, by decide⟩
  | cons d ds ih =>
    have h1 := ih (fun x hx => h x (List.mem_cons_of_mem _ hx))
    have h2 := h d (List.mem_cons_self ..)
    show 0 ≤ d + 65536 * V ds ∧ d + 65536 * V ds < 65536 * W ds.length
    omega

/-- Digits that are small are told by their number. -/
theorem V_inj : ∀ {a b : List Int}, a.length = b.length → Small a → Small b → V a = V b → a = b
  | [], [], _, _, _, _ => rfl
  | x :: a, y :: b, hl, ha, hb, h => by
    have h1 := ha x (List.mem_cons_self ..)
    have h2 := hb y (List.mem_cons_self ..)
    have h3 : x + 65536 * V a = y + 65536 * V b := h
    have h4 : x = y := by omega
    have h5 : V a = V b := by omega
    rw [h4, V_inj (by simpa using hl) (fun z hz => ha z (List.mem_cons_of_mem _ hz)) (fun z hz => hb z (List.mem_cons_of_mem _ hz)) h5]

/-- The carries run through a row: the digits made small, and what goes out above. -/
def chain : Int → List Int → List Int × Int
  | c, [] => ([], c)
  | c, d :: ds => (((d + c) % 65536) :: (chain ((d + c) / 65536) ds).1, (chain ((d + c) / 65536) ds).2)

theorem chain_len : ∀ (c : Int) (l : List Int), (chain c l).1.length = l.length
  | _, [] => rfl
  | c, d :: ds => by
    show (chain ((d + c) / 65536) ds).1.length + 1 = ds.length + 1
    rw [chain_len]

theorem chain_small : ∀ (c : Int) (l : List Int), Small (chain c l).1
  | _, [] => fun x hx => absurd hx (by simp [chain])
  | c, d :: ds => by
    intro x hx
    have hx : x ∈ ((d + c) % 65536) :: (chain ((d + c) / 65536) ds).1 := hx
    rcases List.mem_cons.mp hx with rfl | hx
    · omega
    · exact chain_small _ ds x hx

theorem chain_V : ∀ (c : Int) (l : List Int), V (chain c l).1 + (chain c l).2 * W l.length = V l + c
  | c, [] => by show 0 + c * 1 = 0 + c; omega
  | c, d :: ds => by
    have ih := chain_V ((d + c) / 65536) ds
    show ((d + c) % 65536 + 65536 * V (chain ((d + c) / 65536) ds).1) + (chain ((d + c) / 65536) ds).2 * (65536 * W ds.length) = d + 65536 * V ds + c
    generalize V (chain ((d + c) / 65536) ds).1 = v at *
    generalize (chain ((d + c) / 65536) ds).2 = w at *
    have e : w * (65536 * W ds.length) = 65536 * (w * W ds.length) := by grind only
    rw [e]
    generalize w * W ds.length = z at *
    omega

/-- What goes out above is the whole's quotient. -/
theorem chain_out (c : Int) (l : List Int) : (chain c l).2 = (V l + c) / W l.length ∧ V (chain c l).1 = (V l + c) % W l.length := by
  have h := chain_V c l
  have hs := V_small (chain_small c l)
  rw [chain_len] at hs
  have hW := W_pos l.length
  generalize W l.length = w at *
  generalize V (chain c l).1 = v at *
  generalize (chain c l).2 = q at *
  rw [← h]
  constructor
  · rw [Int.add_mul_ediv_right _ _ (by omega), Int.ediv_eq_zero_of_lt hs.1 hs.2]
    omega
  · rw [Int.add_mul_emod_self_right, Int.emod_eq_of_lt hs.1 hs.2]

/-- A bound for what goes out above. -/
theorem div_bound {v w b : Int} (hw : 0 < w) (h : v < b * w) (h' : -(b * w) ≤ v) : -b ≤ v / w ∧ v / w < b := by
  constructor
  · rw [Int.le_ediv_iff_mul_le hw]
    have : -b * w = -(b * w) := by grind only
    omega
  · rw [Int.ediv_lt_iff_lt_mul hw]
    exact h

end Nums

namespace Nums

/-- A whole number modulo p. -/
def zf (v : Int) : F := fof (v % (p : Int)).toNat
theorem zf_eq {a b : Int} (h : a % (p : Int) = b % (p : Int)) : zf a = zf b := by unfold zf; rw [h]
theorem zf_nat (a : Nat) : zf (a : Int) = fof a := by
  unfold zf
  rw [← Int.natCast_emod, Int.toNat_natCast, fof_mod]
theorem zf_val (v : Int) : ((zf v).val : Int) = v % (p : Int) := by
  have h0 : 0 ≤ v % (p : Int) := Int.emod_nonneg _ (by decide)
  have h1 : v % (p : Int) < p := Int.emod_lt_of_pos _ (by decide)
  unfold zf
  rw [fof_val, Nat.mod_eq_of_lt (by omega)]
  omega
theorem zf_inj {a b : Int} (h : zf a = zf b) : a % (p : Int) = b % (p : Int) := by rw [← zf_val, ← zf_val, h]
theorem zf_mod (v : Int) : zf (v % (p : Int)) = zf v := zf_eq (by rw [Int.emod_emod])
theorem zf_mul_p (k : Int) : zf (k * (p : Int)) = 0 := by
  apply Fin.ext
  have h := zf_val (k * (p : Int))
  rw [Int.mul_emod_left] at h
  show (zf (k * (p : Int))).val = 0
  omega
theorem zf_add (a b : Int) : zf (a + b) = zf a + zf b := by
  apply Fin.ext
  have h := zf_val (a + b)
  show (zf (a + b)).val = ((zf a).val + (zf b).val) % p
  have h2 : (((zf a).val + (zf b).val) % p : Nat) = (((zf a).val : Int) + (zf b).val) % (p : Int) := by simp
  have h3 : ((zf (a + b)).val : Int) = (((zf a).val + (zf b).val) % p : Nat) := by
    rw [h2, h, zf_val, zf_val, ← Int.add_emod]
  exact_mod_cast h3
theorem zf_mul (a b : Int) : zf (a * b) = zf a * zf b := by
  apply Fin.ext
  have h := zf_val (a * b)
  show (zf (a * b)).val = ((zf a).val * (zf b).val) % p
  have h2 : (((zf a).val * (zf b).val) % p : Nat) = (((zf a).val : Int) * (zf b).val) % (p : Int) := by simp
  have h3 : ((zf (a * b)).val : Int) = (((zf a).val * (zf b).val) % p : Nat) := by
    rw [h2, h, zf_val, zf_val, ← Int.mul_emod]
  exact_mod_cast h3
theorem zf_sub (a b : Int) : zf (a - b) = zf a - zf b := by
  have h : zf a = zf (a - b) + zf b := by rw [← zf_add]; congr 1; omega
  rw [h]
  grind only
theorem zf_zero : zf 0 = 0 := by have := zf_mul_p 0; rwa [Int.zero_mul] at this
theorem zf_one : zf 1 = 1 := by rw [show (1 : Int) = ((1 : Nat) : Int) from rfl, zf_nat, fof_one]
theorem zf_of (a : F) : zf (a.val : Int) = a := by rw [zf_nat, fof_of]

theorem W16 : W 16 = 2 * (p : Int) + 38 := by decide

/-- The carries of 16 digits, what goes out above coming back 38 times. -/
def carry (l : List Int) : List Int :=
  match chain 0 l with
  | (d :: ds, c) => (d + 38 * c) :: ds
  | ([], _) => []

/-- The digits behind the first are small; the first lies between. -/
def Loose (lo hi : Int) (l : List Int) : Prop := ∃ d ds, l = d :: ds ∧ ds.length = 15 ∧ Small ds ∧ lo ≤ d ∧ d ≤ hi

theorem carry_all {l : List Int} (h : l.length = 16) :
    Loose (38 * (V l / W 16)) (65535 + 38 * (V l / W 16)) (carry l) ∧ V (carry l) = V l % W 16 + 38 * (V l / W 16) := by
  have ho := chain_out 0 l
  have hs := chain_small 0 l
  have hl := chain_len 0 l
  unfold carry
  rw [h] at ho hl
  generalize chain 0 l = q at *
  obtain ⟨ds, c⟩ := q
  match ds with
  | [] => simp at hl
  | d :: ds =>
    have hd := hs d (List.mem_cons_self ..)
    simp only [Int.add_zero] at ho
    simp only
    refine ⟨⟨d + 38 * c, ds, rfl, by simpa using hl, fun x hx => hs x (List.mem_cons_of_mem _ hx), ?_, ?_⟩, ?_⟩
    · rw [← ho.1]; omega
    · rw [← ho.1]; omega
    · rw [← ho.1, ← ho.2]
      show d + 38 * c + 65536 * V ds = d + 65536 * V ds + 38 * c
      omega

theorem Loose.len {lo hi : Int} {l : List Int} (h : Loose lo hi l) : l.length = 16 := by
  obtain ⟨d, ds, rfl, h1, _⟩ := h
  simp [h1]
theorem Loose.small {lo hi : Int} {l : List Int} (h : Loose lo hi l) (h0 : 0 ≤ lo) (h1 : hi < 65536) : Small l := by
  obtain ⟨d, ds, rfl, _, h2, h3, h4⟩ := h
  intro x hx
  rcases List.mem_cons.mp hx with rfl | hx
  · omega
  · exact h2 x hx
theorem Loose.mono {lo hi lo' hi' : Int} {l : List Int} (h : Loose lo hi l) (h0 : lo' ≤ lo) (h1 : hi ≤ hi') : Loose lo' hi' l := by
  obtain ⟨d, ds, e, h1, h2, h3, h4⟩ := h
  exact ⟨d, ds, e, h1, h2, by omega, by omega⟩

theorem carry_zf {l : List Int} (h : l.length = 16) : zf (V (carry l)) = zf (V l) := by
  rw [(carry_all h).2]
  apply zf_eq
  have h1 := Int.emod_add_mul_ediv (V l) (W 16)
  have h2 := W16
  generalize V l / W 16 = c at *
  have h3 : V l % W 16 + 38 * c = V l + (-2 * c) * (p : Int) := by
    rw [← h1, h2]
    grind only
  rw [h3, Int.add_mul_emod_self_right]

theorem big : 1000000000000000000000000000000 < W 16 := by decide

/-- Two carries. -/
theorem carry_two {l : List Int} (h : l.length = 16) (hb : V l < 140737488355328 * W 16) (hb' : -(140737488355328 * W 16) ≤ V l) :
    Loose (-38) 65573 (carry (carry l)) ∧ V (carry (carry l)) = V (carry l) % W 16 + 38 * (V (carry l) / W 16) ∧ (V (carry l) / W 16 = -1 ∨ V (carry l) / W 16 = 0 ∨ V (carry l) / W 16 = 1)
      ∧ (-5348024557502464 ≤ V (carry l) ∧ V (carry l) < W 16 + 5348024557502464) := by
  have c1 := carry_all h
  have c2 := carry_all c1.1.len
  have hc := div_bound (W_pos 16) hb hb'
  have hW := big
  have hr := Int.emod_nonneg (V l) (b := W 16) (by have := W_pos 16; omega)
  have hr2 := Int.emod_lt_of_pos (V l) (W_pos 16)
  rw [c1.2] at c2 ⊢
  generalize V l / W 16 = c at *
  generalize V l % W 16 = r at *
  have hq := div_bound (v := r + 38 * c) (w := W 16) (b := 2) (W_pos 16) (by omega) (by omega)
  have hq2 : -1 ≤ (r + 38 * c) / W 16 := by
    rw [Int.le_ediv_iff_mul_le (W_pos 16)]
    omega
  generalize hqe : (r + 38 * c) / W 16 = q at *
  refine ⟨c2.1.mono (by omega) (by omega), c2.2, by omega, by omega, by omega⟩

/-- Three carries: the digits are small. -/
theorem carry_three {l : List Int} (h : l.length = 16) (hb : V l < 140737488355328 * W 16) (hb' : -(140737488355328 * W 16) ≤ V l) :
    (carry (carry (carry l))).length = 16 ∧ Small (carry (carry (carry l))) ∧ zf (V (carry (carry (carry l)))) = zf (V l) := by
  obtain ⟨k1, k2, k3, k4, k5⟩ := carry_two h hb hb'
  have c1 := carry_all h
  have c2 := carry_all c1.1.len
  have c3 := carry_all k1.len
  refine ⟨c3.1.len, ?_, by rw [carry_zf k1.len, carry_zf c1.1.len, carry_zf h]⟩
  have hW := big
  have hr := Int.emod_nonneg (V (carry l)) (b := W 16) (by have := W_pos 16; omega)
  have hr2 := Int.emod_lt_of_pos (V (carry l)) (W_pos 16)
  have hd := Int.emod_add_mul_ediv (V (carry l)) (W 16)
  have h0 : V (carry (carry l)) / W 16 = 0 := by
    rw [k2]
    generalize V (carry l) = v at *
    apply Int.ediv_eq_zero_of_lt
    · rcases k3 with k3 | k3 | k3
      · rw [k3] at hd ⊢; omega
      · rw [k3] at hd ⊢; omega
      · rw [k3] at hd ⊢; omega
    · rcases k3 with k3 | k3 | k3
      · rw [k3] at hd ⊢; omega
      · rw [k3] at hd ⊢; omega
      · rw [k3] at hd ⊢; omega
  rw [h0] at c3
  exact c3.1.small (by omega) (by omega)

end Nums

namespace Nums

theorem V_zip (f : Int → Int → Int) (k : Int) (hf : ∀ x y, f x y = x + k * y) : ∀ (a b : List Int), a.length = b.length → V (List.zipWith f a b) = V a + k * V b
  | [], [], _ => by show (0 : Int) = 0 + k * 0; omega
  | x :: a, y :: b, h => by
    have ih := V_zip f k hf a b (by simpa using h)
    show f x y + 65536 * V (List.zipWith f a b) = x + 65536 * V a + k * (y + 65536 * V b)
    rw [ih, hf]
    grind only

/-- p's digits. -/
def pdig : List Int := [65517, 65535, 65535, 65535, 65535, 65535, 65535, 65535, 65535, 65535, 65535, 65535, 65535, 65535, 65535, 32767]
theorem V_pdig : V pdig = (p : Int) := by decide
theorem W15 : W 16 = 65536 * W 15 := rfl

/-- The digits less p's. -/
def lessp (l : List Int) : List Int := List.zipWith (fun x y => x - y) l pdig
theorem lessp_len {l : List Int} (h : l.length = 16) : (lessp l).length = 16 := by simp [lessp, h, pdig]
theorem V_lessp {l : List Int} (h : l.length = 16) : V (lessp l) = V l - (p : Int) := by
  rw [lessp, V_zip _ (-1) (fun x y => by omega) l pdig (by simp [h, pdig]), V_pdig]
  omega

/-- The carries (here: what is lent) of all digits but the last. -/
def lent (l : List Int) : List Int := (chain 0 (l.take 15)).1 ++ [l[15]! + (chain 0 (l.take 15)).2]

theorem take15 {l : List Int} (h : l.length = 16) : l = l.take 15 ++ [l[15]!] := by
  have h1 : l.drop 15 = [l[15]!] := by
    rw [List.drop_eq_getElem_cons (by omega), List.drop_eq_nil_of_le (by omega)]
    rw [getElem!_pos l 15 (by omega)]
  calc l = l.take 15 ++ l.drop 15 := (List.take_append_drop 15 l).symm
    _ = _ := by rw [h1]

theorem lent_all {l : List Int} (h : l.length = 16) :
    (lent l).length = 16 ∧ Small ((lent l).take 15) ∧ V (lent l) = V l ∧ (0 ≤ (lent l)[15]! ↔ 0 ≤ V l) ∧ V (lent l) = V ((lent l).take 15) + W 15 * (lent l)[15]! := by
  have ht : (l.take 15).length = 15 := by simp [h]
  have hl := chain_len 0 (l.take 15)
  have hs := chain_small 0 (l.take 15)
  have hv := chain_V 0 (l.take 15)
  have he := take15 h
  have hV : V l = V (l.take 15) + W 15 * (l[15]! + 65536 * 0) := by
    conv => lhs; rw [he]
    rw [V_append, ht]
    rfl
  unfold lent
  rw [ht] at hl hv
  generalize chain 0 (l.take 15) = q at *
  obtain ⟨ds, c⟩ := q
  simp only at hl hs hv ⊢
  have g1 : (ds ++ [l[15]! + c])[15]! = l[15]! + c := by
    rw [getElem!_pos _ 15 (by simp [hl]), List.getElem_append_right (by omega)]
    simp [hl]
  have g2 : (ds ++ [l[15]! + c]).take 15 = ds := by rw [← hl, List.take_left]
  have g3 : V (ds ++ [l[15]! + c]) = V ds + W 15 * (l[15]! + c + 65536 * 0) := by rw [V_append, hl]; rfl
  have hd := V_small hs
  rw [hl] at hd
  have e : V (ds ++ [l[15]! + c]) = V l := by
    rw [g3, hV]
    have : c * W 15 = W 15 * c := by grind only
    grind only
  refine ⟨by simp [hl], by rw [g2]; exact hs, e, ?_, by rw [g1, g2, g3]; simp⟩
  rw [g1, ← e, g3]
  have hW := W_pos 15
  generalize l[15]! + c = x at *
  constructor
  · intro hx
    have : 0 ≤ W 15 * (x + 65536 * 0) := Int.mul_nonneg (by omega) (by omega)
    omega
  · intro hx
    apply Classical.byContradiction
    intro hn
    have h2 : W 15 * (x + 65536 * 0) ≤ W 15 * (-1) := Int.mul_le_mul_of_nonneg_left (by omega) (by omega)
    omega

/-- Once less p, if it is p or more. -/
def redp (l : List Int) : List Int := if 0 ≤ (lent (lessp l))[15]! then lent (lessp l) else l

theorem redp_all {l : List Int} (h : l.length = 16) (hs : Small l) :
    (redp l).length = 16 ∧ Small (redp l) ∧ V (redp l) = if (p : Int) ≤ V l then V l - (p : Int) else V l := by
  have ha := lent_all (lessp_len h)
  rw [V_lessp h] at ha
  have hv := V_small hs
  rw [h] at hv
  have hp : (0 : Int) < (p : Int) := by decide
  unfold redp
  by_cases hc : 0 ≤ (lent (lessp l))[15]!
  · have h1 := ha.2.2.2.1.mp hc
    rw [if_pos hc, if_pos (by omega)]
    refine ⟨ha.1, ?_, ha.2.2.1⟩
    have h2 := ha.2.2.2.2
    have h3 := ha.2.2.1
    have h4 := V_small ha.2.1
    intro x hx
    rw [take15 ha.1] at hx
    rcases List.mem_append.mp hx with hx | hx
    · exact ha.2.1 x hx
    · have hx : x = (lent (lessp l))[15]! := by simpa using hx
      subst hx
      refine ⟨hc, ?_⟩
      generalize (lent (lessp l))[15]! = y at *
      apply Classical.byContradiction
      intro hn
      have h5 : W 15 * 65536 ≤ W 15 * y := Int.mul_le_mul_of_nonneg_left (by omega) (by have := W_pos 15; omega)
      have h6 := W15
      omega
  · have h1 : ¬ 0 ≤ V l - (p : Int) := fun h => hc (ha.2.2.2.1.mpr h)
    rw [if_neg hc, if_neg (by omega)]
    exact ⟨h, hs, rfl⟩

/-- The row of a number's digits, below p. -/
def pack (l : List Int) : List Int := redp (redp (carry (carry (carry l))))

theorem pack_all {l : List Int} (h : l.length = 16) (hb : V l < 140737488355328 * W 16) (hb' : -(140737488355328 * W 16) ≤ V l) :
    (pack l).length = 16 ∧ Small (pack l) ∧ V (pack l) = ((zf (V l)).val : Int) := by
  obtain ⟨a1, a2, a3⟩ := carry_three h hb hb'
  unfold pack
  generalize carry (carry (carry l)) = t at *
  have r1 := redp_all a1 a2
  have r2 := redp_all r1.1 r1.2.1
  refine ⟨r2.1, r2.2.1, ?_⟩
  have hv := V_small a2
  rw [a1, W16] at hv
  have hz : V (redp (redp t)) % (p : Int) = V l % (p : Int) := by
    rw [← zf_inj a3, r2.2.2, r1.2.2]
    by_cases h1 : (p : Int) ≤ V t
    · rw [if_pos h1]
      by_cases h2 : (p : Int) ≤ V t - (p : Int)
      · rw [if_pos h2, Int.sub_emod_right, Int.sub_emod_right]
      · rw [if_neg h2, Int.sub_emod_right]
    · rw [if_neg h1, if_neg h1]
  rw [zf_val, ← hz]
  have hp : (38 : Int) < (p : Int) := by decide
  have hlt : 0 ≤ V (redp (redp t)) ∧ V (redp (redp t)) < (p : Int) := by
    rw [r2.2.2, r1.2.2]
    by_cases h1 : (p : Int) ≤ V t
    · rw [if_pos h1]
      by_cases h2 : (p : Int) ≤ V t - (p : Int)
      · rw [if_pos h2]; omega
      · rw [if_neg h2]; omega
    · rw [if_neg h1, if_neg h1]; omega
  rw [Int.emod_eq_of_lt hlt.1 hlt.2]

/-- The product's 31 digits, folded: what lies above 2^256 comes back 38 times. -/
def folded (t : List Int) : List Int := List.zipWith (fun x y => x + 38 * y) (t.take 16) (t.drop 16 ++ [0])

theorem V_folded {t : List Int} (h : t.length = 31) : (folded t).length = 16 ∧ zf (V (folded t)) = zf (V t) := by
  refine ⟨by simp [folded, h], ?_⟩
  have h1 := V_append (t.take 16) (t.drop 16)
  rw [List.take_append_drop, show (t.take 16).length = 16 by simp [h]] at h1
  have h2 := V_append (t.drop 16) [0]
  rw [show V [0] = 0 from rfl, Int.mul_zero, Int.add_zero] at h2
  apply zf_eq
  rw [folded, V_zip _ 38 (fun x y => rfl) _ _ (by simp [h]), h2, h1, W16]
  generalize V (t.take 16) = a
  generalize V (t.drop 16) = b
  have : a + (2 * (p : Int) + 38) * b = a + 38 * b + (2 * b) * (p : Int) := by grind only
  rw [this, Int.add_mul_emod_self_right]

/-- A row whose digits are bounded. -/
def Bnd (B : Int) (l : List Int) : Prop := ∀ x ∈ l, -B ≤ x ∧ x ≤ B

theorem V_bnd {B : Int} {l : List Int} (h : Bnd B l) : -(B * (W l.length - 1)) ≤ 65535 * V l ∧ 65535 * V l ≤ B * (W l.length - 1) := by
  induction l with
  | nil =>
    show -(B * (1 - 1)) ≤ 65535 * 0 ∧ 65535 * 0 ≤ B * (1 - 1)
    omega
  | cons d ds ih =>
    have h2 := h d (List.mem_cons_self ..)
    have h1 := ih (fun x hx => h x (List.mem_cons_of_mem _ hx))
    show -(B * (65536 * W ds.length - 1)) ≤ 65535 * (d + 65536 * V ds) ∧ 65535 * (d + 65536 * V ds) ≤ B * (65536 * W ds.length - 1)
    have e : B * (65536 * W ds.length - 1) = 65536 * (B * (W ds.length - 1)) + 65535 * B := by grind only
    rw [e]
    generalize B * (W ds.length - 1) = z at *
    omega

/-- What the carries need: digits of half a machine's width. -/
theorem V_room {l : List Int} (hl : l.length = 16) (h : Bnd 4611686018427387904 l) : V l < 140737488355328 * W 16 ∧ -(140737488355328 * W 16) ≤ V l := by
  have h1 := V_bnd h
  rw [hl] at h1
  have h2 := W_pos 16
  omega

theorem Small.bnd {l : List Int} (h : Small l) : Bnd 65535 l := fun x hx => by have := h x hx; omega
theorem Bnd.mono {B C : Int} {l : List Int} (h : Bnd B l) (hc : B ≤ C) : Bnd C l := fun x hx => by have := h x hx; omega
theorem Loose.bnd {lo hi B : Int} {l : List Int} (h : Loose lo hi l) (h0 : -B ≤ lo) (h1 : hi ≤ B) (h2 : 65535 ≤ B) : Bnd B l := by
  obtain ⟨d, ds, rfl, _, h3, h4, h5⟩ := h
  intro x hx
  rcases List.mem_cons.mp hx with rfl | hx
  · omega
  · have := h3 x hx; omega

/-- Bytes, the least first. -/
def le : List UInt8 → Nat
  | [] => 0
  | b :: bs => b.toNat + 256 * le bs

/-- The bytes of digits, the digits of bytes. -/
def split : List Int → List UInt8
  | [] => []
  | d :: ds => UInt8.ofNat (d % 256).toNat :: UInt8.ofNat (d / 256).toNat :: split ds
def join : List UInt8 → List Int
  | a :: b :: bs => ((a.toNat : Int) + 256 * (b.toNat : Int)) :: join bs
  | _ => []

theorem split_len : ∀ l : List Int, (split l).length = 2 * l.length
  | [] => rfl
  | d :: ds => by
    show (split ds).length + 1 + 1 = 2 * (ds.length + 1)
    rw [split_len ds]
    omega

theorem le_split : ∀ {l : List Int}, Small l → (le (split l) : Int) = V l
  | [], _ => rfl
  | d :: ds, h => by
    have h1 := h d (List.mem_cons_self ..)
    have ih := le_split (l := ds) (fun x hx => h x (List.mem_cons_of_mem _ hx))
    show (((UInt8.ofNat (d % 256).toNat).toNat + 256 * ((UInt8.ofNat (d / 256).toNat).toNat + 256 * le (split ds)) : Nat) : Int) = d + 65536 * V ds
    rw [← ih, UInt8.toNat_ofNat', UInt8.toNat_ofNat']
    omega

theorem join_small : ∀ l : List UInt8, Small (join l)
  | [] => fun x hx => absurd hx (by simp [join])
  | [_] => fun x hx => absurd hx (by simp [join])
  | a :: b :: bs => fun x hx => by
    have ha := a.toNat_lt
    have hb := b.toNat_lt
    rcases List.mem_cons.mp (show x ∈ ((a.toNat : Int) + 256 * (b.toNat : Int)) :: join bs from hx) with rfl | hx
    · omega
    · exact join_small bs x hx

theorem V_join : ∀ (k : Nat) (l : List UInt8), l.length = 2 * k → (join l).length = k ∧ V (join l) = (le l : Int)
  | 0, [], _ => ⟨rfl, rfl⟩
  | 0, _ :: _, h => absurd h (by simp)
  | k + 1, [], h => absurd h (by simp)
  | k + 1, [_], h => by simp at h; omega
  | k + 1, a :: b :: bs, h => by
    obtain ⟨h1, h2⟩ := V_join k bs (by simp at h; omega)
    refine ⟨by show (join bs).length + 1 = k + 1; rw [h1], ?_⟩
    show (a.toNat : Int) + 256 * (b.toNat : Int) + 65536 * V (join bs) = ((a.toNat + 256 * (b.toNat + 256 * le bs) : Nat) : Int)
    rw [h2]
    omega

theorem le_inj : ∀ {a b : List UInt8}, a.length = b.length → le a = le b → a = b
  | [], [], _, _ => rfl
  | x :: a, y :: b, hl, h => by
    have h1 := x.toNat_lt
    have h2 := y.toNat_lt
    have h3 : x.toNat + 256 * le a = y.toNat + 256 * le b := h
    have h4 : x = y := UInt8.toNat.inj (by omega)
    have h5 := le_inj (a := a) (b := b) (by simpa using hl) (by omega)
    rw [h4, h5]

/-- So many bytes of a number, the least first. -/
def bytes : Nat → Nat → List UInt8
  | 0, _ => []
  | k + 1, v => UInt8.ofNat v :: bytes k (v / 256)
theorem bytes_len : ∀ k v, (bytes k v).length = k
  | 0, _ => rfl
  | k + 1, v => by show (bytes k (v / 256)).length + 1 = k + 1; rw [bytes_len]
theorem le_bytes : ∀ k v, le (bytes k v) = v % 256 ^ k
  | 0, v => by show 0 = v % 1; omega
  | k + 1, v => by
    show (UInt8.ofNat v).toNat + 256 * le (bytes k (v / 256)) = v % 256 ^ (k + 1)
    rw [le_bytes, UInt8.toNat_ofNat', show 256 ^ (k + 1) = 256 * 256 ^ k by rw [Nat.pow_succ, Nat.mul_comm], Nat.mod_mul]

/-- The bytes of a number modulo p. -/
def enc (x : F) : List UInt8 := bytes 32 x.val
theorem enc_len (x : F) : (enc x).length = 32 := bytes_len _ _
theorem le_enc (x : F) : le (enc x) = x.val := by
  unfold enc
  rw [le_bytes]
  exact Nat.mod_eq_of_lt (Nat.lt_trans x.isLt (by decide))
theorem enc_inj {x y : F} (h : enc x = enc y) : x = y := by
  apply Fin.ext
  rw [← le_enc, ← le_enc, h]
theorem enc_of {b : List UInt8} (hb : b.length = 32) {x : F} (h : le b = x.val) : b = enc x :=
  le_inj (by rw [hb, enc_len]) (by rw [h, le_enc])
theorem fof_enc (x : F) : fof (le (enc x)) = x := by rw [le_enc, fof_of]

/-- The packed bytes are the number's own. -/
theorem split_pack {l : List Int} (h : l.length = 16) (hb : Bnd 4611686018427387904 l) : split (pack l) = enc (zf (V l)) := by
  obtain ⟨v1, v2⟩ := V_room h hb
  obtain ⟨a1, a2, a3⟩ := pack_all h v1 v2
  apply enc_of
  · rw [split_len, a1]
  · have := le_split a2
    omega

end Nums
/-
  PLAIN NUMBERS: the digests of FIPS 180-4 over words of w bits: turned words, the message's words, rounds, blocks, the message's end. No program is imported.
-/
namespace Nums

/-- A word turned to the right. -/
def rotw (w n x : Nat) : Nat := x / 2 ^ n + x % 2 ^ n * 2 ^ (w - n)
def chw (w e f g : Nat) : Nat := (e &&& f) ^^^ ((2 ^ w - 1 - e) &&& g)
def maw (a b c : Nat) : Nat := (a &&& b) ^^^ (a &&& c) ^^^ (b &&& c)

/-- Which digest: the words' bits, how many rounds, how words are turned, and the rounds' numbers. -/
structure Sha where
  w : Nat
  n : Nat
  big1 : Nat × Nat × Nat
  big0 : Nat × Nat × Nat
  low1 : Nat × Nat × Nat
  low0 : Nat × Nat × Nat
  k : Nat → Nat
  start : List Nat
def bigw (w : Nat) (t : Nat × Nat × Nat) (x : Nat) : Nat := rotw w t.1 x ^^^ rotw w t.2.1 x ^^^ rotw w t.2.2 x
def loww (w : Nat) (t : Nat × Nat × Nat) (x : Nat) : Nat := rotw w t.1 x ^^^ rotw w t.2.1 x ^^^ x / 2 ^ t.2.2

/-- The first 64 bits of the fractions of the first primes' square roots, and cube roots. -/
def sqs : List Nat := [7640891576956012808, 13503953896175478587, 4354685564936845355, 11912009170470909681, 5840696475078001361, 11170449401992604703, 2270897969802886507, 6620516959819538809]
def cbs : List Nat := [4794697086780616226, 8158064640168781261, 13096744586834688815, 16840607885511220156, 4131703408338449720, 6480981068601479193, 10538285296894168987, 12329834152419229976, 15566598209576043074, 1334009975649890238, 2608012711638119052, 6128411473006802146, 8268148722764581231, 9286055187155687089, 11230858885718282805, 13951009754708518548, 16472876342353939154, 17275323862435702243, 1135362057144423861, 2597628984639134821, 3308224258029322869, 5365058923640841347, 6679025012923562964, 8573033837759648693, 10970295158949994411, 12119686244451234320, 12683024718118986047, 13788192230050041572, 14330467153632333762, 15395433587784984357, 489312712824947311, 1452737877330783856, 2861767655752347644, 3322285676063803686, 5560940570517711597, 5996557281743188959, 7280758554555802590, 8532644243296465576, 9350256976987008742, 10552545826968843579, 11727347734174303076, 12113106623233404929, 14000437183269869457, 14369950271660146224, 15101387698204529176, 15463397548674623760, 17586052441742319658, 1182934255886127544, 1847814050463011016, 2177327727835720531, 2830643537854262169, 3796741975233480872, 4115178125766777443, 5681478168544905931, 6601373596472566643, 7507060721942968483, 8399075790359081724, 8693463985226723168, 9568029438360202098, 10144078919501101548, 10430055236837252648, 11840083180663258601, 13761210420658862357, 14299343276471374635, 14566680578165727644, 15097957966210449927, 16922976911328602910, 17689382322260857208, 500013540394364858, 748580250866718886, 1242879168328830382, 1977374033974150939, 2944078676154940804, 3659926193048069267, 4368137639120453308, 4836135668995329356, 5532061633213252278, 6448918945643986474, 6902733635092675308, 7801388544844847127]
def s512 : Sha where
  w := 64
  n := 80
  big1 := (14, 18, 41)
  big0 := (28, 34, 39)
  low1 := (19, 61, 6)
  low0 := (1, 8, 7)
  k := fun t => cbs[t]!
  start := sqs
def s256 : Sha where
  w := 32
  n := 64
  big1 := (6, 11, 25)
  big0 := (2, 13, 22)
  low1 := (17, 19, 10)
  low0 := (7, 18, 3)
  k := fun t => cbs[t]! / 4294967296
  start := sqs.map (· / 4294967296)

/-- Bytes f 0, f 1 .. as a number, the greatest first. -/
def ben (f : Nat → Nat) : Nat → Nat
  | 0 => 0
  | j + 1 => ben f j * 256 + f j
theorem ben_lt {f : Nat → Nat} (h : ∀ j, f j < 256) : ∀ j, ben f j < 256 ^ j
  | 0 => Nat.one_pos
  | j + 1 => by
    have h1 := ben_lt h j
    have h2 := h j
    show ben f j * 256 + f j < 256 ^ (j + 1)
    rw [Nat.pow_succ]
    omega
/-- A block's word. -/
def bword (s : Sha) (b : List UInt8) (t : Nat) : Nat := ben (fun k => (b[t * (s.w / 8) + k]!).toNat) (s.w / 8)
/-- The message's words. -/
def sx (s : Sha) (b : List UInt8) (t : Nat) : Nat :=
  if _h : t < 16 then bword s b t else (loww s.w s.low1 (sx s b (t - 2)) + sx s b (t - 7) + loww s.w s.low0 (sx s b (t - 15)) + sx s b (t - 16)) % 2 ^ s.w
termination_by t
decreasing_by all_goals omega

/-- Eight words, and a round. -/
structure Oct where
  a : Nat
  b : Nat
  c : Nat
  d : Nat
  e : Nat
  f : Nat
  g : Nat
  h : Nat
def Oct.list (o : Oct) : List Nat := [o.a, o.b, o.c, o.d, o.e, o.f, o.g, o.h]
def t1w (s : Sha) (k x : Nat) (o : Oct) : Nat := o.h + bigw s.w s.big1 o.e + chw s.w o.e o.f o.g + k + x
def t2w (s : Sha) (o : Oct) : Nat := bigw s.w s.big0 o.a + maw o.a o.b o.c
def rnd (s : Sha) (k x : Nat) (o : Oct) : Oct := ⟨(t1w s k x o + t2w s o) % 2 ^ s.w, o.a, o.b, o.c, (o.d + t1w s k x o) % 2 ^ s.w, o.e, o.f, o.g⟩
def rnds (s : Sha) (b : List UInt8) (o : Oct) : Nat → Oct
  | 0 => o
  | t + 1 => rnd s (s.k t) (sx s b t) (rnds s b o t)
def add8 (w : Nat) (o p : Oct) : Oct := ⟨(o.a + p.a) % 2 ^ w, (o.b + p.b) % 2 ^ w, (o.c + p.c) % 2 ^ w, (o.d + p.d) % 2 ^ w, (o.e + p.e) % 2 ^ w, (o.f + p.f) % 2 ^ w, (o.g + p.g) % 2 ^ w, (o.h + p.h) % 2 ^ w⟩
/-- The eight words turned by a block. -/
def turnw (s : Sha) (o : Oct) (b : List UInt8) : Oct := add8 s.w o (rnds s b o s.n)

/-! ### Bounds -/
theorem xor_lt {a b w : Nat} (ha : a < 2 ^ w) (hb : b < 2 ^ w) : a ^^^ b < 2 ^ w := Nat.xor_lt_two_pow ha hb
theorem and_lt {a b w : Nat} (ha : a < 2 ^ w) : a &&& b < 2 ^ w := Nat.lt_of_le_of_lt Nat.and_le_left ha
theorem rotw_lt {w n x : Nat} (hn : n ≤ w) (hx : x < 2 ^ w) : rotw w n x < 2 ^ w := by
  have e : (2 : Nat) ^ w = 2 ^ n * 2 ^ (w - n) := by rw [← Nat.pow_add, Nat.add_sub_cancel' hn]
  have h1 : x / 2 ^ n < 2 ^ (w - n) := Nat.div_lt_of_lt_mul (by rw [← e]; exact hx)
  have h2 : x % 2 ^ n + 1 ≤ 2 ^ n := Nat.mod_lt _ (Nat.two_pow_pos n)
  have h3 := Nat.mul_le_mul_right (2 ^ (w - n)) h2
  rw [← e, Nat.add_mul, Nat.one_mul] at h3
  unfold rotw
  omega
theorem bigw_lt {w x : Nat} {t : Nat × Nat × Nat} (h : t.1 ≤ w ∧ t.2.1 ≤ w ∧ t.2.2 ≤ w) (hx : x < 2 ^ w) : bigw w t x < 2 ^ w :=
  xor_lt (xor_lt (rotw_lt h.1 hx) (rotw_lt h.2.1 hx)) (rotw_lt h.2.2 hx)
theorem loww_lt {w x : Nat} {t : Nat × Nat × Nat} (h : t.1 ≤ w ∧ t.2.1 ≤ w) (hx : x < 2 ^ w) : loww w t x < 2 ^ w :=
  xor_lt (xor_lt (rotw_lt h.1 hx) (rotw_lt h.2 hx)) (Nat.lt_of_le_of_lt (Nat.div_le_self _ _) hx)
theorem chw_lt {w e f g : Nat} (he : e < 2 ^ w) : chw w e f g < 2 ^ w := xor_lt (and_lt he) (and_lt (by have := Nat.two_pow_pos w; omega))
theorem maw_lt {w a b c : Nat} (ha : a < 2 ^ w) (hb : b < 2 ^ w) : maw a b c < 2 ^ w := xor_lt (xor_lt (and_lt ha) (and_lt ha)) (and_lt hb)
theorem sx_lt (s : Sha) (b : List UInt8) (hw : s.w / 8 * 8 = s.w) (t : Nat) : sx s b t < 2 ^ s.w := by
  rw [sx]
  split
  · have h := ben_lt (f := fun k => (b[t * (s.w / 8) + k]!).toNat) (fun j => UInt8.toNat_lt _) (s.w / 8)
    rw [show (256 : Nat) = 2 ^ 8 from rfl, ← Nat.pow_mul, Nat.mul_comm 8, hw] at h
    exact h
  · exact Nat.mod_lt _ (Nat.two_pow_pos _)
/-- All eight are words. -/
structure OB (w : Nat) (o : Oct) : Prop where
  a : o.a < 2 ^ w
  b : o.b < 2 ^ w
  c : o.c < 2 ^ w
  d : o.d < 2 ^ w
  e : o.e < 2 ^ w
  f : o.f < 2 ^ w
  g : o.g < 2 ^ w
  h : o.h < 2 ^ w
theorem OB.rnd {s : Sha} {o : Oct} (h : OB s.w o) (k x : Nat) : OB s.w (rnd s k x o) :=
  ⟨Nat.mod_lt _ (Nat.two_pow_pos _), h.a, h.b, h.c, Nat.mod_lt _ (Nat.two_pow_pos _), h.e, h.f, h.g⟩
theorem OB.rnds {s : Sha} {b : List UInt8} {o : Oct} (h : OB s.w o) : ∀ t, OB s.w (rnds s b o t)
  | 0 => h
  | t + 1 => (OB.rnds h t).rnd _ _
theorem OB.add8 (w : Nat) (o p : Oct) : OB w (add8 w o p) := by
  constructor <;> exact Nat.mod_lt _ (Nat.two_pow_pos _)
theorem OB.turnw (s : Sha) (o : Oct) (b : List UInt8) : OB s.w (turnw s o b) := OB.add8 _ _ _

/-! ### The other spellings -/
theorem ch_or {w e f g : Nat} (he : e < 2 ^ w) : (e &&& f) ||| ((2 ^ w - 1 - e) &&& g) = chw w e f g := by
  unfold chw
  apply Nat.eq_of_testBit_eq
  intro i
  simp only [Nat.testBit_or, Nat.testBit_xor, Nat.testBit_and]
  have h := Nat.testBit_two_pow_sub_succ he i
  rw [show 2 ^ w - 1 - e = 2 ^ w - (e + 1) by omega, h]
  cases e.testBit i <;> cases f.testBit i <;> cases g.testBit i <;> simp
theorem ma_or (a b c : Nat) : (a &&& b) ||| (a &&& c) ||| (b &&& c) = maw a b c := by
  unfold maw
  apply Nat.eq_of_testBit_eq
  intro i
  simp only [Nat.testBit_or, Nat.testBit_xor, Nat.testBit_and]
  cases a.testBit i <;> cases b.testBit i <;> cases c.testBit i <;> rfl

/-! ### The whole message -/
/-- Block behind block. -/
def runw (s : Sha) (B : Nat) (o : Oct) (l : List UInt8) : Oct :=
  if _h : B = 0 ∨ l.length < B then o else runw s B (turnw s o (l.take B)) (l.drop B)
termination_by l.length
decreasing_by
  rw [List.length_drop]
  omega
theorem runw_short {s : Sha} {B : Nat} {o : Oct} {l : List UInt8} (h : l.length < B) : runw s B o l = o := by
  rw [runw, dif_pos (.inr h)]
theorem runw_block {s : Sha} {B : Nat} {o : Oct} {b l : List UInt8} (hB : 0 < B) (h : b.length = B) : runw s B o (b ++ l) = runw s B (turnw s o b) l := by
  rw [runw, dif_neg (by rw [List.length_append]; omega), ← h, List.take_left, List.drop_left]
/-- Whole blocks, then the rest. -/
theorem runw_append {s : Sha} {B : Nat} (hB : 0 < B) : ∀ (n : Nat) {o : Oct} {a l : List UInt8}, a.length = n * B → runw s B o (a ++ l) = runw s B (runw s B o a) l
  | 0, o, a, l, h => by
    have h0 : a = [] := List.eq_nil_of_length_eq_zero (by omega)
    subst h0
    rw [List.nil_append, runw_short (l := []) (by simpa using hB)]
  | n + 1, o, a, l, h => by
    have hl : (a.take B).length = B := by rw [List.length_take, h, Nat.add_mul]; omega
    have hd : (a.drop B).length = n * B := by rw [List.length_drop, h, Nat.add_mul]; omega
    have e : a = a.take B ++ a.drop B := (List.take_append_drop B a).symm
    rw [e, List.append_assoc, runw_block hB hl, runw_block hB hl, runw_append hB n hd]
/-- Eight bytes of a number, the greatest first. -/
def be64 (v : Nat) : List UInt8 := (bytes 8 v).reverse
/-- What stands behind the message: r bytes of its last block are there, it has v bits. -/
def tailw (B r v : Nat) : List UInt8 := 128 :: (List.replicate ((if r + 1 ≤ B - B / 8 then B else 2 * B) - 9 - r) 0 ++ be64 v)
/-- The digest's words. -/
def sumw (s : Sha) (m : List UInt8) : Oct := runw s (2 * s.w) (⟨s.start[0]!, s.start[1]!, s.start[2]!, s.start[3]!, s.start[4]!, s.start[5]!, s.start[6]!, s.start[7]!⟩) (m ++ tailw (2 * s.w) (m.length % (2 * s.w)) (8 * m.length))
/-- A word's bytes, the greatest first. -/
def layw (s : Sha) (x : Nat) : List UInt8 := (bytes (s.w / 8) x).reverse
def digest (s : Sha) (m : List UInt8) : List UInt8 := ((sumw s m).list.map (layw s)).flatten
end Nums
