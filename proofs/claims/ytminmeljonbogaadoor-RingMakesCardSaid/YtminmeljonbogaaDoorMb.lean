/-
  SEVERAL TEXTS IN ONE: Fr, Curve, Root, Pack, Us, FrV, FrW, ShaP, Ref02, Ws, DigS, DigR, DigW, DigM, FrM, FrA, DigB, DigP, DigO.
-/
import Derived.Test.YtminmeljonbogaaDoorMa
import Derived.Laws.Bits64b
import Derived.Laws.BitsAllLaws
import Derived.Laws.Externs
import Derived.Maps.AppendAt
import Derived.Deep.OwnRows
/-
  FRAMES BY WHAT IS KNOWN OF THEM: the values of some slots are told, the others are not: great functions are walked over such frames.
-/
namespace Go.Proofs.YtminmeljonbogaaDoor
open Go.RowKit Go.IntWalk

def look : List (Nat × Value) → Nat → Option Value
  | [],_=>none
  | (k,v) :: r,j=>match Nat.beq k j with
    | true=>some v
    | false=>look r j
theorem look_cons (k j : Nat) (v : Value) (r : List (Nat × Value)) : look ((k,v) :: r) j = if k = j then some v else look r j:=by
 show (match Nat.beq k j with | true=>some v | false=>look r j) = _
 by_cases h : k = j
 ·subst h
  rw [if_pos rfl,Nat.beq_refl]
 ·rw [if_neg h]
  cases e : Nat.beq k j with
  | true=>exact absurd (Nat.eq_of_beq_eq_true e) h
  | false=>rfl
def ev (E : List (Nat × Value)) : Operand → Option Value
  | .tmp t=>look E t
  | .const v=>some v
  | .global g=>some (.pointer (some ⟨g,0,none⟩))
  | .func f=>some (.func (.func f) #[] #[])
def Sub : List (Nat × Value) → List (Nat × Value) → Prop
  | [],_=>True
  | p :: r,E=>look E p.1 = some p.2 ∧ Sub r E
structure Fr (N : Nat) (E : List (Nat × Value)) (a : Act) : Prop where
  size : a.tmps.size = N
  defers : a.defers = []
  get : ∀ k v,look E k = some v → a.eval (.tmp k) = v

section
variable {N : Nat} {E E' : List (Nat × Value)} {a : Act}
theorem Fr.eval (h : Fr N E a) {x : Operand} {v : Value} (hx : ev E x = some v) : a.eval x = v:=by
 cases x with
 | tmp t=>exact h.get t v hx
 | const u=>exact Option.some.inj hx
 | global g=>exact Option.some.inj hx
 | func f=>exact Option.some.inj hx
theorem Fr.put (h : Fr N E a) {k : Nat} (hk : Nat.blt k N = true) (v : Value) : Fr N ((k,v) :: E) (a.put (some k) v):=by
 have hk : k < N:=by simpa using hk
 refine ⟨by simp [Act.put,h.size],h.defers,fun j u hj=>?_⟩;rw [look_cons] at hj
 have hs : k < a.tmps.size:=by rw [h.size]; exact hk
 by_cases e : k = j
 ·subst e
  rw [if_pos rfl] at hj
  cases hj
  simp [Act.put,Act.eval,hs]
 ·rw [if_neg e] at hj
  have h1:=h.get j u hj;simp only [Act.put,Act.eval,Array.getD_eq_getD_getElem?] at h1 ⊢;rw [Array.getElem?_setIfInBounds_ne (by omega)];exact h1
theorem Fr.sub (h : Fr N E a) (hs : Sub E' E) : Fr N E' a:=by
 refine ⟨h.size,h.defers,?_⟩
 induction E' with
 | nil=>intro k v hk; cases hk
 | cons p r ih =>
  intro k v hk
  obtain ⟨j,u⟩:=p;rw [look_cons] at hk
  by_cases e : j = k
  ·subst e
   rw [if_pos rfl] at hk
   cases hk
   exact h.get _ _ hs.1
  ·rw [if_neg e] at hk
   exact ih hs.2 k v hk
theorem Fr.start {args : Array Value} {n : Nat} (h : args.size + n = N) (E : List (Nat × Value)) (hE : ∀ k v,look E k = some v → args[k]? = some v) :
  Fr N E { tmps:=args ++ Array.replicate n undef,defers:=[] }:=by
 refine ⟨by simp [h],rfl,fun k v hk=>?_⟩;have h1:=hE k v hk;have h2:=(Array.getElem?_eq_some_iff.1 h1).1;simp only [Act.eval,Array.getD_eq_getD_getElem?];rw [Array.getElem?_append_left h2,h1]
 rfl
end

/-! ### Code over such frames -/
def cF (P : Program) (c : Code) (Q : Exit → Act → World → Prop) (N : Nat) (E : List (Nat × Value)) (w : World) : Prop:=∀ a,Fr N E a → c.wp P Q a w
def bF (P : Program) (ops : Array Oper) (C0 : World → Prop) (Q : Act → Prop) (l : List Oper) (N : Nat) (E : List (Nat × Value)) : Prop:=∀ a,Fr N E a → wpB P ops C0 Q l a
def lF (P : Program) (ops : Array Oper) (Q : Exit → Act → World → Prop) (l : List Oper) (N : Nat) (E : List (Nat × Value)) (w : World) : Prop:=∀ a,Fr N E a → wpList P ops Q l a w
def kF (K : Act → World → Prop) (N : Nat) (E : List (Nat × Value)) (w : World) : Prop:=∀ a,Fr N E a → K a w

section
variable {P : Program} {Q : Exit → Act → World → Prop} {N : Nat} {E E' : List (Nat × Value)} {w : World}
theorem k_sub {K : Act → World → Prop} (hs : Sub E' E) (h : kF K N E' w) : kF K N E w:=fun a ha=>h a (ha.sub hs)
theorem c_seq {x y : Code} (h : ∀ K : Act → World → Prop,(∀ E' w',cF P y Q N E' w' → kF K N E' w') → cF P x (Exit.then K Q) N E w) : cF P (.seq x y) Q N E w:=fun a ha =>
 wp_seq_k fun K hK=>h K (fun _ _ h' a' ha'=>hK _ _ (h' a' ha')) a ha
theorem c_cond {c : Operand} {x y : Code} (t : Bool) (hc : ev E c = some (.bool t)) (h : cF P (if t then x else y) Q N E w) : cF P (.cond c x y) Q N E w:=fun a ha=>wp_cond (ha.eval hc) (h a ha)
theorem c_block {id : Nat} {c : Code} (h : cF P c (Exit.inBlock id Q) N E w) : cF P (.block id c) Q N E w:=fun a ha=>wp_block (h a ha)
theorem c_skip (h : kF (Q .normal) N E w) : cF P .skip Q N E w:=fun a ha=>wp_skip (h a ha)
theorem c_exit {id : Nat} (h : kF (Q (.exit id)) N E w) : cF P (.exit id) Q N E w:=fun a ha=>wp_exit (h a ha)
theorem c_ret (h : kF (Q .ret) N E w) : cF P .ret Q N E w:=fun a ha=>wp_ret (h a ha)
theorem k_exit {id : Nat} (h : kF (Q .normal) N E w) : kF (Exit.inBlock id Q (.exit id)) N E w:=fun a ha=>by
 simp only [Exit.inBlock,if_true];exact h a ha

theorem least {σ : Type} (m : σ → Nat) (p : σ → Prop) : (∃ s,p s) → ∃ s,p s ∧ ∀ s',p s' → m s ≤ m s':=by
 rintro ⟨s,hs⟩
 have key : ∀ n s,m s ≤ n → p s → ∃ s,p s ∧ ∀ s',p s' → m s ≤ m s':=by
  intro n
  induction n with
  | zero=>exact fun s hn hs=>⟨s,hs,fun s' _=>by omega⟩
  | succ n ih =>
   intro s hn hs
   by_cases h : ∃ s',p s' ∧ m s' < m s
   ·obtain ⟨s',h1,h2⟩:=h
    exact ih s' (by omega) h1
   ·exact ⟨s,hs,fun s' h1=>by
     by_cases h2 : m s' < m s
     ·exact absurd ⟨s',h1,h2⟩ h
     ·omega⟩
 exact key (m s) s (Nat.le_refl _) hs
open Classical in
theorem c_loop {σ : Type} {c : Code} (m : σ → Nat) (F : σ → List (Nat × Value)) (R : σ → World → Prop)
  (round : ∀ s w,R s w → cF P c (Exit.then (fun a' w'=>∃ s',R s' w' ∧ Fr N (F s') a' ∧ m s' < m s) Q) N (F s) w) (s0 : σ) (h0 : R s0 w) : cF P (.loop c) Q N (F s0) w:=fun a ha=>by
 let T : Act → World → σ → Prop:=fun a w s=>R s w ∧ Fr N (F s) a
 let μ : Act → World → Nat:=fun a w=>if h : ∃ s,T a w s then m (Classical.choose (least m (T a w) h)) else 0
 have hμ : ∀ a w (h : ∃ s,T a w s),∃ s,T a w s ∧ (∀ s',T a w s' → m s ≤ m s') ∧ μ a w = m s:=fun a w h=>by
  refine ⟨Classical.choose (least m (T a w) h),(Classical.choose_spec (least m (T a w) h)).1,(Classical.choose_spec (least m (T a w) h)).2,?_⟩
  show (if h : ∃ s,T a w s then m (Classical.choose (least m (T a w) h)) else 0) = _
  rw [dif_pos h]
 refine wp_loop (fun a w=>∃ s,T a w s) μ ⟨s0,h0,ha⟩ fun a w hI=>?_;obtain ⟨s,hs,_,e⟩:=hμ a w hI;refine wp_mono (round s w hs.1 a hs.2) fun x a' w' hx=>?_
 cases x with
 | normal =>
  obtain ⟨s',h1,h2,h3⟩:=hx;have hI' : ∃ s,T a' w' s:=⟨s',h1,h2⟩;obtain ⟨s2,hs2,hm2,e2⟩:=hμ a' w' hI';refine ⟨hI',?_⟩;rw [e,e2];exact Nat.lt_of_le_of_lt (hm2 s' ⟨h1,h2⟩) h3
 | exit _=>exact hx
 | goto _=>exact hx
 | ret=>exact hx
 | panic _=>exact hx
 | outgrown=>exact hx
theorem k_round {σ : Type} {m : σ → Nat} {F : σ → List (Nat × Value)} {R : σ → World → Prop} {s : σ} (s' : σ) (hs : Sub (F s') E) (hR : R s' w) (hm : m s' < m s) :
  kF (fun a' w'=>∃ s',R s' w' ∧ Fr N (F s') a' ∧ m s' < m s) N E w:=fun _ ha=>⟨s',hR,ha.sub hs,hm⟩
end

/-! ### Regions -/
section
variable {P : Program} {Q : Exit → Act → World → Prop} {N : Nat} {E : List (Nat × Value)} {w : World} {id : Nat} {l : List Oper}
theorem c_q (hm : P.follows .mixedOrders = true) (hB : tailB l.toArray l.length 0 0 = true) (hQ : ∀ c a d v w,Q (.panic c) (a.put d v) w → Q (.panic c) a w)
  (h : bF P l.toArray (Up w) (fun a'=>∀ w',Up w w' → Q .normal a' w') l N E) : cF P (.region id l.toArray true) Q N E w:=fun a ha=>reg_q hm hB hQ (h a ha)
theorem c_qF (h : bF P l.toArray (Up w) (fun a'=>∀ w',Up w w' → Q .normal a' w') l N E) : cF P (.region id l.toArray false) Q N E w:=fun a ha=>reg_qF (h a ha)
theorem c_t (n : Nat) (hn : n ≤ l.length) (hm : P.follows .mixedOrders = true) (hB : tailB l.toArray n 0 (l.drop n).length = true) (hQ : ∀ c a d v w,Q (.panic c) (a.put d v) w → Q (.panic c) a w)
  (h : bF P l.toArray (Up w) (fun a'=>∀ w',Up w w' → wpList P l.toArray Q (l.drop n) a' w') (l.take n) N E) : cF P (.region id l.toArray true) Q N E w:=fun a ha =>
 region_B n (Up w) hn hm hB (fun _ _ h k=>h.step k) (Up.drew w) hQ (h a ha)
theorem c_tF (n : Nat) (h : bF P l.toArray (Up w) (fun a'=>∀ w',Up w w' → wpList P l.toArray Q (l.drop n) a' w') (l.take n) N E) : cF P (.region id l.toArray false) Q N E w:=fun a ha=>reg_tailF n (h a ha)
theorem c_lit (h : lF P l.toArray Q l N E w) : cF P (.region id l.toArray false) Q N E w:=fun a ha=>wp_region_lit (h a ha)
end

/-! ### Steps -/
section
variable {P : Program} {ops : Array Oper} {C0 : World → Prop} {Q : Act → Prop} {N : Nat} {E : List (Nat × Value)} {o : Oper} {rest : List Oper} {k : Nat}
theorem f_val (v : Value) (hg : o.guard = none) (hd : o.dst = some k) (hk : Nat.blt k N = true) (h : ∀ a,Fr N E a → ∀ w,C0 w → (execOp a.eval o).run P w = .ok (.value v) w) (hn : bF P ops C0 Q rest N ((k,v) :: E)) :
  bF P ops C0 Q (o :: rest) N E:=fun a ha=>b_val (by simp [Region.wanted,hg]) (h a ha) (by rw [hd]; exact hn _ (ha.put hk v))
theorem f_move {x : Operand} (v : Value) (hg : o.guard = none) (hd : o.dst = some k) (hk : Nat.blt k N = true) (ho : o.op = .move x) (hx : ev E x = some v) (hn : bF P ops C0 Q rest N ((k,v) :: E)) : bF P ops C0 Q (o :: rest) N E :=
 f_val v hg hd hk (fun a ha w _=>by
  have h1:=ha.eval hx
  unfold execOp
  simp only [ho,h1,Sem.run_pure]) hn
theorem f_assign {x : Operand} (v : Value) (hg : o.guard = none) (hd : o.dst = some k) (hk : Nat.blt k N = true) (ho : o.op = .assign x) (hx : ev E x = some v) (hn : bF P ops C0 Q rest N ((k,v) :: E)) : bF P ops C0 Q (o :: rest) N E :=
 f_val v hg hd hk (fun a ha w _=>by
  have h1:=ha.eval hx
  unfold execOp
  simp only [ho,h1,Sem.run_pure]) hn
end
theorem f_end {P : Program} {ops : Array Oper} {Q : Exit → Act → World → Prop} {N : Nat} {E : List (Nat × Value)} {w : World} (h : ∀ w',Up w w' → kF (Q .normal) N E w') :
  bF P ops (Up w) (fun a'=>∀ w',Up w w' → Q .normal a' w') [] N E:=fun a ha=>wpB_nil fun w' hw'=>h w' hw' a ha

section
variable {ops : Array Oper} {C0 : World → Prop} {Q : Act → Prop} {N : Nat} {E : List (Nat × Value)} {o : Oper} {rest : List Oper} {k : Nat}
theorem f_call {f : FuncId} {xs : Array Operand} {ats : Array TypeId} (args : Array Value) (v : Value) (hg : o.guard = none) (hd : o.dst = some k) (hk : Nat.blt k N = true)
  (hf : Own f) (hc : ∀ w,C0 w → Calls Tryd.prog f args w (fun e w'=>e = .returned v ∧ Below w.heap.size w w'))
  (ho : o.op = .call { callee:=.value (.func f),args:=xs,argTypes:=ats }) (hx : xs.toList.map (ev E) = args.toList.map some) (hn : bF Tryd.prog ops C0 Q rest N ((k,v) :: E)) : bF Tryd.prog ops C0 Q (o :: rest) N E:=fun a ha=>by
 refine b_oneC (v:=v) (args:=args) (by simp [Region.wanted,hg]) hf hc ho ?_ (by rw [hd]; exact hn _ (ha.put hk v))
 have key : ∀ (l : List Operand) (m : List Value),l.map (ev E) = m.map some → l.map a.eval = m:=by
  intro l
  induction l with
  | nil=>intro m h; cases m with
   | nil=>rfl
   | cons=>cases h
  | cons y l ih=>intro m h; cases m with
   | nil=>cases h
   | cons u m =>
    simp only [List.map_cons,List.cons.injEq] at h ⊢;exact ⟨ha.eval h.1,ih m h.2⟩
 exact key _ _ hx

/-! Numbers -/
theorem f_addI {x y : Operand} (m n r : Int) (hg : o.guard = none) (hd : o.dst = some k) (hk : Nat.blt k N = true) (ho : o.op = .binOp .add 3 x y 3) (hx : ev E x = some (.int .i64 m)) (hy : ev E y = some (.int .i64 n))
  (hr : IntKind.i64.wrap (m + n) = r) (hn : bF Tryd.prog ops C0 Q rest N ((k,.int .i64 r) :: E)) : bF Tryd.prog ops C0 Q (o :: rest) N E :=
 f_val _ hg hd hk (fun a ha w _=>by
  have h1:=ha.eval hx;have h2:=ha.eval hy
  unfold execOp
  simp only [ho,h1,h2]
  go_simp) hn
theorem f_subI {x y : Operand} (m n r : Int) (hg : o.guard = none) (hd : o.dst = some k) (hk : Nat.blt k N = true) (ho : o.op = .binOp .sub 3 x y 3) (hx : ev E x = some (.int .i64 m)) (hy : ev E y = some (.int .i64 n))
  (hr : IntKind.i64.wrap (m - n) = r) (hn : bF Tryd.prog ops C0 Q rest N ((k,.int .i64 r) :: E)) : bF Tryd.prog ops C0 Q (o :: rest) N E :=
 f_val _ hg hd hk (fun a ha w _=>by
  have h1:=ha.eval hx;have h2:=ha.eval hy
  unfold execOp
  simp only [ho,h1,h2]
  go_simp) hn
theorem f_mulI {x y : Operand} (m n r : Int) (hg : o.guard = none) (hd : o.dst = some k) (hk : Nat.blt k N = true) (ho : o.op = .binOp .mul 3 x y 3) (hx : ev E x = some (.int .i64 m)) (hy : ev E y = some (.int .i64 n))
  (hr : IntKind.i64.wrap (m * n) = r) (hn : bF Tryd.prog ops C0 Q rest N ((k,.int .i64 r) :: E)) : bF Tryd.prog ops C0 Q (o :: rest) N E :=
 f_val _ hg hd hk (fun a ha w _=>by
  have h1:=ha.eval hx;have h2:=ha.eval hy
  unfold execOp
  simp only [ho,h1,h2]
  go_simp) hn
theorem f_lssI {x y : Operand} {t : TypeId} (m n : Int) (q : Bool) (hg : o.guard = none) (hd : o.dst = some k) (hk : Nat.blt k N = true) (ho : o.op = .binOp .lss 3 x y t) (hx : ev E x = some (.int .i64 m)) (hy : ev E y = some (.int .i64 n))
  (hr : decide (m < n) = q) (hn : bF Tryd.prog ops C0 Q rest N ((k,.bool q) :: E)) : bF Tryd.prog ops C0 Q (o :: rest) N E :=
 f_val _ hg hd hk (fun a ha w _=>by
  have h1:=ha.eval hx;have h2:=ha.eval hy;subst hr
  unfold execOp
  simp only [ho,h1,h2]
  go_simp) hn
theorem f_load {x : Operand} {t : TypeId} (p : Addr) (v : Value) (ht : t = 56 ∨ t = 25 ∨ t = 5 ∨ t = 3) (hg : o.guard = none) (hd : o.dst = some k) (hk : Nat.blt k N = true) (ho : o.op = .load t x) (hx : ev E x = some (.pointer (some p)))
  (hc : ∀ w,C0 w → w.cell? p = some v) (hn : bF Tryd.prog ops C0 Q rest N ((k,v) :: E)) : bF Tryd.prog ops C0 Q (o :: rest) N E :=
 f_val _ hg hd hk (fun a ha w hw=>by
  have h1:=ha.eval hx;have h2:=hc w hw
  unfold execOp
  simp only [ho,h1]
  rcases ht with rfl | rfl | rfl | rfl <;> go_simp) hn
end
end Go.Proofs.YtminmeljonbogaaDoor
/-
PLAIN NUMBERS: primes, Fermat's little theorem, Pocklington's criterion; p = 2^255 - 19 is prime. No program is imported.
PLAIN NUMBERS: the numbers modulo a prime as Fin n: no divisors of zero, powers, inverses, roots. No program is imported.
PLAIN NUMBERS: the curve -x² + y² = 1 + d x² y² modulo a prime, where -1 is a square and d is none: its sums are a group. No program is imported.
-/

namespace Nums

def Prime (p : Nat) : Prop:=1 < p ∧ ∀ m,m ∣ p → m = 1 ∨ m = p

theorem Prime.pos {p : Nat} (h : Prime p) : 0 < p:=by have:=h.1; omega

theorem Prime.coprime {p a : Nat} (h : Prime p) (ha : ¬ p ∣ a) : Nat.Coprime p a:=by
 have hd : Nat.gcd p a ∣ p:=Nat.gcd_dvd_left p a
 rcases h.2 _ hd with h1 | h1
 ·exact h1
 ·exact absurd (h1 ▸ Nat.gcd_dvd_right p a) ha

theorem Prime.dvd_mul {p a b : Nat} (h : Prime p) (hd : p ∣ a * b) : p ∣ a ∨ p ∣ b:=by
 by_cases ha : p ∣ a
 ·exact .inl ha
 ·exact .inr ((h.coprime ha).dvd_of_dvd_mul_left hd)

theorem exists_prime_dvd : ∀ (n : Nat),1 < n → ∃ r,Prime r ∧ r ∣ n:=by
 intro n
 induction n using Nat.strongRecOn with
 | ind n ih =>
  intro hn
  by_cases hp : ∃ m,m ∣ n ∧ m ≠ 1 ∧ m ≠ n
  ·obtain ⟨m,hm,h1,h2⟩:=hp
   have hle:=Nat.le_of_dvd (by omega) hm;have hpos:=Nat.pos_of_dvd_of_pos hm (by omega);obtain ⟨r,hr,hrm⟩:=ih m (by omega) (by omega);exact ⟨r,hr,Nat.dvd_trans hrm hm⟩
  ·refine ⟨n,⟨hn,fun m hm=>?_⟩,Nat.dvd_refl n⟩
   by_cases h1 : m = 1
   ·exact .inl h1
   ·by_cases h2 : m = n
    ·exact .inr h2
    ·exact absurd ⟨m,hm,h1,h2⟩ hp

theorem small_prime {n : Nat} (hn : 1 < n) (hp : ¬ Prime n) : ∃ r,Prime r ∧ r ∣ n ∧ r * r ≤ n:=by
 have : ∃ m,m ∣ n ∧ m ≠ 1 ∧ m ≠ n:=by
  by_cases h : ∃ m,m ∣ n ∧ m ≠ 1 ∧ m ≠ n
  ·exact h
  ·refine absurd ⟨hn,fun m hm=>?_⟩ hp
   by_cases h1 : m = 1
   ·exact .inl h1
   ·by_cases h2 : m = n
    ·exact .inr h2
    ·exact absurd ⟨m,hm,h1,h2⟩ h
 obtain ⟨m,⟨k,hk⟩,h1,h2⟩:=this
 have hm0 : 0 < m:=by
  rcases Nat.eq_zero_or_pos m with h | h
  ·subst h; simp at hk; omega
  ·exact h
 have hk0 : 0 < k:=by
  rcases Nat.eq_zero_or_pos k with h | h
  ·subst h; simp at hk; omega
  ·exact h
 have hk1 : k ≠ 1:=fun h=>by subst h; simp at hk; omega
 rcases Nat.le_total m k with hle | hle
 ·obtain ⟨r,hr,hrm⟩:=exists_prime_dvd m (by omega)
  have hrle:=Nat.le_of_dvd hm0 hrm;exact ⟨r,hr,Nat.dvd_trans hrm ⟨k,hk⟩,by rw [hk]; exact Nat.mul_le_mul hrle (Nat.le_trans hrle hle)⟩
 ·obtain ⟨r,hr,hrk⟩:=exists_prime_dvd k (by omega)
  have hrle:=Nat.le_of_dvd hk0 hrk;exact ⟨r,hr,Nat.dvd_trans hrk ⟨m,by rw [hk,Nat.mul_comm]⟩,by rw [hk]; exact Nat.mul_le_mul (Nat.le_trans hrle hle) hrle⟩

/-! Fermat. -/
def prod (l : List Nat) : Nat:=l.foldr (· * ·) 1
theorem prod_cons (a : Nat) (l : List Nat) : prod (a :: l) = a * prod l:=rfl
theorem prod_perm {l1 l2 : List Nat} (h : l1.Perm l2) : prod l1 = prod l2:=by
 induction h with
 | nil=>rfl
 | cons x _ ih=>rw [prod_cons,prod_cons,ih]
 | swap x y l=>rw [prod_cons,prod_cons,prod_cons,prod_cons,← Nat.mul_assoc,← Nat.mul_assoc,Nat.mul_comm x y]
 | trans _ _ ih1 ih2=>rw [ih1,ih2]

theorem perm_of : ∀ {l1 l2 : List Nat},l1.Nodup → (∀ x ∈ l1,x ∈ l2) → l2.length ≤ l1.length → l1.Perm l2
 | [],l2,_,_,hl=>by
  have : l2 = []:=List.eq_nil_of_length_eq_zero (by simpa using hl);subst this;exact List.Perm.refl _
 | x :: l1,l2,hn,hs,hl=>by
  have hx : x ∈ l2:=hs x (by simp);have hp:=List.perm_cons_erase hx;obtain ⟨hx1,hn1⟩:=List.nodup_cons.1 hn
  have h1 : l1.Perm (l2.erase x):=perm_of hn1 (fun y hy=>(List.mem_erase_of_ne (fun (e : y = x)=>hx1 (e ▸ hy))).2 (hs y (by simp [hy]))) (by
   rw [List.length_erase_of_mem hx]
   simp at hl
   omega)
  exact (List.Perm.cons x h1).trans hp.symm

theorem prod_map_mod (a r : Nat) : ∀ (l : List Nat),prod (l.map fun i=>a * i % r) % r = a ^ l.length * prod l % r
 | []=>by simp [prod]
 | i :: l=>by
  rw [List.map_cons,prod_cons,prod_cons,List.length_cons,Nat.mul_mod,prod_map_mod a r l,Nat.mod_mod,← Nat.mul_mod,Nat.pow_succ]
  congr 1
  rw [Nat.mul_assoc,Nat.mul_assoc];rw [Nat.mul_left_comm i,← Nat.mul_assoc a (a ^ l.length),Nat.mul_comm a (a ^ l.length),Nat.mul_assoc]

theorem coprime_prod {r : Nat} (hr : Prime r) : ∀ (l : List Nat),(∀ x ∈ l,¬ r ∣ x) → ¬ r ∣ prod l
 | [],_,h=>by
  have:=Nat.le_of_dvd (by simp [prod]) h
  simp [prod] at this
  have:=hr.1
  omega
 | x :: l,hl,h=>by
  rw [prod_cons] at h
  rcases hr.dvd_mul h with h1 | h1
  ·exact hl x (by simp) h1
  ·exact coprime_prod hr l (fun y hy=>hl y (by simp [hy])) h1

theorem mod_cancel {r a b c : Nat} (hr : Prime r) (hc : ¬ r ∣ c) (h : a * c % r = b * c % r) : a % r = b % r:=by
 have key : ∀ {x y : Nat},y ≤ x → x * c % r = y * c % r → x % r = y % r:=fun {x y} hle h=>by
  have h1 : r ∣ x * c - y * c:=Nat.dvd_of_mod_eq_zero (Nat.sub_mod_eq_zero_of_mod_eq h);rw [← Nat.sub_mul] at h1
  rcases hr.dvd_mul h1 with ⟨t,ht⟩ | h2
  ·have : x = y + r * t:=by omega
   rw [this,Nat.add_mul_mod_self_left]
  ·exact absurd h2 hc
 rcases Nat.le_total b a with hle | hle
 ·exact key hle h
 ·exact (key hle h.symm).symm

theorem nodup_map {f : Nat → Nat} : ∀ {l : List Nat},l.Nodup → (∀ x ∈ l,∀ y ∈ l,f x = f y → x = y) → (l.map f).Nodup
 | [],_,_=>by simp
 | a :: l,hn,hi=>by
  obtain ⟨h1,h2⟩:=List.nodup_cons.1 hn;rw [List.map_cons,List.nodup_cons];refine ⟨fun h=>?_,nodup_map h2 (fun x hx y hy=>hi x (by simp [hx]) y (by simp [hy]))⟩;obtain ⟨b,hb,e⟩:=List.mem_map.1 h;have:=hi b (by simp [hb]) a (by simp) e;subst this;exact h1 hb

theorem fermat {r a : Nat} (hr : Prime r) (ha : ¬ r ∣ a) : a ^ (r - 1) % r = 1:=by
 have hr1:=hr.1
 have hnd : ∀ i ∈ List.range' 1 (r - 1),¬ r ∣ i:=fun i hi hd=>by
  have hi':=List.mem_range'_1.1 hi;have:=Nat.le_of_dvd (by omega) hd
  omega
 have hperm : ((List.range' 1 (r - 1)).map fun i=>a * i % r).Perm (List.range' 1 (r - 1)):=by
  refine perm_of ?_ ?_ (by simp)
  ·refine nodup_map List.nodup_range' fun x hx y hy h=>?_
   have hx':=List.mem_range'_1.1 hx;have hy':=List.mem_range'_1.1 hy;rw [Nat.mul_comm a x,Nat.mul_comm a y] at h;have:=mod_cancel hr ha h
   rwa [Nat.mod_eq_of_lt (by omega),Nat.mod_eq_of_lt (by omega)] at this
  ·intro x hx
   obtain ⟨i,hi,rfl⟩:=List.mem_map.1 hx;have hlt : a * i % r < r:=Nat.mod_lt _ hr.pos
   have hne : a * i % r ≠ 0:=fun h0=>by
    rcases hr.dvd_mul (Nat.dvd_of_mod_eq_zero h0) with h1 | h1
    ·exact ha h1
    ·exact hnd i hi h1
   exact List.mem_range'_1.2 ⟨by omega,by omega⟩
 have h1:=prod_map_mod a r (List.range' 1 (r - 1));rw [prod_perm hperm,List.length_range'] at h1
 have h2 : 1 * prod (List.range' 1 (r - 1)) % r = a ^ (r - 1) * prod (List.range' 1 (r - 1)) % r:=by rw [Nat.one_mul]; exact h1
 have h3:=mod_cancel hr (coprime_prod hr _ hnd) h2;rw [← h3,Nat.mod_eq_of_lt hr1]

/-! Powers modulo a number, reckoned. -/
def pm (n a : Nat) : Nat → Nat → Nat
  | 0,_=>1 % n
  | k + 1,e=>if e % 2 = 1 then pm n a k (e / 2) * pm n a k (e / 2) % n * a % n else pm n a k (e / 2) * pm n a k (e / 2) % n

theorem pm_eq (n a : Nat) : ∀ (k e : Nat),e < 2 ^ k → pm n a k e = a ^ e % n
 | 0,e,h=>by
  have : e = 0:=by simpa using h
  subst this
  simp [pm]
 | k + 1,e,h=>by
  have h1 : e / 2 < 2 ^ k:=by rw [Nat.pow_succ] at h; omega
  have ih:=pm_eq n a k (e / 2) h1
  unfold pm
  rw [ih]
  have e2 : a ^ (e / 2) % n * (a ^ (e / 2) % n) % n = a ^ (2 * (e / 2)) % n:=by
   rw [← Nat.mul_mod,← Nat.pow_add]
   congr 2
   omega
  rw [e2]
  split
  ·rw [Nat.mod_mul_mod,← Nat.pow_succ]
   congr 2
   omega
  ·congr 2
   omega

theorem pow_gcd {r a : Nat} (hr : 1 < r) : ∀ (m n : Nat),a ^ m % r = 1 → a ^ n % r = 1 → a ^ Nat.gcd m n % r = 1:=by
 intro m n
 induction m,n using Nat.gcd.induction with
 | H0 n=>intro _ h; simpa using h
 | H1 m n hm ih =>
  intro h1 h2
  rw [Nat.gcd_rec];refine ih ?_ h1
  have e : a ^ n = (a ^ m) ^ (n / m) * a ^ (n % m):=by
   rw [← Nat.pow_mul,← Nat.pow_add,Nat.div_add_mod]
  have h3 : (a ^ m) ^ (n / m) % r = 1:=by
   rw [Nat.pow_mod,h1,Nat.one_pow,Nat.mod_eq_of_lt hr]
  rw [e,Nat.mul_mod,h3,Nat.one_mul,Nat.mod_mod] at h2;exact h2

theorem pock_one {n q a m r : Nat} (hq : Prime q) (hn : n - 1 = q * m) (hn1 : 1 < n) (h1 : a ^ (n - 1) % n = 1) (g1 : Nat.gcd (a ^ m % n + n - 1) n = 1) (hr : Prime r) (hrn : r ∣ n) : q ∣ r - 1:=by
 have hr1:=hr.1;have hmod : ∀ x,x % n % r = x % r:=fun x=>Nat.mod_mod_of_dvd x hrn
 have h1r : a ^ (n - 1) % r = 1:=by rw [← hmod,h1,Nat.mod_eq_of_lt hr1]
 have hra : ¬ r ∣ a:=fun hd=>by
  have h0 : a ^ (n - 1) % r = 0:=by
   refine Nat.mod_eq_zero_of_dvd (Nat.dvd_trans hd ?_);exact ⟨a ^ (n - 2),by rw [← Nat.pow_succ']; congr 1; omega⟩
  omega
 by_cases hqr : q ∣ r - 1
 ·exact hqr
 ·have hf:=fermat hr hra
  have hg:=pow_gcd hr1 (n - 1) (r - 1) h1r hf
  have hcop : Nat.Coprime (Nat.gcd (n - 1) (r - 1)) q:=by
   have:=hq.coprime (a:=Nat.gcd (n - 1) (r - 1)) (fun hd=>hqr (Nat.dvd_trans hd (Nat.gcd_dvd_right _ _)));exact this.symm
  have hdm : Nat.gcd (n - 1) (r - 1) ∣ m:=by
   have : Nat.gcd (n - 1) (r - 1) ∣ q * m:=hn ▸ Nat.gcd_dvd_left (n - 1) (r - 1);exact hcop.dvd_of_dvd_mul_left this
  obtain ⟨t,ht⟩:=hdm
  have hm : a ^ m % r = 1:=by
   rw [ht,Nat.pow_mul,Nat.pow_mod,hg,Nat.one_pow,Nat.mod_eq_of_lt hr1]
  exfalso
  have hlt : a ^ m % n < n:=Nat.mod_lt _ (by omega)
  have hd : r ∣ a ^ m % n + n - 1:=by
   have e1 : a ^ m % n % r = 1:=by rw [hmod]; exact hm
   have e2 : 1 ≤ a ^ m % n:=by
    rcases Nat.eq_zero_or_pos (a ^ m % n) with h0 | h0
    ·rw [h0] at e1; simp at e1
    ·exact h0
   have e3 : r ∣ a ^ m % n - 1:=Nat.dvd_of_mod_eq_zero (by
    have:=Nat.sub_mod_eq_zero_of_mod_eq (m:=a ^ m % n) (n:=1) (k:=r) (by rw [e1,Nat.mod_eq_of_lt hr1])
    exact this)
   have e4 : a ^ m % n + n - 1 = (a ^ m % n - 1) + n:=by omega
   rw [e4];exact Nat.dvd_add e3 hrn
  have:=Nat.dvd_gcd hd hrn;rw [g1] at this;have:=Nat.le_of_dvd (by omega) this
  omega

theorem pocklington {n q1 q2 m1 m2 a : Nat} (hq1 : Prime q1) (hq2 : Prime q2) (hne : q1 ≠ q2) (hn1 : 1 < n) (hm1 : n - 1 = q1 * m1) (hm2 : n - 1 = q2 * m2) (hsz : n < (q1 * q2 + 1) * (q1 * q2 + 1))
  (h1 : a ^ (n - 1) % n = 1) (g1 : Nat.gcd (a ^ m1 % n + n - 1) n = 1) (g2 : Nat.gcd (a ^ m2 % n + n - 1) n = 1) : Prime n:=by
 by_cases hp : Prime n
 ·exact hp
 ·exfalso
  obtain ⟨r,hr,hrn,hrr⟩:=small_prime hn1 hp;have d1:=pock_one hq1 hm1 hn1 h1 g1 hr hrn;have d2:=pock_one hq2 hm2 hn1 h1 g2 hr hrn
  have hcop : Nat.Coprime q1 q2:=hq1.coprime (fun hd=>by
   rcases hq2.2 _ hd with h | h
   ·have:=hq1.1; omega
   ·exact hne h)
  have hd : q1 * q2 ∣ r - 1:=hcop.mul_dvd_of_dvd_of_dvd d1 d2;have hr1:=hr.1;have hle:=Nat.le_of_dvd (by omega) hd
  have h2 : q1 * q2 + 1 ≤ r:=by omega
  have:=Nat.mul_le_mul h2 h2
  omega

def pockB (n q1 q2 a k : Nat) : Bool :=
  decide (1 < n) && decide (n - 1 = q1 * ((n - 1) / q1)) && decide (n - 1 = q2 * ((n - 1) / q2)) && decide (n < (q1 * q2 + 1) * (q1 * q2 + 1)) && decide (q1 ≠ q2) && decide (n < 2 ^ k) &&
  (pm n a k (n - 1) == 1) && (Nat.gcd (pm n a k ((n - 1) / q1) + n - 1) n == 1) && (Nat.gcd (pm n a k ((n - 1) / q2) + n - 1) n == 1)

theorem prime_of {n q1 q2 a k : Nat} (hq1 : Prime q1) (hq2 : Prime q2) (h : pockB n q1 q2 a k = true) : Prime n:=by
 simp only [pockB,Bool.and_eq_true,decide_eq_true_eq,beq_iff_eq] at h;obtain ⟨⟨⟨⟨⟨⟨⟨⟨h1,h2⟩,h3⟩,h4⟩,h5⟩,h6⟩,h7⟩,h8⟩,h9⟩:=h;have hd1 : (n - 1) / q1 ≤ n - 1:=Nat.div_le_self _ _;have hd2 : (n - 1) / q2 ≤ n - 1:=Nat.div_le_self _ _;rw [pm_eq n a k _ (by omega)] at h7 h8 h9;exact pocklington hq1 hq2 h5 h1 h2 h3 h4 h7 h8 h9

def trial (n : Nat) : Nat → Bool
  | 0=>true
  | k + 1=>trial n k && (decide (k < 2) || decide (n % k ≠ 0))
theorem trial_get {n : Nat} : ∀ {k m : Nat},trial n k = true → 2 ≤ m → m < k → ¬ m ∣ n
 | k + 1,m,h,h2,hm,hd=>by
  simp only [trial,Bool.and_eq_true,Bool.or_eq_true,decide_eq_true_eq] at h
  by_cases e : m = k
  ·subst e
   rcases h.2 with h3 | h3
   ·omega
   ·exact h3 (Nat.mod_eq_zero_of_dvd hd)
  ·exact trial_get h.1 h2 (by omega) hd
theorem prime_trial {n k : Nat} (hn : 1 < n) (hk : n < k * k) (h : trial n k = true) : Prime n:=by
 by_cases hp : Prime n
 ·exact hp
 ·exfalso
  obtain ⟨r,hr,hrn,hrr⟩:=small_prime hn hp;have hr1:=hr.1
  have : r < k:=by
   rcases Nat.lt_or_ge r k with h1 | h1
   ·exact h1
   ·have:=Nat.mul_le_mul h1 h1; omega
  exact trial_get h (by omega) this hrn

theorem prime_127 : Prime 127:=prime_trial (k:=12) (by decide) (by decide) (by decide +kernel)
theorem prime_8574133 : Prime 8574133:=prime_trial (k:=2929) (by decide) (by decide +kernel) (by decide +kernel)
theorem prime_75707 : Prime 75707:=prime_trial (k:=276) (by decide) (by decide +kernel) (by decide +kernel)
theorem prime_65147 : Prime 65147:=prime_trial (k:=256) (by decide) (by decide +kernel) (by decide +kernel)
theorem prime_1923133 : Prime 1923133:=prime_trial (k:=1387) (by decide) (by decide +kernel) (by decide +kernel)
theorem prime_a : Prime 1919519569386763:=prime_of (q1:=8574133) (q2:=127) (a:=2) (k:=51) prime_8574133 prime_127 (by decide +kernel)
theorem prime_b : Prime 75445702479781427272750846543864801:=prime_of (q1:=1919519569386763) (q2:=75707) (a:=7) (k:=116) prime_a prime_75707 (by decide +kernel)
theorem prime_c : Prime 74058212732561358302231226437062788676166966415465897661863160754340907:=prime_of (q1:=75445702479781427272750846543864801) (q2:=1923133) (a:=2) (k:=236) prime_b prime_1923133 (by decide +kernel)

def p : Nat:=57896044618658097711785492504343953926634992332820282019728792003956564819949
theorem prime_p : Prime p:=prime_of (q1:=74058212732561358302231226437062788676166966415465897661863160754340907) (q2:=65147) (a:=2) (k:=255) prime_c prime_65147 (by decide +kernel)

end Nums

namespace Nums
section
variable {n : Nat} [NeZero n]

omit [NeZero n] in
theorem val_mul (a b : Fin n) : (a * b).val = a.val * b.val % n:=rfl
theorem val_zero : ((0 : Fin n)).val = 0:=by simp
theorem val_one (hn : Prime n) : ((1 : Fin n)).val = 1:=by
 show 1 % n = 1
 exact Nat.mod_eq_of_lt hn.1

theorem ne_one (hn : Prime n) : (0 : Fin n) ≠ 1:=by
 intro h
 have:=congrArg Fin.val h;rw [val_one hn,val_zero] at this
 omega

theorem zero_or (hn : Prime n) {a b : Fin n} (h : a * b = 0) : a = 0 ∨ b = 0:=by
 have h1 : a.val * b.val % n = 0:=by rw [← val_mul,h]; exact val_zero
 have z : ∀ c : Fin n,n ∣ c.val → c = 0:=fun c hc=>by
  apply Fin.ext
  rw [val_zero];exact Nat.eq_zero_of_dvd_of_lt hc c.isLt
 rcases hn.dvd_mul (Nat.dvd_of_mod_eq_zero h1) with h2 | h2
 ·exact .inl (z a h2)
 ·exact .inr (z b h2)

theorem mul_ne (hn : Prime n) {a b : Fin n} (ha : a ≠ 0) (hb : b ≠ 0) : a * b ≠ 0:=fun h=>by
 rcases zero_or hn h with h | h
 ·exact ha h
 ·exact hb h

def fpow (a : Fin n) : Nat → Fin n
  | 0=>1
  | k + 1=>fpow a k * a

theorem fpow_zero (a : Fin n) : fpow a 0 = 1:=rfl
theorem fpow_succ (a : Fin n) (k : Nat) : fpow a (k + 1) = fpow a k * a:=rfl
theorem fpow_add (a : Fin n) (j k : Nat) : fpow a (j + k) = fpow a j * fpow a k:=by
 induction k with
 | zero=>rw [Nat.add_zero,fpow_zero]; grind
 | succ k ih=>rw [Nat.add_succ,fpow_succ,fpow_succ,ih]; grind
theorem fpow_one (a : Fin n) : fpow a 1 = a:=by rw [fpow_succ,fpow_zero]; grind
theorem one_fpow (k : Nat) : fpow (1 : Fin n) k = 1:=by
 induction k with
 | zero=>rfl
 | succ k ih=>rw [fpow_succ,ih]; grind
theorem fpow_mul (a : Fin n) (j k : Nat) : fpow a (j * k) = fpow (fpow a j) k:=by
 induction k with
 | zero=>rfl
 | succ k ih=>rw [Nat.mul_succ,fpow_add,fpow_succ,ih]
theorem mul_fpow (a b : Fin n) (k : Nat) : fpow (a * b) k = fpow a k * fpow b k:=by
 induction k with
 | zero=>rw [fpow_zero,fpow_zero,fpow_zero]; grind
 | succ k ih=>rw [fpow_succ,fpow_succ,fpow_succ,ih]; grind
theorem fpow_val (hn : Prime n) (a : Fin n) (k : Nat) : (fpow a k).val = a.val ^ k % n:=by
 induction k with
 | zero=>rw [fpow_zero,val_one hn,Nat.pow_zero,Nat.mod_eq_of_lt hn.1]
 | succ k ih=>rw [fpow_succ,val_mul,ih,Nat.pow_succ,Nat.mod_mul_mod]

theorem fpow_fermat (hn : Prime n) {a : Fin n} (ha : a ≠ 0) : fpow a (n - 1) = 1:=by
 apply Fin.ext
 rw [fpow_val hn,val_one hn]
 apply fermat hn
 intro hd
 apply ha
 apply Fin.ext
 rw [val_zero];exact Nat.eq_zero_of_dvd_of_lt hd a.isLt

def finv (a : Fin n) : Fin n:=fpow a (n - 2)

theorem mul_finv (hn : Prime n) {a : Fin n} (ha : a ≠ 0) : a * finv a = 1:=by
 have h:=fpow_fermat hn ha
 have h2 : n - 1 = (n - 2) + 1:=by have:=hn.1; omega
 rw [h2,fpow_succ] at h
 unfold finv
 rw [← h]; grind

theorem cancel (hn : Prime n) {a b c : Fin n} (hc : c ≠ 0) (h : a * c = b * c) : a = b:=by
 have h1:=mul_finv hn hc
 have : a * c * finv c = b * c * finv c:=by rw [h]
 grind

theorem finv_of (hn : Prime n) {a b : Fin n} (h : a * b = 1) : finv a = b:=by
 have ha : a ≠ 0:=by
  rintro rfl
  exact ne_one hn (by rw [← h]; grind)
 apply cancel hn ha
 have:=mul_finv hn ha
 grind

theorem root_or (hn : Prime n) {a b : Fin n} (h : a * a = b * b) : a = b ∨ a = -b:=by
 have : (a - b) * (a + b) = 0:=by grind
 rcases zero_or hn this with h | h
 ·left; grind
 ·right; grind

end
end Nums

namespace Nums

theorem Ed.closed {n : Nat} [NeZero n] (x1 y1 x2 y2 d : Fin n) (h1 : y1*y1 - x1*x1 = 1 + d*x1*x1*y1*y1) (h2 : y2*y2 - x2*x2 = 1 + d*x2*x2*y2*y2) :
  (y1*y2+x1*x2)*(y1*y2+x1*x2)*(1+d*x1*x2*y1*y2)*(1+d*x1*x2*y1*y2) - (x1*y2+y1*x2)*(x1*y2+y1*x2)*(1-d*x1*x2*y1*y2)*(1-d*x1*x2*y1*y2)
   = (1+d*x1*x2*y1*y2)*(1+d*x1*x2*y1*y2)*(1-d*x1*x2*y1*y2)*(1-d*x1*x2*y1*y2) + d*(y1*y2+x1*x2)*(y1*y2+x1*x2)*(x1*y2+y1*x2)*(x1*y2+y1*x2):=by grind

set_option maxHeartbeats 4000000 in
theorem Ed.assoc_x {n : Nat} [NeZero n] (x1 y1 x2 y2 x3 y3 d : Fin n) (h1 : y1*y1 - x1*x1 = 1 + d*x1*x1*y1*y1) (h2 : y2*y2 - x2*x2 = 1 + d*x2*x2*y2*y2) (h3 : y3*y3 - x3*x3 = 1 + d*x3*x3*y3*y3) :
 ((x1*y2+y1*x2)*(1-d*x1*x2*y1*y2)*y3 + (y1*y2+x1*x2)*(1+d*x1*x2*y1*y2)*x3) * ((1+d*x2*x3*y2*y3)*(1-d*x2*x3*y2*y3) + d*x1*y1*(x2*y3+y2*x3)*(y2*y3+x2*x3))
 = (x1*(y2*y3+x2*x3)*(1+d*x2*x3*y2*y3) + y1*(x2*y3+y2*x3)*(1-d*x2*x3*y2*y3)) * ((1+d*x1*x2*y1*y2)*(1-d*x1*x2*y1*y2) + d*(x1*y2+y1*x2)*(y1*y2+x1*x2)*x3*y3):=by grind

set_option maxHeartbeats 4000000 in
theorem Ed.assoc_y {n : Nat} [NeZero n] (x1 y1 x2 y2 x3 y3 d : Fin n) (h1 : y1*y1 - x1*x1 = 1 + d*x1*x1*y1*y1) (h2 : y2*y2 - x2*x2 = 1 + d*x2*x2*y2*y2) (h3 : y3*y3 - x3*x3 = 1 + d*x3*x3*y3*y3) :
 ((y1*y2+x1*x2)*(1+d*x1*x2*y1*y2)*y3 + (x1*y2+y1*x2)*(1-d*x1*x2*y1*y2)*x3) * ((1+d*x2*x3*y2*y3)*(1-d*x2*x3*y2*y3) - d*x1*y1*(x2*y3+y2*x3)*(y2*y3+x2*x3))
 = (y1*(y2*y3+x2*x3)*(1+d*x2*x3*y2*y3) + x1*(x2*y3+y2*x3)*(1-d*x2*x3*y2*y3)) * ((1+d*x1*x2*y1*y2)*(1-d*x1*x2*y1*y2) - d*(x1*y2+y1*x2)*(y1*y2+x1*x2)*x3*y3):=by grind

theorem Ed.key {n : Nat} [NeZero n] {X1 Y1 X2 Y2 D e s : Fin n} (h1 : X1*X1 + Y1*Y1 = 1 + D*X1*X1*Y1*Y1) (h2 : X2*X2 + Y2*Y2 = 1 + D*X2*X2*Y2*Y2) (h : D*X1*X2*Y1*Y2 = e) (he : e * e = 1) (hs : s * s = 1) :
  (X1 + s*e*Y1) * (X1 + s*e*Y1) = D * ((X1*Y1*(X2+s*Y2)) * (X1*Y1*(X2+s*Y2))):=by
 have l : (X1 + s*e*Y1) * (X1 + s*e*Y1) = X1*X1 + (s*s)*(e*e)*(Y1*Y1) + 2*s*e*X1*Y1:=by grind only
 have r : D * ((X1*Y1*(X2+s*Y2)) * (X1*Y1*(X2+s*Y2))) = D*X1*X1*Y1*Y1*(X2*X2 + (s*s)*(Y2*Y2)) + 2*s*(D*X1*X2*Y1*Y2)*X1*Y1:=by grind only
 rw [l,r,hs,he,h]
 have e1 : (1 : Fin n) * 1 * (Y1*Y1) = Y1 * Y1:=by grind only
 have e2 : (1 : Fin n) * (Y2*Y2) = Y2 * Y2:=by grind only
 have e3 : D*X1*X1*Y1*Y1*(1 + D*X2*X2*Y2*Y2) = D*X1*X1*Y1*Y1 + (D*X1*X2*Y1*Y2) * (D*X1*X2*Y1*Y2):=by grind only
 rw [e1,e2,h1,h2,e3,h,he]
 grind only

section
variable {n : Nat} [NeZero n]

structure Ed.Pt (n : Nat) where
  x : Fin n
  y : Fin n

structure Ed.Good (n : Nat) [NeZero n] (d : Fin n) : Prop where
  pr : Prime n
  two : (2 : Fin n) ≠ 0
  i : ∃ i : Fin n,i * i = -1
  d : ∀ t : Fin n,t * t ≠ d

namespace Ed
variable {d : Fin n}

def On (d : Fin n) (P : Pt n) : Prop:=P.y*P.y - P.x*P.x = 1 + d*P.x*P.x*P.y*P.y

theorem complete (g : Good n d) {x1 y1 x2 y2 e : Fin n} (h1 : y1*y1 - x1*x1 = 1 + d*x1*x1*y1*y1) (h2 : y2*y2 - x2*x2 = 1 + d*x2*x2*y2*y2) (he : e * e = 1) :
  d*x1*x2*y1*y2 ≠ e:=by
 intro h
 obtain ⟨i,hi⟩:=g.i
 have e0 : e ≠ 0:=by rintro rfl; exact ne_one g.pr (by grind only)
 have hx1 : x1 ≠ 0:=by rintro rfl; exact e0 (by grind only)
 have hy1 : y1 ≠ 0:=by rintro rfl; exact e0 (by grind only)
 have hx2 : x2 ≠ 0:=by rintro rfl; exact e0 (by grind only)
 have hi0 : i ≠ 0:=by
  rintro rfl
  exact ne_one g.pr (by grind only)
 have g1 : (i*x1)*(i*x1) + y1*y1 = 1 + (-d)*(i*x1)*(i*x1)*y1*y1:=by
  have a : (i*x1)*(i*x1) + y1*y1 = (i*i)*(x1*x1) + y1*y1:=by grind only
  have b : 1 + (-d)*(i*x1)*(i*x1)*y1*y1 = 1 + (-d)*(i*i)*(x1*x1)*y1*y1:=by grind only
  rw [a,b,hi]
  grind only
 have g2 : (i*x2)*(i*x2) + y2*y2 = 1 + (-d)*(i*x2)*(i*x2)*y2*y2:=by
  have a : (i*x2)*(i*x2) + y2*y2 = (i*i)*(x2*x2) + y2*y2:=by grind only
  have b : 1 + (-d)*(i*x2)*(i*x2)*y2*y2 = 1 + (-d)*(i*i)*(x2*x2)*y2*y2:=by grind only
  rw [a,b,hi]
  grind only
 have g3 : (-d)*(i*x1)*(i*x2)*y1*y2 = e:=by
  have a : (-d)*(i*x1)*(i*x2)*y1*y2 = (-d)*(i*i)*x1*x2*y1*y2:=by grind only
  rw [a,hi,← h]
  grind only
 have key : ∀ s : Fin n,s * s = 1 → i*x2 + s*y2 = 0:=by
  intro s hs
  by_cases hz : i*x2 + s*y2 = 0
  ·exact hz
  exfalso
  have hw : i*x1*y1*(i*x2+s*y2) ≠ 0:=mul_ne g.pr (mul_ne g.pr (mul_ne g.pr hi0 hx1) hy1) hz;have hm:=mul_finv g.pr hw;have hk:=Ed.key g1 g2 g3 he hs;generalize i*x1*y1*(i*x2+s*y2) = w at hm hk;generalize i*x1 + s*e*y1 = v at hk;refine g.d (i * (v * finv w)) ?_
  have a : i * (v * finv w) * (i * (v * finv w)) = (i*i)*(v*v)*(finv w)*(finv w):=by grind only
  have b : (-1) * ((-d) * (w*w)) * finv w * finv w = d * (w * finv w) * (w * finv w):=by grind only
  rw [a,hi,hk,b,hm]
  grind only
 have k1:=key 1 (by grind only);have k2:=key (-1) (by grind only)
 have : (2 : Fin n) * (i * x2) = 0:=by grind only
 rcases zero_or g.pr this with h3 | h3
 ·exact g.two h3
 ·exact mul_ne g.pr hi0 hx2 h3

end Ed
end
end Nums
/-
PLAIN NUMBERS: the sums of the curve's points are a group; multiples. No program is imported.
PLAIN NUMBERS: multiples of the curve's points; the sum in coordinates over one z. No program is imported.
PLAIN NUMBERS: p = 2^255 - 19: which numbers are squares, and their roots; the curve's d. No program is imported.
-/
namespace Nums
namespace Ed
variable {n : Nat} [NeZero n] {d : Fin n}

def kk (d : Fin n) (P Q : Pt n) : Fin n:=d * P.x * Q.x * P.y * Q.y

theorem plus_ne (g : Good n d) {P Q : Pt n} (hP : On d P) (hQ : On d Q) : 1 + kk d P Q ≠ 0:=fun h =>
 complete g hP hQ (e := -1) (by grind only) (by unfold kk at h; grind only)

theorem minus_ne (g : Good n d) {P Q : Pt n} (hP : On d P) (hQ : On d Q) : 1 - kk d P Q ≠ 0:=fun h =>
 complete g hP hQ (e:=1) (by grind only) (by unfold kk at h; grind only)

def add (d : Fin n) (P Q : Pt n) : Pt n :=
  ⟨(P.x*Q.y + P.y*Q.x) * finv (1 + kk d P Q),(P.y*Q.y + P.x*Q.x) * finv (1 - kk d P Q)⟩

def zero : Pt n:=⟨0,1⟩
def neg (P : Pt n) : Pt n:=⟨-P.x,P.y⟩

theorem on_zero : On d (zero : Pt n):=by
 show (1 : Fin n) * 1 - 0 * 0 = 1 + d * 0 * 0 * 1 * 1
 grind only

theorem on_neg {P : Pt n} (h : On d P) : On d (neg P):=by
 unfold On neg at *
 show P.y * P.y - -P.x * -P.x = 1 + d * -P.x * -P.x * P.y * P.y
 grind only

theorem add_x (g : Good n d) {P Q : Pt n} (hP : On d P) (hQ : On d Q) : (add d P Q).x * (1 + kk d P Q) = P.x*Q.y + P.y*Q.x:=by
 have:=mul_finv g.pr (plus_ne g hP hQ)
 show (P.x*Q.y + P.y*Q.x) * finv (1 + kk d P Q) * (1 + kk d P Q) = _
 generalize finv (1 + kk d P Q) = u at *;generalize 1 + kk d P Q = v at *
 have a : (P.x*Q.y + P.y*Q.x) * u * v = (P.x*Q.y + P.y*Q.x) * (v * u):=by grind only
 rw [a,this]
 grind only

theorem add_y (g : Good n d) {P Q : Pt n} (hP : On d P) (hQ : On d Q) : (add d P Q).y * (1 - kk d P Q) = P.y*Q.y + P.x*Q.x:=by
 have:=mul_finv g.pr (minus_ne g hP hQ)
 show (P.y*Q.y + P.x*Q.x) * finv (1 - kk d P Q) * (1 - kk d P Q) = _
 generalize finv (1 - kk d P Q) = u at *;generalize 1 - kk d P Q = v at *
 have a : (P.y*Q.y + P.x*Q.x) * u * v = (P.y*Q.y + P.x*Q.x) * (v * u):=by grind only
 rw [a,this]
 grind only

theorem on_add (g : Good n d) {P Q : Pt n} (hP : On d P) (hQ : On d Q) : On d (add d P Q):=by
 have hx:=add_x g hP hQ;have hy:=add_y g hP hQ;have h1:=plus_ne g hP hQ;have h2:=minus_ne g hP hQ;have c:=closed P.x P.y Q.x Q.y d hP hQ;have k1 : (1 : Fin n) + d*P.x*Q.x*P.y*Q.y = 1 + kk d P Q:=rfl;have k2 : (1 : Fin n) - d*P.x*Q.x*P.y*Q.y = 1 - kk d P Q:=rfl;rw [k1,k2] at c
 show (add d P Q).y * (add d P Q).y - (add d P Q).x * (add d P Q).x = 1 + d * (add d P Q).x * (add d P Q).x * (add d P Q).y * (add d P Q).y
 rw [← hx,← hy] at c;generalize (add d P Q).x = x at *;generalize (add d P Q).y = y at *;generalize 1 + kk d P Q = u at *;generalize 1 - kk d P Q = v at *
 apply cancel g.pr (mul_ne g.pr (mul_ne g.pr h1 h1) (mul_ne g.pr h2 h2))
 clear hP hQ hx hy
 grind only

theorem add_comm (P Q : Pt n) : add d P Q = add d Q P:=by
 unfold add kk
 have a : d * P.x * Q.x * P.y * Q.y = d * Q.x * P.x * Q.y * P.y:=by grind only
 have b : P.x*Q.y + P.y*Q.x = Q.x*P.y + Q.y*P.x:=by grind only
 have c : P.y*Q.y + P.x*Q.x = Q.y*P.y + Q.x*P.x:=by grind only
 rw [a,b,c]

theorem zero_add (g : Good n d) (P : Pt n) : add d zero P = P:=by
 unfold add kk zero
 have a : d * 0 * P.x * 1 * P.y = 0:=by grind only
 have f1 : finv (1 + 0 : Fin n) = 1:=finv_of g.pr (by grind only);have f2 : finv (1 - 0 : Fin n) = 1:=finv_of g.pr (by grind only)
 show Pt.mk ((0 * P.y + 1 * P.x) * finv (1 + d * 0 * P.x * 1 * P.y)) ((1 * P.y + 0 * P.x) * finv (1 - d * 0 * P.x * 1 * P.y)) = P
 rw [a,f1,f2]
 have b : (0 * P.y + 1 * P.x) * 1 = P.x:=by grind only
 have c : (1 * P.y + 0 * P.x) * 1 = P.y:=by grind only
 rw [b,c]

theorem add_zero (g : Good n d) (P : Pt n) : add d P zero = P:=by rw [add_comm,zero_add g]

theorem add_neg (g : Good n d) {P : Pt n} (hP : On d P) : add d P (neg P) = zero:=by
 have hm:=minus_ne g hP (on_neg hP);have:=mul_finv g.pr hm
 unfold add zero
 have a : (P.x * (neg P).y + P.y * (neg P).x) = 0:=by show P.x * P.y + P.y * -P.x = 0; grind only
 have b : P.y * (neg P).y + P.x * (neg P).x = 1 - kk d P (neg P):=by
  show P.y * P.y + P.x * -P.x = 1 - d * P.x * -P.x * P.y * P.y
  unfold On at hP
  grind only
 rw [a,b,this]
 have c : 0 * finv (1 + kk d P (neg P)) = 0:=by grind only
 rw [c]

theorem re_xl (sx sy rx ry px py tx ty a b e f d : Fin n) : (sx * a * b * ry + sy * b * a * rx) * (e * f + d * px * py * (tx * e) * (ty * f))
   = (a * b * e * f) * ((sx * ry + sy * rx) * (1 + d * px * tx * py * ty)):=by grind only
theorem re_xr (sx sy rx ry px py tx ty a b e f d : Fin n) : (px * (ty * f) * e + py * (tx * e) * f) * (a * b + d * (sx * a) * (sy * b) * rx * ry)
   = (a * b * e * f) * ((px * ty + py * tx) * (1 + d * sx * rx * sy * ry)):=by grind only
theorem re_yl (sx sy rx ry px py tx ty a b e f d : Fin n) : (sy * b * a * ry + sx * a * b * rx) * (e * f - d * px * py * (tx * e) * (ty * f))
   = (a * b * e * f) * ((sy * ry + sx * rx) * (1 - d * px * tx * py * ty)):=by grind only
theorem re_yr (sx sy rx ry px py tx ty a b e f d : Fin n) : (py * (ty * f) * e + px * (tx * e) * f) * (a * b - d * (sx * a) * (sy * b) * rx * ry)
   = (a * b * e * f) * ((py * ty + px * tx) * (1 - d * sx * rx * sy * ry)):=by grind only
theorem re_c (u z w v : Fin n) : u * (z * (w * v)) = z * (u * w * v):=by grind only
theorem re_d (t z w v : Fin n) : t * (z * (w * v)) = z * (t * v * w):=by grind only

set_option maxHeartbeats 4000000 in
theorem add_assoc (g : Good n d) {P Q R : Pt n} (hP : On d P) (hQ : On d Q) (hR : On d R) : add d (add d P Q) R = add d P (add d Q R):=by
 have hPQ:=on_add g hP hQ;have hQR:=on_add g hQ hR;have x1:=add_x g hP hQ;have y1:=add_y g hP hQ;have p1:=plus_ne g hP hQ;have m1:=minus_ne g hP hQ;have x2:=add_x g hQ hR;have y2:=add_y g hQ hR;have p2:=plus_ne g hQ hR;have m2:=minus_ne g hQ hR;have x3:=add_x g hPQ hR;have y3:=add_y g hPQ hR;have p3:=plus_ne g hPQ hR;have m3:=minus_ne g hPQ hR;have x4:=add_x g hP hQR;have y4:=add_y g hP hQR;have p4:=plus_ne g hP hQR;have m4:=minus_ne g hP hQR;have ax:=assoc_x P.x P.y Q.x Q.y R.x R.y d hP hQ hR;have ay:=assoc_y P.x P.y Q.x Q.y R.x R.y d hP hQ hR;clear hP hQ hR hPQ hQR;have c1 : (1 : Fin n) + d*P.x*Q.x*P.y*Q.y = 1 + kk d P Q:=rfl;have c2 : (1 : Fin n) - d*P.x*Q.x*P.y*Q.y = 1 - kk d P Q:=rfl;have c3 : (1 : Fin n) + d*Q.x*R.x*Q.y*R.y = 1 + kk d Q R:=rfl;have c4 : (1 : Fin n) - d*Q.x*R.x*Q.y*R.y = 1 - kk d Q R:=rfl;rw [c1,c2,c3,c4,← x1,← y1,← x2,← y2] at ax ay
 have ex : (add d (add d P Q) R).x = (add d P (add d Q R)).x:=by
  generalize add d (add d P Q) R = U at *;generalize add d P (add d Q R) = V at *
  unfold kk at x3 p3 x4 p4
  generalize add d P Q = S at *;generalize add d Q R = T at *;generalize 1 + kk d P Q = a at *;generalize 1 - kk d P Q = b at *;generalize 1 + kk d Q R = e at *;generalize 1 - kk d Q R = f at *
  -- ax: (S.x a b R.y + S.y b a R.x) (e f + d P.x P.y (T.x e)(T.y f)) = (P.x T.y f e + P.y T.x e f) (a b + d (S.x a)(S.y b) R.x R.y)
  rw [re_xl,re_xr,← x3,← x4] at ax;have hne:=mul_ne g.pr (mul_ne g.pr (mul_ne g.pr p1 m1) p2) m2
  apply cancel g.pr (mul_ne g.pr hne (mul_ne g.pr p3 p4))
  clear x1 y1 x2 y2 x3 y3 x4 y4 ay c1 c2 c3 c4 hne p1 p2 m1 m2 m3 m4;generalize a * b * e * f = z at *;generalize 1 + d * S.x * R.x * S.y * R.y = w at *;generalize 1 + d * P.x * T.x * P.y * T.y = v at *;generalize U.x = u at *;generalize V.x = t at *;clear g p3 p4;rw [re_c,re_d,ax]
 have ey : (add d (add d P Q) R).y = (add d P (add d Q R)).y:=by
  generalize add d (add d P Q) R = U at *;generalize add d P (add d Q R) = V at *
  unfold kk at y3 m3 y4 m4
  generalize add d P Q = S at *;generalize add d Q R = T at *;generalize 1 + kk d P Q = a at *;generalize 1 - kk d P Q = b at *;generalize 1 + kk d Q R = e at *;generalize 1 - kk d Q R = f at *;rw [re_yl,re_yr,← y3,← y4] at ay;have hne:=mul_ne g.pr (mul_ne g.pr (mul_ne g.pr p1 m1) p2) m2
  apply cancel g.pr (mul_ne g.pr hne (mul_ne g.pr m3 m4))
  clear x1 y1 x2 y2 x3 y3 x4 y4 ax c1 c2 c3 c4 hne p1 p2 m1 m2 p3 p4;generalize a * b * e * f = z at *;generalize 1 - d * S.x * R.x * S.y * R.y = w at *;generalize 1 - d * P.x * T.x * P.y * T.y = v at *;generalize U.y = u at *;generalize V.y = t at *;clear g m3 m4;rw [re_c,re_d,ay]
 have eta : ∀ A B : Pt n,A.x = B.x → A.y = B.y → A = B:=by
  rintro ⟨_,_⟩ ⟨_,_⟩ h1 h2
  simp only at h1 h2;rw [h1,h2]
 exact eta _ _ ex ey

end Ed
end Nums

namespace Nums
namespace Ed
variable {n : Nat} [NeZero n] {d : Fin n}

def mul (d : Fin n) : Nat → Pt n → Pt n
  | 0,_=>zero
  | k + 1,P=>add d (mul d k P) P

theorem mul_0 (P : Pt n) : mul d 0 P = zero:=rfl
theorem mul_succ (k : Nat) (P : Pt n) : mul d (k + 1) P = add d (mul d k P) P:=rfl

theorem on_mul (g : Good n d) {P : Pt n} (hP : On d P) (k : Nat) : On d (mul d k P):=by
 induction k with
 | zero=>exact on_zero
 | succ k ih=>exact on_add g ih hP

theorem mul_1 (g : Good n d) (P : Pt n) : mul d 1 P = P:=by rw [mul_succ,mul_0,zero_add g]

theorem mul_2 (g : Good n d) (P : Pt n) : mul d 2 P = add d P P:=by rw [mul_succ,mul_1 g]

theorem mul_add (g : Good n d) {P : Pt n} (hP : On d P) (j k : Nat) : mul d (j + k) P = add d (mul d j P) (mul d k P):=by
 induction k with
 | zero=>rw [Nat.add_zero,mul_0,add_zero g]
 | succ k ih=>rw [← Nat.add_assoc,mul_succ,mul_succ,ih,add_assoc g (on_mul g hP j) (on_mul g hP k) hP]

theorem mul_zero (g : Good n d) (k : Nat) : mul d k (zero : Pt n) = zero:=by
 induction k with
 | zero=>rfl
 | succ k ih=>rw [mul_succ,ih,zero_add g]

theorem mul_mul (g : Good n d) {P : Pt n} (hP : On d P) (j k : Nat) : mul d (j * k) P = mul d k (mul d j P):=by
 induction k with
 | zero=>rw [Nat.mul_zero,mul_0,mul_0]
 | succ k ih=>rw [Nat.mul_succ,mul_add g hP,ih,mul_succ]

theorem add_swap (g : Good n d) {A B C D : Pt n} (hA : On d A) (hB : On d B) (hC : On d C) (hD : On d D) :
  add d (add d A B) (add d C D) = add d (add d A C) (add d B D):=by
 rw [add_assoc g hA hB (on_add g hC hD),add_assoc g hA hC (on_add g hB hD),← add_assoc g hB hC hD,← add_assoc g hC hB hD,add_comm B C]

theorem neg_of (g : Good n d) {P Q : Pt n} (hP : On d P) (hQ : On d Q) (h : add d P Q = zero) : Q = neg P:=by
 have a : add d (neg P) (add d P Q) = Q:=by
  rw [← add_assoc g (on_neg hP) hP hQ,add_comm (neg P) P,add_neg g hP,zero_add g]
 rw [h,add_zero g] at a;exact a.symm

theorem neg_zero : neg (zero : Pt n) = zero:=by
 show Pt.mk (-0 : Fin n) 1 = Pt.mk 0 1
 have : (-0 : Fin n) = 0:=by grind only
 rw [this]

theorem neg_neg (P : Pt n) : neg (neg P) = P:=by
 show Pt.mk (- -P.x) P.y = P
 have : - -P.x = P.x:=by grind only
 rw [this]

theorem neg_add (g : Good n d) {P Q : Pt n} (hP : On d P) (hQ : On d Q) : neg (add d P Q) = add d (neg P) (neg Q):=by
 symm
 apply neg_of g (on_add g hP hQ) (on_add g (on_neg hP) (on_neg hQ))
 rw [add_swap g hP hQ (on_neg hP) (on_neg hQ),add_neg g hP,add_neg g hQ,zero_add g]

theorem mul_neg (g : Good n d) {P : Pt n} (hP : On d P) (k : Nat) : mul d k (neg P) = neg (mul d k P):=by
 induction k with
 | zero=>rw [mul_0,mul_0,neg_zero]
 | succ k ih=>rw [mul_succ,mul_succ,ih,neg_add g (on_mul g hP k) hP]

theorem mul_mod (g : Good n d) {P : Pt n} (hP : On d P) {L : Nat} (hL : mul d L P = zero) (k : Nat) : mul d k P = mul d (k % L) P:=by
 have h:=mul_add g hP (L * (k / L)) (k % L);rw [mul_mul g hP,hL,mul_zero g,zero_add g,Nat.div_add_mod] at h;exact h

theorem mul_times (g : Good n d) {P : Pt n} (hP : On d P) (a b : Nat) : mul d a (mul d b P) = mul d (a * b) P:=by
 rw [Nat.mul_comm,mul_mul g hP]

theorem zero_of (g : Good n d) {P : Pt n} (hP : On d P) {j k a b : Nat} (hj : mul d j P = zero) (hk : mul d k P = zero) (h : j * a = k * b + 1) : P = zero:=by
 have h1 : mul d (j * a) P = zero:=by rw [mul_mul g hP,hj,mul_zero g]
 rw [h,mul_add g hP,mul_mul g hP,hk,mul_zero g,zero_add g,mul_1 g] at h1;exact h1

structure Rep (X Y Z : Fin n) (P : Pt n) : Prop where
  z : Z ≠ 0
  x : X = P.x * Z
  y : Y = P.y * Z

theorem Rep.zero (hn : Prime n) : Rep (0 : Fin n) 1 1 zero where
 z:=fun h=>ne_one hn h.symm
 x:=by show (0 : Fin n) = 0 * 1; grind only
 y:=by show (1 : Fin n) = 1 * 1; grind only

theorem Rep.neg {X Y Z : Fin n} {P : Pt n} (r : Rep X Y Z P) : Rep (-X) Y Z (neg P) where
 z:=r.z
 x:=by
  rw [r.x]
  show -(P.x * Z) = -P.x * Z
  grind only
 y:=r.y

theorem kk_rep {X1 Y1 Z1 X2 Y2 Z2 : Fin n} {P Q : Pt n} (r : Rep X1 Y1 Z1 P) (s : Rep X2 Y2 Z2 Q) :
  d * ((X1 * X2) * (Y1 * Y2)) = kk d P Q * ((Z1 * Z2) * (Z1 * Z2)):=by
 rw [r.x,r.y,s.x,s.y]
 unfold kk
 grind only

theorem Rep.add (g : Good n d) {X1 Y1 Z1 X2 Y2 Z2 : Fin n} {P Q : Pt n} (hP : On d P) (hQ : On d Q) (r : Rep X1 Y1 Z1 P) (s : Rep X2 Y2 Z2 Q)
  {z m : Fin n} (hz : z = Z1 * Z2) (hm : m = d * ((X1 * X2) * (Y1 * Y2))) :
  Rep (((X1 * Y2 + Y1 * X2) * z) * (z * z - m)) (((Y1 * Y2 + X1 * X2) * z) * (z * z + m)) ((z * z + m) * (z * z - m)) (add d P Q):=by
 have hzn : z ≠ 0:=hz ▸ mul_ne g.pr r.z s.z
 have hm2 : m = kk d P Q * (z * z):=by rw [hm,hz,kk_rep r s]
 have p1 : z * z + m = (1 + kk d P Q) * (z * z):=by rw [hm2]; grind only
 have p2 : z * z - m = (1 - kk d P Q) * (z * z):=by rw [hm2]; grind only
 have nx : X1 * Y2 + Y1 * X2 = (P.x * Q.y + P.y * Q.x) * z:=by rw [r.x,r.y,s.x,s.y,hz]; grind only
 have ny : Y1 * Y2 + X1 * X2 = (P.y * Q.y + P.x * Q.x) * z:=by rw [r.x,r.y,s.x,s.y,hz]; grind only
 have hx:=add_x g hP hQ;have hy:=add_y g hP hQ;have n1:=plus_ne g hP hQ;have n2:=minus_ne g hP hQ
 constructor
 ·rw [p1,p2]
  exact mul_ne g.pr (mul_ne g.pr n1 (mul_ne g.pr hzn hzn)) (mul_ne g.pr n2 (mul_ne g.pr hzn hzn))
 ·rw [p1,p2,nx,← hx]
  grind only
 ·rw [p1,p2,ny,← hy]
  grind only

theorem Rep.same (hn : Prime n) {X Y Z : Fin n} {P Q : Pt n} (r : Rep X Y Z P) (s : Rep X Y Z Q) : P = Q:=by
 have hx : P.x = Q.x:=cancel hn r.z (r.x.symm.trans s.x);have hy : P.y = Q.y:=cancel hn r.z (r.y.symm.trans s.y)
 cases P
 cases Q
 simp only at hx hy;rw [hx,hy]

theorem Rep.aff (hn : Prime n) {X Y Z : Fin n} {P : Pt n} (r : Rep X Y Z P) : X * finv Z = P.x ∧ Y * finv Z = P.y:=by
 have h:=mul_finv hn r.z
 have a : ∀ u : Fin n,u * Z * finv Z = u * (Z * finv Z):=fun u=>by grind only
 have b : ∀ u : Fin n,u * 1 = u:=fun u=>by grind only
 rw [r.x,r.y,a,a,h,b,b];exact ⟨rfl,rfl⟩

end Ed
end Nums

namespace Nums

instance : NeZero p:=⟨by decide⟩
abbrev F:=Fin p
def fof (k : Nat) : F:=⟨k % p,Nat.mod_lt _ (by decide)⟩
theorem fof_val (k : Nat) : (fof k).val = k % p:=rfl
theorem fof_add (a b : Nat) : fof (a + b) = fof a + fof b:=by
 apply Fin.ext
 show (a + b) % p = (a % p + b % p) % p
 rw [← Nat.add_mod]
theorem fof_mul (a b : Nat) : fof (a * b) = fof a * fof b:=by
 apply Fin.ext
 show (a * b) % p = (a % p * (b % p)) % p
 rw [← Nat.mul_mod]
theorem fof_mod (a : Nat) : fof (a % p) = fof a:=by
 apply Fin.ext
 show a % p % p = a % p
 rw [Nat.mod_mod]
theorem fof_eq {a b : Nat} (h : a % p = b % p) : fof a = fof b:=Fin.ext h
theorem fof_zero : fof 0 = 0:=by
 apply Fin.ext
 show 0 % p = 0 % p
 rfl
theorem fof_one : fof 1 = 1:=by
 apply Fin.ext
 show 1 % p = 1 % p
 rfl
theorem fof_of (a : F) : fof a.val = a:=by
 apply Fin.ext
 exact Nat.mod_eq_of_lt a.isLt
theorem fof_sub {a b : Nat} (h : b ≤ a) : fof (a - b) = fof a - fof b:=by
 have : fof a = fof (a - b) + fof b:=by rw [← fof_add,Nat.sub_add_cancel h]
 rw [this];generalize fof (a - b) = u;generalize fof b = v
 grind only
theorem fof_pow (a k : Nat) : fof (a ^ k) = fpow (fof a) k:=by
 induction k with
 | zero=>exact fof_one
 | succ k ih=>rw [Nat.pow_succ,fof_mul,ih,fpow_succ]
theorem fof_pm {a e : Nat} (k : Nat) (h : e < 2 ^ k) : fpow (fof a) e = fof (pm p a k e):=by
 rw [pm_eq p a k e h,fof_mod,fof_pow]

def ph : Nat:=28948022309329048855892746252171976963317496166410141009864396001978282409974
def pq : Nat:=14474011154664524427946373126085988481658748083205070504932198000989141204987
theorem pq_two : pq * 2 = ph:=by decide
def im : F:=fpow (fof 2) pq
theorem im_im : im * im = -1:=by
 unfold im
 rw [← fpow_add,show pq + pq = ph from by decide,fof_pm 255 (by decide)];have : fof (pm p 2 255 ph) = fof (p - 1):=fof_eq (by decide +kernel);rw [this,fof_sub (by decide),fof_one,show fof p = 0 from fof_eq (a:=p) (b:=0) (by decide)];generalize (1 : F) = u
 grind only

theorem two_ne : (2 : F) ≠ 0:=by
 intro h
 have h1 : (2 : F).val = (0 : F).val:=by rw [h]
 revert h1
 decide

theorem euler_sq {a : F} (ha : a ≠ 0) : fpow (a * a) ph = 1:=by
 rw [mul_fpow,← fpow_add,show ph + ph = p - 1 from by decide];exact fpow_fermat prime_p ha

theorem no_root {w : F} (h0 : w ≠ 0) (h : fpow w ph ≠ 1) (x : F) : x * x ≠ w:=by
 rintro rfl
 apply h
 apply euler_sq
 rintro rfl
 exact h0 (by grind only)

theorem neg_val {a : F} (h : a ≠ 0) : (-a).val = p - a.val:=by
 have h1 : a.val ≠ 0:=fun h2=>h (Fin.ext h2);have h2:=a.isLt
 have h3 : fof (p - a.val) = -a:=by
  rw [fof_sub (by omega),fof_of,show fof p = 0 from fof_eq (a:=p) (b:=0) (by decide)]
  grind only
 rw [← h3,fof_val];exact Nat.mod_eq_of_lt (by omega)

theorem p_odd : p % 2 = 1:=by decide
theorem neg_odd {a : F} (h : a ≠ 0) : (-a).val % 2 = 1 - a.val % 2:=by
 rw [neg_val h];have h2:=a.isLt;have h3:=p_odd
 omega

def dn : Nat:=37095705934669439343138083508754565189542113879843219016388785533085940283555
def dd : F:=fof dn
theorem dd_ne : dd ≠ 0:=fun h=>by
 have:=congrArg Fin.val h
 revert this
 decide

theorem dd_pow : fpow dd ph ≠ 1:=by
 unfold dd
 rw [fof_pm 255 (by decide)]
 intro h
 have:=congrArg Fin.val h
 revert this
 rw [fof_val]
 decide +kernel

theorem good : Ed.Good p dd where
 pr:=prime_p
 two:=two_ne
 i:=⟨im,im_im⟩
 d:=no_root dd_ne dd_pow

def bx : Nat:=15112221349535400772501151409588531511454012693041857206046113283949847762202
def bY : Nat:=46316835694926478169428394003475163141307993866256225615783033603165251855960
def base : Ed.Pt p:=⟨fof bx,fof bY⟩
theorem on_base : Ed.On dd base:=by
 show fof bY * fof bY - fof bx * fof bx = 1 + dd * fof bx * fof bx * fof bY * fof bY
 unfold dd
 have h : fof (bY * bY) = fof (bx * bx + (1 + dn * bx * bx * bY * bY)):=fof_eq (by decide +kernel);rw [fof_mul,fof_add,fof_add,fof_mul,fof_mul,fof_mul,fof_mul,fof_mul,fof_one] at h;rw [h];generalize fof bx = u;generalize fof bY = v;generalize fof dn = w
 grind only

end Nums
/-
PLAIN NUMBERS: the base point's order divides L. No program is imported.
PLAIN NUMBERS: rows of digits of 16 bits, carries, products digit by digit. No program is imported.
PLAIN NUMBERS: 16 digits of 16 bits as numbers modulo p: carries that come back 38 times, products, the packed row. No program is imported.
PLAIN NUMBERS: the packed row (below p), its bytes, the folded product. No program is imported.
-/
namespace Nums

def forced {α : Type} (x : Nat) (f : Nat → α) : α :=
  match x with
  | 0=>f 0
  | k + 1=>f (k + 1)
theorem forced_eq {α : Type} (x : Nat) (f : Nat → α) : forced x f = f x:=by cases x <;> rfl

structure Tri where
  x : Nat
  y : Nat
  z : Nat

def triAdd (a b : Tri) : Tri :=
  forced (a.z * b.z % p) fun z=>forced (z * z % p) fun zz=>forced (dn * (a.x * b.x % p * (a.y * b.y % p) % p) % p) fun m =>
  forced ((zz + m) % p) fun pl=>forced ((zz + p - m) % p) fun mi =>
  forced ((a.x * b.y + a.y * b.x) % p * z % p * mi % p) fun x=>forced ((a.y * b.y + a.x * b.x) % p * z % p * pl % p) fun y =>
  forced (pl * mi % p) fun w=>⟨x,y,w⟩

def triMul : Nat → Nat → Tri → Tri → Tri
  | 0,_,acc,_=>acc
  | n + 1,k,acc,q=>triMul n (k / 2) (if k % 2 = 1 then triAdd acc q else acc) (triAdd q q)

def TriRep (t : Tri) (P : Ed.Pt p) : Prop:=Ed.Rep (fof t.x) (fof t.y) (fof t.z) P

theorem triAdd_rep {a b : Tri} {P Q : Ed.Pt p} (hP : Ed.On dd P) (hQ : Ed.On dd Q) (ha : TriRep a P) (hb : TriRep b Q) : TriRep (triAdd a b) (Ed.add dd P Q):=by
 unfold triAdd
 simp only [forced_eq];have h:=Ed.Rep.add good hP hQ ha hb rfl rfl
 unfold TriRep
 simp only
 generalize hz : a.z * b.z % p = z;generalize hm : dn * (a.x * b.x % p * (a.y * b.y % p) % p) % p = m
 have ez : fof z = fof a.z * fof b.z:=by rw [← hz,fof_mod,fof_mul]
 have em : fof m = dd * ((fof a.x * fof b.x) * (fof a.y * fof b.y)):=by
  rw [← hm];simp only [fof_mod,fof_mul]
  rfl
 have hmp : m < p:=by rw [← hm]; exact Nat.mod_lt _ (by decide)
 have es : fof (z * z % p + p - m) = fof z * fof z - fof m:=by
  rw [fof_sub (by omega),fof_add,fof_mod,fof_mul,show fof p = 0 from fof_eq (a:=p) (b:=0) (by decide)]
  grind only
 rw [← ez,← em] at h;simp only [fof_mod,fof_mul,fof_add,es];exact h

theorem triMul_rep : ∀ (n k : Nat) (acc q : Tri) (A Q : Ed.Pt p),k < 2 ^ n → Ed.On dd A → Ed.On dd Q → TriRep acc A → TriRep q Q → TriRep (triMul n k acc q) (Ed.add dd A (Ed.mul dd k Q))
 | 0,k,acc,q,A,Q,hk,hA,hQ,ha,hq=>by
  have : k = 0:=by simp at hk; omega
  subst this;rw [Ed.mul_0,Ed.add_zero good];exact ha
 | n + 1,k,acc,q,A,Q,hk,hA,hQ,ha,hq=>by
  have hk2 : k / 2 < 2 ^ n:=by rw [Nat.pow_succ] at hk; omega
  have h2:=triAdd_rep hQ hQ hq hq;have o2:=Ed.on_add good hQ hQ
  have e2 : Ed.mul dd (k / 2) (Ed.add dd Q Q) = Ed.mul dd (2 * (k / 2)) Q:=by
   rw [Ed.mul_mul good hQ,Ed.mul_2 good]
  show TriRep (triMul n (k / 2) (if k % 2 = 1 then triAdd acc q else acc) (triAdd q q)) _
  by_cases h : k % 2 = 1
  ·rw [if_pos h]
   have ih:=triMul_rep n (k / 2) (triAdd acc q) (triAdd q q) (Ed.add dd A Q) (Ed.add dd Q Q) hk2 (Ed.on_add good hA hQ) o2 (triAdd_rep hA hQ ha hq) h2;rw [e2,Ed.add_assoc good hA hQ (Ed.on_mul good hQ _),Ed.add_comm Q,← Ed.mul_succ,show 2 * (k / 2) + 1 = k by omega] at ih;exact ih
  ·rw [if_neg h]
   have ih:=triMul_rep n (k / 2) acc (triAdd q q) A (Ed.add dd Q Q) hk2 hA o2 ha h2;rw [e2,show 2 * (k / 2) = k by omega] at ih;exact ih

def LL : Nat:=7237005577332262213973186563042994240857116359379907606001950938285454250989

def ending : Bool :=
  let t:=triMul 253 LL ⟨0,1,1⟩ ⟨bx,bY,1⟩
  forced t.x fun x=>forced t.y fun y=>forced t.z fun z=>Nat.beq (x % p) 0 && Nat.beq (y % p) (z % p)

theorem ending_true : ending = true:=by decide +kernel

theorem order : Ed.mul dd LL base = Ed.zero:=by
 have ha : TriRep ⟨0,1,1⟩ Ed.zero:=by
  have:=Ed.Rep.zero prime_p
  unfold TriRep
  rw [fof_zero,fof_one];exact this
 have hq : TriRep ⟨bx,bY,1⟩ base:=by
  refine ⟨?_,?_,?_⟩
  ·show fof 1 ≠ 0
   rw [fof_one];exact fun h=>ne_one prime_p h.symm
  ·show fof bx = fof bx * fof 1
   rw [fof_one]
   grind only
  ·show fof bY = fof bY * fof 1
   rw [fof_one]
   grind only
 have h:=triMul_rep 253 LL _ _ Ed.zero base (by decide) Ed.on_zero on_base ha hq;rw [Ed.zero_add good] at h;have e:=ending_true
 unfold ending at e
 simp only [forced_eq] at e;generalize triMul 253 LL ⟨0,1,1⟩ ⟨bx,bY,1⟩ = t at h e;rw [Bool.and_eq_true] at e;obtain ⟨e1,e2⟩:=e;have e1:=Nat.eq_of_beq_eq_true e1;have e2:=Nat.eq_of_beq_eq_true e2;have x0 : fof t.x = 0:=Fin.ext e1;have yz : fof t.y = fof t.z:=Fin.ext e2
 have hz : Ed.Rep (fof t.x) (fof t.y) (fof t.z) Ed.zero:=by
  refine ⟨h.z,?_,?_⟩
  ·rw [x0]
   show (0 : F) = 0 * fof t.z
   grind only
  ·rw [yz]
   show fof t.z = 1 * fof t.z
   grind only
 exact Ed.Rep.same prime_p h hz

end Nums

namespace Nums

def V : List Int → Int
  | []=>0
  | d :: ds=>d + 65536 * V ds

def W : Nat → Int
  | 0=>1
  | k + 1=>65536 * W k

def Small (l : List Int) : Prop:=∀ x ∈ l,0 ≤ x ∧ x < 65536

def chain : Int → List Int → List Int × Int
  | c,[]=>([],c)
  | c,d :: ds=>(((d + c) % 65536) :: (chain ((d + c) / 65536) ds).1,(chain ((d + c) / 65536) ds).2)

end Nums

namespace Nums

theorem W16 : W 16 = 2 * (p : Int) + 38:=by decide

end Nums

namespace Nums

theorem W15 : W 16 = 65536 * W 15:=rfl

def le : List UInt8 → Nat
  | []=>0
  | b :: bs=>b.toNat + 256 * le bs

def split : List Int → List UInt8
  | []=>[]
  | d :: ds=>UInt8.ofNat (d % 256).toNat :: UInt8.ofNat (d / 256).toNat :: split ds
def join : List UInt8 → List Int
  | a :: b :: bs=>((a.toNat : Int) + 256 * (b.toNat : Int)) :: join bs
  | _=>[]

theorem le_inj : ∀ {a b : List UInt8},a.length = b.length → le a = le b → a = b
 | [],[],_,_=>rfl
 | x :: a,y :: b,hl,h=>by
  have h1:=x.toNat_lt;have h2:=y.toNat_lt;have h3 : x.toNat + 256 * le a = y.toNat + 256 * le b:=h;have h4 : x = y:=UInt8.toNat.inj (by omega);have h5:=le_inj (a:=a) (b:=b) (by simpa using hl) (by omega);rw [h4,h5]

def bytes : Nat → Nat → List UInt8
  | 0,_=>[]
  | k + 1,v=>UInt8.ofNat v :: bytes k (v / 256)
theorem bytes_len : ∀ k v,(bytes k v).length = k
 | 0,_=>rfl
 | k + 1,v=>by show (bytes k (v / 256)).length + 1 = k + 1; rw [bytes_len]
theorem le_bytes : ∀ k v,le (bytes k v) = v % 256 ^ k
 | 0,v=>by show 0 = v % 1; omega
 | k + 1,v=>by
  show (UInt8.ofNat v).toNat + 256 * le (bytes k (v / 256)) = v % 256 ^ (k + 1)
  rw [le_bytes,UInt8.toNat_ofNat',show 256 ^ (k + 1) = 256 * 256 ^ k by rw [Nat.pow_succ,Nat.mul_comm],Nat.mod_mul]

def enc (x : F) : List UInt8:=bytes 32 x.val
theorem enc_len (x : F) : (enc x).length = 32:=bytes_len _ _
theorem le_enc (x : F) : le (enc x) = x.val:=by
 unfold enc
 rw [le_bytes];exact Nat.mod_eq_of_lt (Nat.lt_trans x.isLt (by decide))
theorem enc_inj {x y : F} (h : enc x = enc y) : x = y:=by
 apply Fin.ext
 rw [← le_enc,← le_enc,h]
theorem enc_of {b : List UInt8} (hb : b.length = 32) {x : F} (h : le b = x.val) : b = enc x :=
 le_inj (by rw [hb,enc_len]) (by rw [h,le_enc])
end Nums
/-
  WORDS OF 64 BITS: rows of words, the walk's numbers made natural; a number's words and bytes.
-/
namespace Go.Proofs.YtminmeljonbogaaDoor
open Go.RowKit Go.IntWalk

def Us (l : List Nat) : List Value:=l.map fun x : Nat=>.int .u64 (x : Int)
theorem Us_len (l : List Nat) : (Us l).length = l.length:=by simp [Us]
theorem Us_one (l : List Nat) : ∀ u ∈ Us l,u.oneCell' = true:=by
 intro u hu
 obtain ⟨x,_,rfl⟩:=List.mem_map.1 hu
 rfl
theorem Us_at {l : List Nat} {j : Nat} (h : j < l.length) : (Us l).toArray[j]? = some (.int .u64 (l[j]! : Nat)):=by
 simp [Us,h]
theorem Us_set (l : List Nat) (k x : Nat) : (Us l).toArray.setIfInBounds k (.int .u64 (x : Int)) = (Us (l.set k x)).toArray:=by
 simp [Us,List.map_set]

theorem maskW (a : Nat) (ha : a < 18446744073709551616) : bits .and .u64 (a : Int) 2251799813685247 = ((a % 2251799813685248 : Nat) : Int):=by
 have h:=u64_and_nat a 2251799813685247 ha (by omega);have e : a &&& 2251799813685247 = a % 2251799813685248:=Nat.and_two_pow_sub_one_eq_mod a 51;rw [e] at h;exact h

theorem orW (i x y : Nat) (hx : x % 2 ^ i = 0) (hy : y < 2 ^ i) (h1 : x < 18446744073709551616) (h2 : y < 18446744073709551616) : bits .or .u64 (x : Int) (y : Int) = ((x + y : Nat) : Int):=by
 rw [u64_or_nat x y h1 h2,nat_join i x y hx hy]
/-! ### The numbers of a walk, made natural -/
theorem mask32 (a : Nat) (ha : a < 18446744073709551616) : bits .and .u64 (a : Int) 4294967295 = ((a % 4294967296 : Nat) : Int):=by
 have h:=u64_and_nat a 4294967295 ha (by omega);have e : a &&& 4294967295 = a % 4294967296:=Nat.and_two_pow_sub_one_eq_mod a 32;rw [e] at h;exact h
theorem div32 (a : Nat) : (a : Int) / 4294967296 = ((a / 4294967296 : Nat) : Int):=by omega
theorem div51 (a : Nat) : (a : Int) / 2251799813685248 = ((a / 2251799813685248 : Nat) : Int):=by omega
theorem mulN (a b : Nat) : (a : Int) * (b : Int) = ((a * b : Nat) : Int):=(Int.natCast_mul a b).symm
theorem addN (a b : Nat) : (a : Int) + (b : Int) = ((a + b : Nat) : Int):=(Int.natCast_add a b).symm
theorem wrapN (a : Nat) (ha : a < 18446744073709551616) : IntKind.u64.wrap (a : Int) = (a : Int):=by rw [IntKind.wrap_u64]; omega
theorem wrapM (a : Nat) : IntKind.u64.wrap (a : Int) = ((a % 18446744073709551616 : Nat) : Int):=by rw [IntKind.wrap_u64]; omega

def subEntry : Array Value → Sem Value:=fun args=>do
  let (x,y,b) ← Extern.MathBitsCarry.three "Sub64" args
  pure (Extern.MathBitsCarry.pair ((x + Extern.MathBitsCarry.m64 - y - b) % Extern.MathBitsCarry.m64) (if x < y + b then 1 else 0))
theorem run_sub {P : Program} (x y b : Nat) (hb : b ≤ 1) (w : World) :
  (subEntry #[.int .u64 x,.int .u64 y,.int .u64 b]).run P w =
   .ok (.tuple #[.int .u64 (((x + 18446744073709551616 - y - b) % 18446744073709551616 : Nat) : Int),.int .u64 ((if x < y + b then 1 else 0 : Nat) : Int)]) w:=by
 have : b = 0 ∨ b = 1:=by omega
 rcases this with rfl | rfl <;> rfl

/-! ### Bytes and words -/
def fb (l : List UInt8) (n : Nat) : List UInt8:=(List.range 32).map fun m=>if m < n then l[m]! else 0
theorem fb_len (l : List UInt8) (n : Nat) : (fb l n).length = 32:=by simp [fb]
theorem fb_zero (l : List UInt8) : fb l 0 = List.replicate 32 0:=by
 apply List.ext_getElem (by simp [fb])
 intro i h1 h2
 rw [List.getElem_replicate]
 simp [fb]
theorem fb_all {l : List UInt8} (h : l.length = 32) : fb l 32 = l:=by
 apply List.ext_getElem (by simp [fb,h])
 intro i h1 h2
 have h3 : i < 32:=by simpa [fb] using h1
 simp [fb,h3,h2]
theorem fb_set (l : List UInt8) {n : Nat} : (fb l n).set n l[n]! = fb l (n + 1):=by
 apply List.ext_getElem (by simp [fb])
 intro j h1 h2
 rw [List.getElem_set];simp only [fb,List.getElem_map,List.getElem_range]
 by_cases hjk : n = j
 ·subst hjk
  simp
 ·rw [if_neg hjk]
  by_cases hlt : j < n
  ·rw [if_pos hlt,if_pos (by omega)]
  ·rw [if_neg hlt,if_neg (by omega)]

theorem bytes_get : ∀ (k v : Nat) {m : Nat},m < k → ((Nums.bytes k v)[m]!).toNat = v / 256 ^ m % 256
 | k + 1,v,0,_=>by
  show (UInt8.ofNat v).toNat = v / 1 % 256
  rw [UInt8.toNat_ofNat',Nat.div_one]
 | k + 1,v,m + 1,h=>by
  have ih:=bytes_get k (v / 256) (m:=m) (by omega)
  show ((Nums.bytes k (v / 256))[m]!).toNat = v / 256 ^ (m + 1) % 256
  rw [ih,Nat.div_div_eq_div_mul,Nat.pow_succ,Nat.mul_comm 256]

def wd (L k : Nat) : Nat:=L / 18446744073709551616 ^ k % 18446744073709551616

theorem wd_byte (L k j : Nat) (hj : j < 8) : wd L k / 2 ^ (8 * j) % 256 = L / 256 ^ (8 * k + j) % 256:=by
 have e1 : (256 : Nat) ^ (8 * k + j) = 18446744073709551616 ^ k * 256 ^ j:=by
  rw [Nat.pow_add,Nat.pow_mul]
 have e2 : (2 : Nat) ^ (8 * j) = 256 ^ j:=by rw [Nat.pow_mul]
 rw [e1,e2,← Nat.div_div_eq_div_mul]
 unfold wd
 generalize L / 18446744073709551616 ^ k = z
 have h8 : j = 0 ∨ j = 1 ∨ j = 2 ∨ j = 3 ∨ j = 4 ∨ j = 5 ∨ j = 6 ∨ j = 7:=by omega
 rcases h8 with rfl | rfl | rfl | rfl | rfl | rfl | rfl | rfl <;> simp only [Nat.reducePow] <;> omega

end Go.Proofs.YtminmeljonbogaaDoor
/-
  ROWS OF CELLS, AND STORES OVER FRAMES BY WHAT IS KNOWN OF THEM.
-/
namespace Go.Proofs.YtminmeljonbogaaDoor
open Go.RowKit Go.IntWalk

structure VL (w : World) (g : Nat) (l : List Value) : Prop where
  lt : g < w.heap.size
  cell : ∀ j v,l[j]? = some v → w.cell? ⟨g,j,none⟩ = some v
  free : ∀ j,j < l.length → w.frozen? ⟨g,j,none⟩ = false
theorem By_at? {l : List UInt8} {j : Nat} (h : j < l.length) : (By l)[j]? = some (.int .u8 ((l[j]!).toNat : Int)):=by
 have h1:=By_get h
 simpa using h1
section
variable {ops : Array Oper} {Q : Exit → Act → World → Prop} {N : Nat} {E : List (Nat × Value)} {w : World}
theorem f_store {os : Oper} {px x : Operand} {t : TypeId} {K : IntKind} (p : Addr) (v : Int) (old : Value) (ht : (t = 56 ∧ K = .u64) ∨ (t = 5 ∧ K = .u8)) (hg : os.guard = none) (hd : os.dst = none) (ho : os.op = .store t px x) (hp : ev E px = some (.pointer (some p))) (hx : ev E x = some (.int K v))
  (hc : w.cell? p = some old) (hf : w.frozen? p = false) (hlt : p.block < w.heap.size) (h : ∀ w',Up w w' → kF (Q .normal) N E (w'.setCell p (.int K v))) :
  bF Tryd.prog ops (Up w) (fun a'=>∀ w',Up w w' → wpList Tryd.prog ops Q [os] a' w') [] N E:=fun a ha=>wpB_nil fun w' hw'=>by
 have h1:=ha.eval hp;have h2:=ha.eval hx;have h3 : w'.cell? p = some old:=(hw'.cell hlt).trans hc;have h4 : w'.frozen? p = false:=(hw'.frozen hlt).trans hf;have h5:=h w' hw' a ha
 unfold wpList
 rw [if_pos (by simp [Region.wanted,hg])];refine .inl ?_
 unfold Oper.wp execOp
 simp only [ho,h1,h2]
 have key : (Instr.storeAt t (.pointer (some p)) (.int K v)).run Tryd.prog w' = .ok () (w'.setCell p (.int K v)):=by
  rcases ht with ⟨rfl,rfl⟩ | ⟨rfl,rfl⟩ <;> go_simp
 simp only [Sem.run_bind,key,Result.andThen_ok,Sem.run_pure,Oper.upon,hd];exact h5
end
section
variable {ops : Array Oper} {C0 : World → Prop} {Q : Act → Prop} {N : Nat} {E : List (Nat × Value)} {o : Oper} {rest : List Oper} {k : Nat}
theorem f_geqI {x y : Operand} {t : TypeId} (m n : Int) (q : Bool) (hg : o.guard = none) (hd : o.dst = some k) (hk : Nat.blt k N = true) (ho : o.op = .binOp .geq 3 x y t) (hx : ev E x = some (.int .i64 m)) (hy : ev E y = some (.int .i64 n))
  (hr : decide (n ≤ m) = q) (hn : bF Tryd.prog ops C0 Q rest N ((k,.bool q) :: E)) : bF Tryd.prog ops C0 Q (o :: rest) N E :=
 f_val _ hg hd hk (fun a ha w _=>by
  have h1:=ha.eval hx;have h2:=ha.eval hy;subst hr
  unfold execOp
  simp only [ho,h1,h2]
  go_simp) hn
theorem f_neqI {x y : Operand} {t : TypeId} (m n : Int) (q : Bool) (hg : o.guard = none) (hd : o.dst = some k) (hk : Nat.blt k N = true) (ho : o.op = .binOp .neq 3 x y t) (hx : ev E x = some (.int .i64 m)) (hy : ev E y = some (.int .i64 n))
  (hr : decide (m ≠ n) = q) (hn : bF Tryd.prog ops C0 Q rest N ((k,.bool q) :: E)) : bF Tryd.prog ops C0 Q (o :: rest) N E :=
 f_val _ hg hd hk (fun a ha w _=>by
  have h1:=ha.eval hx;have h2:=ha.eval hy;subst hr
  unfold execOp
  simp only [ho,h1,h2]
  by_cases e : m = n <;> go_simp) hn
theorem f_remI {x y : Operand} {t : TypeId} (m n r : Int) (hz : n ≠ 0) (hg : o.guard = none) (hd : o.dst = some k) (hk : Nat.blt k N = true) (ho : o.op = .binOp .rem 3 x y t) (hx : ev E x = some (.int .i64 m)) (hy : ev E y = some (.int .i64 n))
  (hr : m.tmod n = r) (hn : bF Tryd.prog ops C0 Q rest N ((k,.int .i64 r) :: E)) : bF Tryd.prog ops C0 Q (o :: rest) N E :=
 f_val _ hg hd hk (fun a ha w _=>by
  have h1:=ha.eval hx;have h2:=ha.eval hy;subst hr
  unfold execOp
  simp only [ho,h1,h2]
  go_simp) hn
end
/-! ### The check of a region whose first forced operation waits for some by more than four steps -/
section
variable {ops : Array Oper}
def sinksD (f : Nat) (md : Region.Mode) (ops : Array Oper) (N : Nat) : Bool:=match ops[N]? with
  | none=>true
  | some o=>(List.range N).all fun i=>edgeTo md o i || waitsT md ops (min f ops.size) N i
def tailD (f : Nat) (ops : Array Oper) (n k m : Nat) : Bool :=
  Region.noSelect ops && headC .any ops n ops.toList 0 && chainB .any ops.toList 0 none && decide (ops.size = m + k + n) && sinksD f .any ops (k + n) &&
    forcedB .any ops m (k + n) (marks k n (marks n 0 (Array.replicate ops.size false)))
theorem tail_okD (f : Nat) {n k m : Nat} (h : tailD f ops n k m = true) : tailB ops n k m = true:=by
 simp only [tailD,Bool.and_eq_true,decide_eq_true_eq] at h;obtain ⟨⟨⟨⟨⟨h1,h2⟩,h3⟩,h4⟩,h5⟩,h6⟩:=h
 have hr : ∀ j ∈ Region.ready .any ops (marks k n (marks n 0 (Array.replicate ops.size false))),j = k + n:=by
  intro j hj
  cases m with
  | zero =>
   simp only [forcedB,List.isEmpty_iff] at h6;rw [h6] at hj
   cases hj
  | succ m =>
   simp only [forcedB,Bool.and_eq_true,decide_eq_true_eq] at h6;rw [h6.1] at hj
   simpa using hj
 simp only [tailB,Bool.and_eq_true,decide_eq_true_eq];refine ⟨⟨⟨⟨h1,headB_of h3 n ops.toList 0 _ Inv.start rfl h2⟩,h4⟩,?_⟩,h6⟩
 unfold sinksB
 rw [List.all_eq_true]
 intro j hj
 have hjk:=hr j hj;subst hjk;obtain ⟨_,o,ho,_⟩:=mem_ready.1 hj
 unfold sinksD at h5
 rw [ho] at h5;simp only [List.all_eq_true,List.mem_range] at h5 ⊢
 intro i hi
 have hz : 0 < ops.size:=Nat.lt_of_le_of_lt (Nat.zero_le _) (Array.getElem?_eq_some_iff.1 ho).1;obtain ⟨g,hg⟩ : ∃ g,ops.size = g + 1:=⟨ops.size - 1,by omega⟩;have h7:=h5 i hi;simp only [Bool.or_eq_true] at h7
 rcases h7 with h7 | h7
 ·rw [hg]
  exact waitsT_edge ho h7
 ·exact waitsT_mono (Nat.min_le_right _ _) h7
end
theorem f_tail {P : Program} {ops : Array Oper} {Q : Exit → Act → World → Prop} {T : List Oper} {N : Nat} {E : List (Nat × Value)} {w : World} (h : ∀ w',Up w w' → lF P ops Q T N E w') :
  bF P ops (Up w) (fun a'=>∀ w',Up w w' → wpList P ops Q T a' w') [] N E:=fun a ha=>wpB_nil fun w' hw'=>h w' hw' a ha
section
variable {P : Program} {ops : Array Oper} {Q : Exit → Act → World → Prop} {N : Nat} {E : List (Nat × Value)} {w : World} {o : Oper} {rest : List Oper} {k : Nat}
theorem l_nil (h : kF (Q .normal) N E w) : lF P ops Q [] N E w:=fun a ha=>wpl_nil (h a ha)
theorem l_val {w' : World} (v : Value) (hg : o.guard = none) (hd : o.dst = some k) (hk : Nat.blt k N = true) (h : ∀ a,Fr N E a → (execOp a.eval o).run P w = .ok (.value v) w') (hn : lF P ops Q rest N ((k,v) :: E) w') : lF P ops Q (o :: rest) N E w:=fun a ha=>by
 have h1:=h a ha;have h2:=hn _ (ha.put hk v)
 unfold wpList
 rw [if_pos (by simp [Region.wanted,hg])];refine .inl ?_
 unfold Oper.wp
 rw [h1];simp only [Oper.upon,hd];exact h2
theorem l_move {x : Operand} (v : Value) (hg : o.guard = none) (hd : o.dst = some k) (hk : Nat.blt k N = true) (ho : o.op = .move x) (hx : ev E x = some v) (hn : lF P ops Q rest N ((k,v) :: E) w) : lF P ops Q (o :: rest) N E w :=
 l_val v hg hd hk (fun a ha=>by
  have h1:=ha.eval hx
  unfold execOp
  simp only [ho,h1,Sem.run_pure]) hn
theorem l_assign {x : Operand} (v : Value) (hg : o.guard = none) (hd : o.dst = some k) (hk : Nat.blt k N = true) (ho : o.op = .assign x) (hx : ev E x = some v) (hn : lF P ops Q rest N ((k,v) :: E) w) : lF P ops Q (o :: rest) N E w :=
 l_val v hg hd hk (fun a ha=>by
  have h1:=ha.eval hx
  unfold execOp
  simp only [ho,h1,Sem.run_pure]) hn
end
end Go.Proofs.YtminmeljonbogaaDoor
/-
  SLICES OF WORDS OVER FRAMES BY WHAT IS KNOWN OF THEM.
-/
namespace Go.Proofs.YtminmeljonbogaaDoor
open Go.RowKit Go.IntWalk

end Go.Proofs.YtminmeljonbogaaDoor
/-
  PLAIN NUMBERS: the digests of FIPS 180-4 over words of w bits: turned words, the message's words, rounds, blocks, the message's end. No program is imported.
-/
namespace Nums

def rotw (w n x : Nat) : Nat:=x / 2 ^ n + x % 2 ^ n * 2 ^ (w - n)
def chw (w e f g : Nat) : Nat:=(e &&& f) ^^^ ((2 ^ w - 1 - e) &&& g)
def maw (a b c : Nat) : Nat:=(a &&& b) ^^^ (a &&& c) ^^^ (b &&& c)

structure Sha where
  w : Nat
  n : Nat
  big1 : Nat × Nat × Nat
  big0 : Nat × Nat × Nat
  low1 : Nat × Nat × Nat
  low0 : Nat × Nat × Nat
  k : Nat → Nat
  start : List Nat
def bigw (w : Nat) (t : Nat × Nat × Nat) (x : Nat) : Nat:=rotw w t.1 x ^^^ rotw w t.2.1 x ^^^ rotw w t.2.2 x
def loww (w : Nat) (t : Nat × Nat × Nat) (x : Nat) : Nat:=rotw w t.1 x ^^^ rotw w t.2.1 x ^^^ x / 2 ^ t.2.2

def sqs : List Nat:=[7640891576956012808,13503953896175478587,4354685564936845355,11912009170470909681,5840696475078001361,11170449401992604703,2270897969802886507,6620516959819538809]
def cbs : List Nat:=[4794697086780616226,8158064640168781261,13096744586834688815,16840607885511220156,4131703408338449720,6480981068601479193,10538285296894168987,12329834152419229976,15566598209576043074,1334009975649890238,2608012711638119052,6128411473006802146,8268148722764581231,9286055187155687089,11230858885718282805,13951009754708518548,16472876342353939154,17275323862435702243,1135362057144423861,2597628984639134821,3308224258029322869,5365058923640841347,6679025012923562964,8573033837759648693,10970295158949994411,12119686244451234320,12683024718118986047,13788192230050041572,14330467153632333762,15395433587784984357,489312712824947311,1452737877330783856,2861767655752347644,3322285676063803686,5560940570517711597,5996557281743188959,7280758554555802590,8532644243296465576,9350256976987008742,10552545826968843579,11727347734174303076,12113106623233404929,14000437183269869457,14369950271660146224,15101387698204529176,15463397548674623760,17586052441742319658,1182934255886127544,1847814050463011016,2177327727835720531,2830643537854262169,3796741975233480872,4115178125766777443,5681478168544905931,6601373596472566643,7507060721942968483,8399075790359081724,8693463985226723168,9568029438360202098,10144078919501101548,10430055236837252648,11840083180663258601,13761210420658862357,14299343276471374635,14566680578165727644,15097957966210449927,16922976911328602910,17689382322260857208,500013540394364858,748580250866718886,1242879168328830382,1977374033974150939,2944078676154940804,3659926193048069267,4368137639120453308,4836135668995329356,5532061633213252278,6448918945643986474,6902733635092675308,7801388544844847127]
def s512 : Sha where
  w:=64
  n:=80
  big1:=(14,18,41)
  big0:=(28,34,39)
  low1:=(19,61,6)
  low0:=(1,8,7)
  k:=fun t=>cbs[t]!
  start:=sqs
def ben (f : Nat → Nat) : Nat → Nat
  | 0=>0
  | j + 1=>ben f j * 256 + f j
theorem ben_lt {f : Nat → Nat} (h : ∀ j,f j < 256) : ∀ j,ben f j < 256 ^ j
 | 0=>Nat.one_pos
 | j + 1=>by
  have h1:=ben_lt h j;have h2:=h j
  show ben f j * 256 + f j < 256 ^ (j + 1)
  rw [Nat.pow_succ]
  omega
def bword (s : Sha) (b : List UInt8) (t : Nat) : Nat:=ben (fun k=>(b[t * (s.w / 8) + k]!).toNat) (s.w / 8)
def sx (s : Sha) (b : List UInt8) (t : Nat) : Nat :=
  if _h : t < 16 then bword s b t else (loww s.w s.low1 (sx s b (t - 2)) + sx s b (t - 7) + loww s.w s.low0 (sx s b (t - 15)) + sx s b (t - 16)) % 2 ^ s.w
termination_by t
decreasing_by all_goals omega

structure Oct where
  a : Nat
  b : Nat
  c : Nat
  d : Nat
  e : Nat
  f : Nat
  g : Nat
  h : Nat
def Oct.list (o : Oct) : List Nat:=[o.a,o.b,o.c,o.d,o.e,o.f,o.g,o.h]
def t1w (s : Sha) (k x : Nat) (o : Oct) : Nat:=o.h + bigw s.w s.big1 o.e + chw s.w o.e o.f o.g + k + x
def t2w (s : Sha) (o : Oct) : Nat:=bigw s.w s.big0 o.a + maw o.a o.b o.c
def rnd (s : Sha) (k x : Nat) (o : Oct) : Oct:=⟨(t1w s k x o + t2w s o) % 2 ^ s.w,o.a,o.b,o.c,(o.d + t1w s k x o) % 2 ^ s.w,o.e,o.f,o.g⟩
def rnds (s : Sha) (b : List UInt8) (o : Oct) : Nat → Oct
  | 0=>o
  | t + 1=>rnd s (s.k t) (sx s b t) (rnds s b o t)
def add8 (w : Nat) (o p : Oct) : Oct:=⟨(o.a + p.a) % 2 ^ w,(o.b + p.b) % 2 ^ w,(o.c + p.c) % 2 ^ w,(o.d + p.d) % 2 ^ w,(o.e + p.e) % 2 ^ w,(o.f + p.f) % 2 ^ w,(o.g + p.g) % 2 ^ w,(o.h + p.h) % 2 ^ w⟩
def turnw (s : Sha) (o : Oct) (b : List UInt8) : Oct:=add8 s.w o (rnds s b o s.n)

/-! ### Bounds -/
theorem xor_lt {a b w : Nat} (ha : a < 2 ^ w) (hb : b < 2 ^ w) : a ^^^ b < 2 ^ w:=Nat.xor_lt_two_pow ha hb
theorem and_lt {a b w : Nat} (ha : a < 2 ^ w) : a &&& b < 2 ^ w:=Nat.lt_of_le_of_lt Nat.and_le_left ha
theorem rotw_lt {w n x : Nat} (hn : n ≤ w) (hx : x < 2 ^ w) : rotw w n x < 2 ^ w:=by
 have e : (2 : Nat) ^ w = 2 ^ n * 2 ^ (w - n):=by rw [← Nat.pow_add,Nat.add_sub_cancel' hn]
 have h1 : x / 2 ^ n < 2 ^ (w - n):=Nat.div_lt_of_lt_mul (by rw [← e]; exact hx);have h2 : x % 2 ^ n + 1 ≤ 2 ^ n:=Nat.mod_lt _ (Nat.two_pow_pos n);have h3:=Nat.mul_le_mul_right (2 ^ (w - n)) h2;rw [← e,Nat.add_mul,Nat.one_mul] at h3
 unfold rotw
 omega
theorem bigw_lt {w x : Nat} {t : Nat × Nat × Nat} (h : t.1 ≤ w ∧ t.2.1 ≤ w ∧ t.2.2 ≤ w) (hx : x < 2 ^ w) : bigw w t x < 2 ^ w :=
 xor_lt (xor_lt (rotw_lt h.1 hx) (rotw_lt h.2.1 hx)) (rotw_lt h.2.2 hx)
theorem chw_lt {w e f g : Nat} (he : e < 2 ^ w) : chw w e f g < 2 ^ w:=xor_lt (and_lt he) (and_lt (by have:=Nat.two_pow_pos w; omega))
theorem maw_lt {w a b c : Nat} (ha : a < 2 ^ w) (hb : b < 2 ^ w) : maw a b c < 2 ^ w:=xor_lt (xor_lt (and_lt ha) (and_lt ha)) (and_lt hb)
theorem sx_lt (s : Sha) (b : List UInt8) (hw : s.w / 8 * 8 = s.w) (t : Nat) : sx s b t < 2 ^ s.w:=by
 rw [sx]
 split
 ·have h:=ben_lt (f:=fun k=>(b[t * (s.w / 8) + k]!).toNat) (fun j=>UInt8.toNat_lt _) (s.w / 8)
  rw [show (256 : Nat) = 2 ^ 8 from rfl,← Nat.pow_mul,Nat.mul_comm 8,hw] at h;exact h
 ·exact Nat.mod_lt _ (Nat.two_pow_pos _)
structure OB (w : Nat) (o : Oct) : Prop where
  a : o.a < 2 ^ w
  b : o.b < 2 ^ w
  c : o.c < 2 ^ w
  d : o.d < 2 ^ w
  e : o.e < 2 ^ w
  f : o.f < 2 ^ w
  g : o.g < 2 ^ w
  h : o.h < 2 ^ w
theorem OB.rnd {s : Sha} {o : Oct} (h : OB s.w o) (k x : Nat) : OB s.w (rnd s k x o) :=
 ⟨Nat.mod_lt _ (Nat.two_pow_pos _),h.a,h.b,h.c,Nat.mod_lt _ (Nat.two_pow_pos _),h.e,h.f,h.g⟩
theorem OB.rnds {s : Sha} {b : List UInt8} {o : Oct} (h : OB s.w o) : ∀ t,OB s.w (rnds s b o t)
 | 0=>h
 | t + 1=>(OB.rnds h t).rnd _ _
theorem OB.add8 (w : Nat) (o p : Oct) : OB w (add8 w o p):=by
 constructor <;> exact Nat.mod_lt _ (Nat.two_pow_pos _)
theorem OB.turnw (s : Sha) (o : Oct) (b : List UInt8) : OB s.w (turnw s o b):=OB.add8 _ _ _

/-! ### The other spellings -/
/-! ### The whole message -/
def runw (s : Sha) (B : Nat) (o : Oct) (l : List UInt8) : Oct :=
  if _h : B = 0 ∨ l.length < B then o else runw s B (turnw s o (l.take B)) (l.drop B)
termination_by l.length
decreasing_by
  rw [List.length_drop]
  omega
theorem runw_short {s : Sha} {B : Nat} {o : Oct} {l : List UInt8} (h : l.length < B) : runw s B o l = o:=by
 rw [runw,dif_pos (.inr h)]
theorem runw_block {s : Sha} {B : Nat} {o : Oct} {b l : List UInt8} (hB : 0 < B) (h : b.length = B) : runw s B o (b ++ l) = runw s B (turnw s o b) l:=by
 rw [runw,dif_neg (by rw [List.length_append]; omega),← h,List.take_left,List.drop_left]
theorem runw_append {s : Sha} {B : Nat} (hB : 0 < B) : ∀ (n : Nat) {o : Oct} {a l : List UInt8},a.length = n * B → runw s B o (a ++ l) = runw s B (runw s B o a) l
 | 0,o,a,l,h=>by
  have h0 : a = []:=List.eq_nil_of_length_eq_zero (by omega);subst h0;rw [List.nil_append,runw_short (l:=[]) (by simpa using hB)]
 | n + 1,o,a,l,h=>by
  have hl : (a.take B).length = B:=by rw [List.length_take,h,Nat.add_mul]; omega
  have hd : (a.drop B).length = n * B:=by rw [List.length_drop,h,Nat.add_mul]; omega
  have e : a = a.take B ++ a.drop B:=(List.take_append_drop B a).symm;rw [e,List.append_assoc,runw_block hB hl,runw_block hB hl,runw_append hB n hd]
def be64 (v : Nat) : List UInt8:=(bytes 8 v).reverse
def tailw (B r v : Nat) : List UInt8:=128 :: (List.replicate ((if r + 1 ≤ B - B / 8 then B else 2 * B) - 9 - r) 0 ++ be64 v)
def sumw (s : Sha) (m : List UInt8) : Oct:=runw s (2 * s.w) (⟨s.start[0]!,s.start[1]!,s.start[2]!,s.start[3]!,s.start[4]!,s.start[5]!,s.start[6]!,s.start[7]!⟩) (m ++ tailw (2 * s.w) (m.length % (2 * s.w)) (8 * m.length))
def layw (s : Sha) (x : Nat) : List UInt8:=(bytes (s.w / 8) x).reverse
def digest (s : Sha) (m : List UInt8) : List UInt8:=((sumw s m).list.map (layw s)).flatten
end Nums
/-
  THE DOCUMENT'S OWN DIGESTS: turn, three, cut.
-/
namespace Go.Proofs.YtminmeljonbogaaDoor
open Go.RowKit Go.IntWalk Nums

end Go.Proofs.YtminmeljonbogaaDoor
/-
  PLAIN NUMBERS: a number as four words of 64 bits; sums with carries; the number modulo L out of five words. No program is imported.
-/
namespace Nums

def ws (n : Nat) : List Nat:=[n % 18446744073709551616,n / 18446744073709551616 % 18446744073709551616,n / 340282366920938463463374607431768211456 % 18446744073709551616,n / 6277101735386680763835789423207666416102355444464034512896 % 18446744073709551616]
def v4 (a b c d : Nat) : Nat:=a + 18446744073709551616 * b + 340282366920938463463374607431768211456 * c + 6277101735386680763835789423207666416102355444464034512896 * d
theorem ws_len (n : Nat) : (ws n).length = 4:=rfl
theorem ws_v4 {a b c d : Nat} (h0 : a < 18446744073709551616) (h1 : b < 18446744073709551616) (h2 : c < 18446744073709551616) (h3 : d < 18446744073709551616) : ws (v4 a b c d) = [a,b,c,d]:=by
 unfold ws v4
 have e0 : (a + 18446744073709551616 * b + 340282366920938463463374607431768211456 * c + 6277101735386680763835789423207666416102355444464034512896 * d) % 18446744073709551616 = a:=by omega
 have e1 : (a + 18446744073709551616 * b + 340282366920938463463374607431768211456 * c + 6277101735386680763835789423207666416102355444464034512896 * d) / 18446744073709551616 % 18446744073709551616 = b:=by omega
 have e2 : (a + 18446744073709551616 * b + 340282366920938463463374607431768211456 * c + 6277101735386680763835789423207666416102355444464034512896 * d) / 340282366920938463463374607431768211456 % 18446744073709551616 = c:=by omega
 have e3 : (a + 18446744073709551616 * b + 340282366920938463463374607431768211456 * c + 6277101735386680763835789423207666416102355444464034512896 * d) / 6277101735386680763835789423207666416102355444464034512896 % 18446744073709551616 = d:=by omega
 rw [e0,e1,e2,e3]
theorem ws_cut {n : Nat} (h : n < 115792089237316195423570985008687907853269984665640564039457584007913129639936) :
  ∃ a b c d,n = v4 a b c d ∧ ws n = [a,b,c,d] ∧ a < 18446744073709551616 ∧ b < 18446744073709551616 ∧ c < 18446744073709551616 ∧ d < 18446744073709551616:=by
 refine ⟨_,_,_,_,?_,rfl,Nat.mod_lt _ (by decide),Nat.mod_lt _ (by decide),Nat.mod_lt _ (by decide),Nat.mod_lt _ (by decide)⟩
 unfold v4
 omega
theorem ws_lt (n : Nat) : ∀ y ∈ ws n,y < 18446744073709551616:=by
 intro y hy
 simp only [ws,List.mem_cons,List.not_mem_nil,or_false] at hy
 rcases hy with rfl | rfl | rfl | rfl <;> exact Nat.mod_lt _ (by decide)
theorem ws_get_lt (n : Nat) {k : Nat} (hk : k < 4) : (ws n)[k]! < 18446744073709551616 :=
 ws_lt n _ (by rw [getElem!_pos (ws n) k hk]; exact List.getElem_mem _)

/-! ### Rows whose first k words have turned -/
def mxl (f : Nat → Nat) (l : List Nat) (k : Nat) : List Nat:=(List.range l.length).map fun j=>if j < k then f j else l[j]!
theorem mxl_len (f : Nat → Nat) (l : List Nat) (k : Nat) : (mxl f l k).length = l.length:=by simp [mxl]
theorem mxl_zero (f : Nat → Nat) (l : List Nat) : mxl f l 0 = l:=by
 apply List.ext_getElem (by simp [mxl])
 intro i h1 h2
 simp [mxl,h2]
theorem mxl_get (f : Nat → Nat) (l : List Nat) {k : Nat} (h : k < l.length) : (mxl f l k)[k]! = l[k]!:=by
 rw [getElem!_pos _ k (by rw [mxl_len]; exact h)]
 simp [mxl]
theorem mxl_set (f : Nat → Nat) (l : List Nat) {k : Nat} : (mxl f l k).set k (f k) = mxl f l (k + 1):=by
 apply List.ext_getElem (by simp [mxl])
 intro j h1 h2
 rw [List.getElem_set];simp only [mxl,List.getElem_map,List.getElem_range]
 by_cases hjk : k = j
 ·subst hjk
  simp
 ·rw [if_neg hjk]
  by_cases hlt : j < k
  ·rw [if_pos hlt,if_pos (by omega)]
  ·rw [if_neg hlt,if_neg (by omega)]

/-! ### Sums -/
def sup (a b : List Nat) : Nat → Nat
  | 0=>0
  | k + 1=>(a[k]! + b[k]! + sup a b k) / 18446744073709551616
def swd (a b : List Nat) (k : Nat) : Nat:=(a[k]! + b[k]! + sup a b k) % 18446744073709551616
theorem sup_le {a b : List Nat} (ha : ∀ k,k < 4 → a[k]! < 18446744073709551616) (hb : ∀ k,k < 4 → b[k]! < 18446744073709551616) : ∀ k,k ≤ 4 → sup a b k ≤ 1
 | 0,_=>Nat.zero_le _
 | k + 1,hk=>by
  have:=sup_le ha hb k (by omega);have:=ha k (by omega);have:=hb k (by omega)
  show (a[k]! + b[k]! + sup a b k) / 18446744073709551616 ≤ 1
  omega
theorem sum_ws {A B : Nat} (hA : A < 115792089237316195423570985008687907853269984665640564039457584007913129639936) (hB : B < 115792089237316195423570985008687907853269984665640564039457584007913129639936) :
  mxl (swd (ws A) (ws B)) (ws A) 4 = ws ((A + B) % 115792089237316195423570985008687907853269984665640564039457584007913129639936):=by
 obtain ⟨a0,a1,a2,a3,eA,wA,p0,p1,p2,p3⟩:=ws_cut hA;obtain ⟨b0,b1,b2,b3,eB,wB,q0,q1,q2,q3⟩:=ws_cut hB;rw [wA,wB];have e : mxl (swd [a0,a1,a2,a3] [b0,b1,b2,b3]) [a0,a1,a2,a3] 4 = [swd [a0,a1,a2,a3] [b0,b1,b2,b3] 0,swd [a0,a1,a2,a3] [b0,b1,b2,b3] 1,swd [a0,a1,a2,a3] [b0,b1,b2,b3] 2,swd [a0,a1,a2,a3] [b0,b1,b2,b3] 3]:=rfl;have g0 : sup [a0,a1,a2,a3] [b0,b1,b2,b3] 0 = 0:=rfl;have g1 : sup [a0,a1,a2,a3] [b0,b1,b2,b3] 1 = (a0 + b0 + sup [a0,a1,a2,a3] [b0,b1,b2,b3] 0) / 18446744073709551616:=rfl;have g2 : sup [a0,a1,a2,a3] [b0,b1,b2,b3] 2 = (a1 + b1 + sup [a0,a1,a2,a3] [b0,b1,b2,b3] 1) / 18446744073709551616:=rfl;have g3 : sup [a0,a1,a2,a3] [b0,b1,b2,b3] 3 = (a2 + b2 + sup [a0,a1,a2,a3] [b0,b1,b2,b3] 2) / 18446744073709551616:=rfl;have s0 : swd [a0,a1,a2,a3] [b0,b1,b2,b3] 0 = (a0 + b0 + sup [a0,a1,a2,a3] [b0,b1,b2,b3] 0) % 18446744073709551616:=rfl;have s1 : swd [a0,a1,a2,a3] [b0,b1,b2,b3] 1 = (a1 + b1 + sup [a0,a1,a2,a3] [b0,b1,b2,b3] 1) % 18446744073709551616:=rfl;have s2 : swd [a0,a1,a2,a3] [b0,b1,b2,b3] 2 = (a2 + b2 + sup [a0,a1,a2,a3] [b0,b1,b2,b3] 2) % 18446744073709551616:=rfl;have s3 : swd [a0,a1,a2,a3] [b0,b1,b2,b3] 3 = (a3 + b3 + sup [a0,a1,a2,a3] [b0,b1,b2,b3] 3) % 18446744073709551616:=rfl;rw [e];generalize swd [a0,a1,a2,a3] [b0,b1,b2,b3] 0 = x0 at *;generalize swd [a0,a1,a2,a3] [b0,b1,b2,b3] 1 = x1 at *;generalize swd [a0,a1,a2,a3] [b0,b1,b2,b3] 2 = x2 at *;generalize swd [a0,a1,a2,a3] [b0,b1,b2,b3] 3 = x3 at *;generalize sup [a0,a1,a2,a3] [b0,b1,b2,b3] 0 = c0 at *;generalize sup [a0,a1,a2,a3] [b0,b1,b2,b3] 1 = c1 at *;generalize sup [a0,a1,a2,a3] [b0,b1,b2,b3] 2 = c2 at *;generalize sup [a0,a1,a2,a3] [b0,b1,b2,b3] 3 = c3 at *
 have hx : (A + B) % 115792089237316195423570985008687907853269984665640564039457584007913129639936 = v4 x0 x1 x2 x3:=by
  rw [eA,eB]
  unfold v4
  clear e wA wB hA hB eA eB
  omega
 rw [hx,ws_v4 (by omega) (by omega) (by omega) (by omega)]

/-! ### Five words modulo L -/
theorem LL_eq : LL = 7237005577332262213973186563042994240857116359379907606001950938285454250989:=rfl
theorem rest_L {v0 v1 v2 v3 t m0 m1 p1 r0 r1 r2 r3 l0 l1 l2 l3 V : Nat} (h0 : v0 < 18446744073709551616) (h1 : v1 < 18446744073709551616) (h2 : v2 < 18446744073709551616) (h3 : v3 < 1152921504606846976) (ht : t < 34359738368)
  (hm0 : m0 = t * 6346243789798364141) (hm1 : m1 = t * 1503914060200516822) (hp1 : p1 = m1 % 18446744073709551616 + m0 / 18446744073709551616)
  (hl0 : l0 = if v0 < m0 % 18446744073709551616 + 0 then 1 else 0) (hr0 : r0 = (v0 + 18446744073709551616 - m0 % 18446744073709551616 - 0) % 18446744073709551616)
  (hl1 : l1 = if v1 < p1 % 18446744073709551616 + l0 then 1 else 0) (hr1 : r1 = (v1 + 18446744073709551616 - p1 % 18446744073709551616 - l0) % 18446744073709551616)
  (hl2 : l2 = if v2 < m1 / 18446744073709551616 + p1 / 18446744073709551616 + l1 then 1 else 0) (hr2 : r2 = (v2 + 18446744073709551616 - (m1 / 18446744073709551616 + p1 / 18446744073709551616) - l1) % 18446744073709551616)
  (hl3 : l3 = if v3 < 0 + l2 then 1 else 0) (hr3 : r3 = (v3 + 18446744073709551616 - 0 - l2) % 18446744073709551616)
  (hV : V = v4 v0 v1 v2 v3 + 7237005577332262213973186563042994240829374041602535252466099000494570602496 * t) :
  (l3 = 0 → v4 r0 r1 r2 r3 = V % LL) ∧ (l3 = 1 → (v4 r0 r1 r2 r3 + LL) % 115792089237316195423570985008687907853269984665640564039457584007913129639936 = V % LL) ∧ l3 ≤ 1 ∧ l0 ≤ 1 ∧ l1 ≤ 1 ∧ l2 ≤ 1 ∧
   r0 < 18446744073709551616 ∧ r1 < 18446744073709551616 ∧ r2 < 18446744073709551616 ∧ r3 < 18446744073709551616:=by
 have b0 : l0 ≤ 1:=by rw [hl0]; split <;> omega
 have b1 : l1 ≤ 1:=by rw [hl1]; split <;> omega
 have b2 : l2 ≤ 1:=by rw [hl2]; split <;> omega
 have b3 : l3 ≤ 1:=by rw [hl3]; split <;> omega
 have d0 : r0 + m0 % 18446744073709551616 = v0 + 18446744073709551616 * l0:=by rw [hr0,hl0]; split <;> omega
 have d1 : r1 + p1 % 18446744073709551616 + l0 = v1 + 18446744073709551616 * l1:=by rw [hr1,hl1]; split <;> omega
 have hm : m1 / 18446744073709551616 < 17179869184:=by omega
 have hp : p1 / 18446744073709551616 < 2:=by omega
 have d2 : r2 + (m1 / 18446744073709551616 + p1 / 18446744073709551616) + l1 = v2 + 18446744073709551616 * l2:=by rw [hr2,hl2]; split <;> omega
 have d3 : r3 + l2 = v3 + 18446744073709551616 * l3:=by rw [hr3,hl3]; split <;> omega
 have c0 : r0 < 18446744073709551616:=by omega
 have c1 : r1 < 18446744073709551616:=by omega
 have c2 : r2 < 18446744073709551616:=by omega
 have c3 : r3 < 18446744073709551616:=by omega
 clear hr0 hr1 hr2 hr3 hl0 hl1 hl2 hl3
 have key : v4 r0 r1 r2 r3 + m0 + 18446744073709551616 * m1 = v4 v0 v1 v2 v3 + 115792089237316195423570985008687907853269984665640564039457584007913129639936 * l3:=by
  unfold v4
  omega
 have hlow : v4 v0 v1 v2 v3 < 7237005577332262213973186563042994240829374041602535252466099000494570602496:=by
  unfold v4
  omega
 have hR : v4 r0 r1 r2 r3 < 115792089237316195423570985008687907853269984665640564039457584007913129639936:=by
  unfold v4
  omega
 clear d0 d1 d2 d3 hp1 hm hp;refine ⟨fun h=>?_,fun h=>?_,b3,b0,b1,b2,c0,c1,c2,c3⟩
 ·have e : V = v4 r0 r1 r2 r3 + LL * t:=by
   rw [hV,LL_eq]
   omega
  rw [e,Nat.add_mul_mod_self_left,Nat.mod_eq_of_lt];rw [LL_eq]
  omega
 ·have hg : 115792089237316195423570985008687907853269984665640564039457584007913129639936 ≤ v4 r0 r1 r2 r3 + LL:=by
   rw [LL_eq]
   omega
  have e : V + LL = (v4 r0 r1 r2 r3 + LL - 115792089237316195423570985008687907853269984665640564039457584007913129639936) + LL * t:=by
   rw [hV,LL_eq] at *
   omega
  have e2 : V % LL = (V + LL) % LL:=by rw [Nat.add_mod_right]
  rw [e2,e,Nat.add_mul_mod_self_left,Nat.mod_eq_sub_mod hg,Nat.mod_eq_of_lt,Nat.mod_eq_of_lt]
  ·rw [LL_eq] at *
   omega
  ·rw [LL_eq] at *
   omega
end Nums
/-
  THE DOCUMENT'S OWN DIGESTS: Digest with words of 64 bits: its loops, over frames of which a part is told: the schedule.
-/
namespace Go.Proofs.YtminmeljonbogaaDoor
open Go.RowKit Go.IntWalk Nums

def loopsOf : Code → List Code
  | .loop c=>c :: loopsOf c
  | .seq a b=>loopsOf a ++ loopsOf b
  | .block _ c=>loopsOf c
  | .scope c=>loopsOf c
  | .cond _ a b=>loopsOf a ++ loopsOf b
  | _=>[]
noncomputable def dl (k : Nat) : Code:=((Tryd.f76.body.map loopsOf).getD [])[k]?.getD .skip


end Go.Proofs.YtminmeljonbogaaDoor
/-
  THE DOCUMENT'S OWN DIGESTS: Digest with words of 64 bits: the rounds.
-/
namespace Go.Proofs.YtminmeljonbogaaDoor
open Go.RowKit Go.IntWalk Nums

end Go.Proofs.YtminmeljonbogaaDoor
/-
  THE DOCUMENT'S OWN DIGESTS: Digest with words of 64 bits: a block's words, and the sums at a block's end.
-/
namespace Go.Proofs.YtminmeljonbogaaDoor
open Go.RowKit Go.IntWalk Nums

end Go.Proofs.YtminmeljonbogaaDoor
/-
  THE DOCUMENT'S OWN DIGESTS: Digest with words of 64 bits: the sums at a block's end.
-/
namespace Go.Proofs.YtminmeljonbogaaDoor
open Go.RowKit Go.IntWalk Nums

end Go.Proofs.YtminmeljonbogaaDoor
/-
  MAKE AND APPEND OVER FRAMES BY WHAT IS KNOWN OF THEM.
-/
namespace Go.Proofs.YtminmeljonbogaaDoor
open Go.RowKit Go.IntWalk

def GS (w : World) (base e : Nat) (A : Option Addr) (c : Nat) (xs : List Value) : Prop:=w.ownsRow base e 1 (.slice A xs.length c) xs.length xs
section
variable {w w' : World} {base e c : Nat} {A : Option Addr} {xs : List Value}
theorem GS.cut (h : GS w base e A c xs) : (A = none ∧ c = 0 ∧ xs = []) ∨ ∃ g,A = some ⟨g,0,none⟩ ∧ base ≤ g ∧ VL w g xs:=by
 rcases h.2 with ⟨h1,h2⟩ | ⟨g,cap,cur,hv,hb,hg,hn,hc,hcs,htk⟩
 ·injection h1 with h3 h4 h5
  exact .inl ⟨h3,h5,List.eq_nil_of_length_eq_zero h2⟩
 ·injection hv with h3 h4 h5
  have hB : Blk w g e cur:=hg;refine .inr ⟨g,h3,hb,hB.lt,fun j v hj=>?_,fun j _=>hB.free j⟩;rw [hB.cell j];rw [← htk,List.getElem?_take] at hj
  split at hj
  ·simpa using hj
  ·cases hj
theorem GS.lt (h : GS w base e A c xs) : ∀ k,A.map (·.block) = some k → base ≤ k ∧ k < w.heap.size:=fun k hk=>by
 rcases h.cut with ⟨h1,_,_⟩ | ⟨g,h1,h2,h3⟩
 ·rw [h1] at hk
  cases hk
 ·rw [h1] at hk
  cases hk
  exact ⟨h2,h3.lt⟩
theorem GS.keep (h : GS w base e A c xs) (hk : ∀ k,A.map (·.block) = some k → w'.heap[k]? = w.heap[k]?) : GS w' base e A c xs:=by
 refine ⟨h.1,?_⟩
 rcases h.2 with h1 | ⟨g,cap,cur,hv,hb,hg,hr⟩
 ·exact .inl h1
 ·injection hv with h3 h4 h5
  refine .inr ⟨g,cap,cur,by rw [h3,h5],hb,?_,hr⟩;rw [hk g (by rw [h3]; rfl)];exact hg
theorem GS.below {B : Nat} (h : GS w base e A c xs) (hb : Below B w w') (hB : w.heap.size ≤ B) : GS w' base e A c xs:=h.keep fun k hk=>hb.block k (Nat.lt_of_lt_of_le (h.lt k hk).2 hB)
theorem GS.up (h : GS w base e A c xs) (hb : Up w w') : GS w' base e A c xs:=h.below hb (Nat.le_refl _)
theorem GS.grew {W0 : World} (h : GS w base e A c xs) (hbe : Below base W0 w) (hg : w.grownBy w' (A.map (·.block))) (hz : base ≤ w.heap.size) : Below base W0 w':=hbe.grown hg hz fun k hk=>(h.lt k hk).1
end

section
variable {ops : Array Oper} {Q : Exit → Act → World → Prop} {N : Nat} {E : List (Nat × Value)} {w : World} {o : Oper} {rest : List Oper} {k : Nat}
theorem l_app {s x : Operand} {t e : TypeId} {z : Value} {base bytes c m d : Nat} {A : Option Addr} {xs news : List Value} {ad : Addr} (hg : o.guard = none) (hd : o.dst = some k) (hk : Nat.blt k N = true) (ho : o.op = .call { callee:=.builtin .append,args:=#[s,x],argTypes:=#[t,t] })
  (hs : ev E s = some (.slice A xs.length c)) (hx : ev E x = some (.slice (some ad) m d)) (ht : Tryd.prog.underlying t = some (.slice e)) (hi : (Tryd.prog.info? e).map (fun i=>(i.zero,i.size,i.bytes)) = some (some z,1,bytes)) (hz1 : z.cells.size = 1)
  (hown : GS w base e A c xs) (hm : news.length = m) (hnews : ∀ j u,news[j]? = some u → w.cell? (ad.add j) = some u) (h1 : ∀ u ∈ news,u.oneCell' = true) (hbytes : (xs.length + m) * bytes ≤ 140737488355328) (h63 : xs.length + m ≤ maxLen) (hbase : base ≤ w.heap.size)
  (hn : ∀ A' c' w',GS w' base e A' c' (xs ++ news) → w.grownBy w' (A.map (·.block)) → (A'.map (·.block) = A.map (·.block) ∨ A'.map (·.block) = some w.heap.size) → lF Tryd.prog ops Q rest N ((k,.slice A' (xs ++ news).length c') :: E) w') :
  lF Tryd.prog ops Q (o :: rest) N E w:=by
 obtain ⟨i,hi0,hz0,hs0,hb⟩:=info_parts hi
 have hob : ∀ (B : Option Addr) (n m : Nat),(Value.slice B n m).ownBlock = B.map (·.block):=fun B n m=>by cases B <;> rfl
 obtain ⟨v',w',hr,ho',hgr,_,hat⟩:=run_append_own_at (P:=Tryd.prog) w base t o.type e i z 1 bytes ht hi0 hz0 hs0 hb hz1 (by omega) _ xs.length xs hown ad m d news (by rw [hm,Nat.mul_one]) hnews h1 h63 hbytes hbase
 have hlen : (xs ++ news).length = xs.length + m:=by rw [List.length_append,hm]
 rw [← hlen] at ho'
 obtain ⟨A',c',rfl⟩ : ∃ A' c',v' = .slice A' (xs ++ news).length c':=by
  rcases ho'.2 with ⟨h0,hn⟩ | ⟨g,cap,cur,hv,_⟩
  ·exact ⟨none,0,by rw [h0,hn]⟩
  ·exact ⟨_,_,hv⟩
 rw [hob] at hgr hat;rw [hob] at hat;refine l_val _ hg hd hk (fun a ha=>?_) (hn A' c' w' ho' hgr hat);have h2:=ha.eval hs;have h3:=ha.eval hx
 unfold execOp
 simp only [ho,resolve,invoke,builtin,Sem.run_bind,Sem.run_pure,Result.andThen_ok,List.map_toArray,List.map_cons,List.map_nil,h2,h3,hr]
end

theorem info_byte : (Tryd.prog.info? 5).map (fun i=>(i.zero,i.size,i.bytes)) = some (some (.int .u8 0),1,1):=by kernel_rfl
end Go.Proofs.YtminmeljonbogaaDoor
/-
  SLICES OF WORDS AND BYTES, NEW ONES, OVER FRAMES BY WHAT IS KNOWN OF THEM.
-/
namespace Go.Proofs.YtminmeljonbogaaDoor
open Go.RowKit Go.IntWalk

theorem run_slice1B (x : Int) (w : World) : (Instr.buildSlice 23 1 #[(0,.int .u8 x)]).run Tryd.prog w = .ok (.slice (some ⟨w.heap.size,0,none⟩) 1 1) (w.alloc (.cells #[.int .u8 x] 5)):=by
 go_simp
end Go.Proofs.YtminmeljonbogaaDoor
/-
  THE DOCUMENT'S OWN DIGESTS: Digest with words of 64 bits: block behind block.
-/
namespace Go.Proofs.YtminmeljonbogaaDoor
open Go.RowKit Go.IntWalk Nums


end Go.Proofs.YtminmeljonbogaaDoor
/-
  THE DOCUMENT'S OWN DIGESTS: Digest with words of 64 bits: the message's end.
-/
namespace Go.Proofs.YtminmeljonbogaaDoor
open Go.RowKit Go.IntWalk Nums


/-! ### The length -/
theorem bytes_len : ∀ (k v : Nat),(Nums.bytes k v).length = k
 | 0,_=>rfl
 | k + 1,v=>by
  show (Nums.bytes k (v / 256)).length + 1 = k + 1
  rw [bytes_len k]
end Go.Proofs.YtminmeljonbogaaDoor
/-
  THE DOCUMENT'S OWN DIGESTS: Digest with words of 64 bits: the first words, and the words as bytes.
-/
namespace Go.Proofs.YtminmeljonbogaaDoor
open Go.RowKit Go.IntWalk Nums


/-! ### The words as bytes -/
end Go.Proofs.YtminmeljonbogaaDoor
