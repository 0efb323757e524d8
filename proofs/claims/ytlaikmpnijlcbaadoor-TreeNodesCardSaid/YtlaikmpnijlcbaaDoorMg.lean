/-
  SEVERAL TEXTS IN ONE: Lay512, TrR, TrN, Clear, End512, EndW512, Fill512, Sum512, Rot32, Uw, Long256, Turn256, Lay256, End256.
-/
import Derived.Test.YtlaikmpnijlcbaaDoorMf
import Derived.Test.YtlaikmpnijlcbaaDoorMe
import Derived.Test.YtlaikmpnijlcbaaDoorMb
/-
  THE DIGESTS: lay512: the eight words' bytes, the greatest first.
-/
namespace Nums
/-- The bytes of D that p tells, noughts else. -/
def pf (D : List UInt8) (p : Nat → Bool) : List UInt8 := (List.range D.length).map fun m => if p m then D[m]! else 0
theorem pf_len (D : List UInt8) (p : Nat → Bool) : (pf D p).length = D.length := by simp [pf]
theorem pf_congr {D : List UInt8} {p q : Nat → Bool} (h : ∀ m, m < D.length → p m = q m) : pf D p = pf D q := by
  apply List.ext_getElem (by simp [pf])
  intro i h1 h2
  have hi : i < D.length := by simpa [pf] using h1
  simp [pf, h i hi]
theorem pf_set {D : List UInt8} {p q : Nat → Bool} {k : Nat} (h : ∀ m, m < D.length → q m = (p m || decide (m = k))) : (pf D p).set k D[k]! = pf D q := by
  apply List.ext_getElem (by simp [pf])
  intro i h1 h2
  have hi : i < D.length := by simpa [pf] using h2
  rw [List.getElem_set]
  by_cases e : k = i
  · subst e
    simp [pf, h k hi]
  · rw [if_neg e]
    have e2 : decide (i = k) = false := decide_eq_false (fun h => e h.symm)
    simp [pf, h i hi, e2]
theorem pf_all {D : List UInt8} {p : Nat → Bool} (h : ∀ m, m < D.length → p m = true) : pf D p = D := by
  apply List.ext_getElem (by simp [pf])
  intro i h1 h2
  simp [pf, h i h2, h2]
theorem pf_none {D : List UInt8} {p : Nat → Bool} (h : ∀ m, m < D.length → p m = false) : pf D p = List.replicate D.length 0 := by
  apply List.ext_getElem (by simp [pf])
  intro i h1 h2
  have hi : i < D.length := by simpa [pf] using h1
  simp [pf, h i hi]
/-- What the words' bytes are, one by one. -/
theorem flat_get {n : Nat} (f : Nat → List UInt8) (hf : ∀ x, (f x).length = n) : ∀ (l : List Nat) {i j : Nat}, i < l.length → j < n → ((l.map f).flatten)[n * i + j]! = (f l[i]!)[j]!
  | [], i, _, h, _ => absurd h (by simp)
  | x :: l, 0, j, _, hj => by
    rw [List.map_cons, List.flatten_cons, Nat.mul_zero, Nat.zero_add]
    have h1 : j < (f x).length := by rw [hf]; exact hj
    rw [getElem!_pos (f x ++ (l.map f).flatten) j (by rw [List.length_append]; omega), List.getElem_append_left h1]
    exact (getElem!_pos (f x) j h1).symm
  | x :: l, i + 1, j, h, hj => by
    have ih := flat_get f hf l (i := i) (j := j) (by simpa using h) hj
    have e : ((x :: l).map f).flatten = f x ++ (l.map f).flatten := by rw [List.map_cons, List.flatten_cons]
    have e2 : (x :: l)[i + 1]! = l[i]! := rfl
    rw [e2, ← ih, e]
    have hx := hf x
    have hi : n * (i + 1) + j = (f x).length + (n * i + j) := by rw [hx, Nat.mul_add]; omega
    rw [hi]
    by_cases hb : n * i + j < (l.map f).flatten.length
    · rw [getElem!_pos (l.map f).flatten _ hb, getElem!_pos (f x ++ (l.map f).flatten) _ (by rw [List.length_append]; omega), List.getElem_append_right (by omega)]
      congr 1
      omega
    · rw [getElem!_neg (l.map f).flatten _ hb, getElem!_neg (f x ++ (l.map f).flatten) _ (by rw [List.length_append]; omega)]
theorem flat_lenB {n : Nat} (f : Nat → List UInt8) (hf : ∀ x, (f x).length = n) : ∀ (l : List Nat), ((l.map f).flatten).length = n * l.length
  | [] => rfl
  | x :: l => by rw [List.map_cons, List.flatten_cons, List.length_append, hf, flat_lenB f hf l, List.length_cons, Nat.mul_add]; omega
theorem layw_len (s : Sha) (x : Nat) : (layw s x).length = s.w / 8 := by
  unfold layw
  rw [List.length_reverse, bytes_len]
end Nums
namespace Go.Proofs.YtlaikmpnijlcbaaDoor
open Go.RowKit Go.IntWalk Nums

theorem layw_get {s : Sha} {x j : Nat} (h : j < s.w / 8) : ((layw s x)[s.w / 8 - 1 - j]!).toNat = x / 256 ^ j % 256 := by
  have hl : (Nums.bytes (s.w / 8) x).length = s.w / 8 := bytes_len _ _
  have e : (layw s x)[s.w / 8 - 1 - j]! = (Nums.bytes (s.w / 8) x)[j]! := by
    unfold layw
    rw [getElem!_pos _ _ (by rw [List.length_reverse, hl]; omega), List.getElem_reverse, getElem!_pos _ j (by rw [hl]; exact h)]
    congr 1
    rw [hl]
    omega
  rw [e, bytes_get _ _ h]

theorem size_b64 (cs : Array Value) (h : cs.size = 64) : (Tryd.prog.info? 73).map (·.size) = some cs.size := by
  rw [h]
  kernel_rfl
def z64b : List UInt8 := List.replicate 64 0
theorem zb64 : (Tryd.prog.info? 73).bind (fun i => i.zero.map (·.cells)) = some (By z64b).toArray := by kernel_rfl

/-- What lay512's rows lie in. -/
structure LY (w wr : World) (cs : Array Value) (m : List UInt8) : Prop where
  b0 : Blk wr w.heap.size 84 cs
  b1 : Blk wr (w.heap.size + 1) 73 (By z64b).toArray
  b2 : Blk wr (w.heap.size + 1 + 1) 73 (By m).toArray
  be : Below w.heap.size w wr
theorem LY.set {w wr : World} {cs : Array Value} {m : List UInt8} (h : LY w wr cs m) (k : Nat) (x : UInt8) : LY w (wr.setCell ⟨w.heap.size + 1 + 1, k, none⟩ (.int .u8 (x.toNat : Int))) cs (m.set k x) where
  b0 := h.b0.far (by show w.heap.size ≠ w.heap.size + 1 + 1; omega) _
  b1 := h.b1.far (by show w.heap.size + 1 ≠ w.heap.size + 1 + 1; omega) _
  b2 := by
    have h4 := h.b2.set k (.int .u8 (x.toNat : Int))
    rw [By_set] at h4
    exact h4
  be := h.be.setCell (by show w.heap.size ≤ w.heap.size + 1 + 1; omega) _

end Go.Proofs.YtlaikmpnijlcbaaDoor
/-
  THE DOCUMENT'S TREE: the root of pairs.
-/
namespace Go.Proofs.YtlaikmpnijlcbaaDoor
open Go.RowKit Go.IntWalk Nums

/-- A slice of a row behind an address. -/
theorem runO_allQ {P : Program} {N : Nat} {E : SE} {o : Oper} {x : Operand} {t e : TypeId} {g off n sz : Nat} (ho : o.op = .slice t x none none none) (ht : P.underlying t = some (.array n e)) (he : (P.info? e).map (·.size) = some sz) (hx : evS E x = some (.v (.pointer (some ⟨g, off, none⟩)))) :
    ∀ (G : Nat → Nat) (a : Act) (w : World), Fr N (denE G E) a → (execOp a.eval o).run P w = .ok (.value ((SV.v (.slice (some ⟨g, off, none⟩) n n)).den G)) w := fun G a w ha => by
  have h1 : a.eval x = .pointer (some ⟨g, off, none⟩) := ha.eval (evS_ok hx)
  have h5 := run_sizeOf he w
  unfold execOp
  simp only [ho]
  generalize a.eval = ρ at *
  simp only [Option.map, h1]
  show _ = Result.ok (Next.value (.slice (some ⟨g, off, none⟩) n n)) w
  simp [Instr.sliceAt, Instr.sureAddr, run_underlying ht, Instr.sliceBounds, h5, Sem.run_bind, Addr.add_mid]
theorem eP_cl (p : PairT) : (eP p).cl = By p.1 ++ By p.2 := by
  show (catP [Pt.agg 32 (By p.1).toArray, .agg 32 (By p.2).toArray]).toList = _
  rw [catP_cons]
  simp [Pt.cells, catP]
/-- A pair's key and value are bytes that are read. -/
theorem rd_pair {g o c i : Nat} {l : List PairT} {p : PairT} {w : World} (h : Rd 64 eP (some ⟨g, o, none⟩) c l w) (hi : l[i]? = some p) (hp : OkT2 p) :
    SB w (.slice (some ⟨g, o + 64 * i, none⟩) 32 32) p.1 ∧ SB w (.slice (some ⟨g, o + 64 * i + 32, none⟩) 32 32) p.2 := by
  obtain ⟨_, _, _, _, h5⟩ := h
  obtain ⟨b', o', e, hb, hr⟩ := h5 (Nat.lt_of_le_of_lt (Nat.zero_le _) (List.getElem?_eq_some_iff.1 hi).1)
  injection e with e
  injection e with e1 e2
  subst e1
  subst e2
  have hr := hr i p hi
  rw [eP_cl] at hr
  have hl1 : (By p.1).length = 32 := by rw [By_len]; exact hp.1
  refine ⟨⟨_, _, by rw [hp.1], by rw [hp.1]; exact Nat.le_refl _, by decide, fun h => (by cases h), fun _ => ⟨_, rfl, Nat.zero_le _, hb, fun j x hx => ?_⟩⟩, ⟨_, _, by rw [hp.2], by rw [hp.2]; exact Nat.le_refl _, by decide, fun h => (by cases h), fun _ => ⟨_, rfl, Nat.zero_le _, hb, fun j x hx => ?_⟩⟩⟩
  · have hj : j < 32 := by rw [← hp.1]; exact (List.getElem?_eq_some_iff.1 hx).1
    rw [Addr.add_mid]
    refine hr j _ ?_
    rw [List.getElem?_append_left (by omega)]
    simp [By, hx]
  · rw [Addr.add_mid, Nat.add_assoc (o + 64 * i)]
    refine hr (32 + j) _ ?_
    rw [List.getElem?_append_right (by omega), hl1, Nat.add_sub_cancel_left]
    simp [By, hx]
end Go.Proofs.YtlaikmpnijlcbaaDoor
/-
  THE PROGRAM'S TREE: its nodes as they lie in memory; a key's bit, a node's root, how many pairs.
-/
namespace Go.Proofs.YtlaikmpnijlcbaaDoor
open Go.RowKit Go.IntWalk Nums

/-! ### Nodes -/
/-- A node: where it lies, its pair or its sides. -/
inductive TA where
  | nil
  | leaf (g h : Nat) (p : PairT)
  | node (g : Nat) (a b : TA)
namespace TA
def ptr : TA → Option Nat
  | nil => none
  | leaf g _ _ => some g
  | node g _ _ => some g
def root : TA → List UInt8
  | nil => z32T
  | leaf _ _ p => leafT p
  | node _ a b => nodeT a.root b.root
def len : TA → Nat
  | nil => 0
  | leaf _ _ _ => 1
  | node _ a b => a.len + b.len
def val (t : TA) : Value := .pointer (t.ptr.map fun g => ⟨g, 0, none⟩)
/-- All pairs, the left side's first. -/
def all : TA → List PairT
  | nil => []
  | leaf _ _ p => [p]
  | node _ a b => a.all ++ b.all
end TA
def prPs (p : PairT) : List Pt := [.agg 32 (By p.1).toArray, .agg 32 (By p.2).toArray]
def lfPs (h : Nat) (p : PairT) : List Pt := [.agg 32 (By (leafT p)).toArray, .one (.v (.int .i64 1)), .one (.v (.pointer (some ⟨h, 0, none⟩))), .agg 2 #[.pointer none, .pointer none]]
def ndPs (a b : TA) : List Pt := [.agg 32 (By (nodeT a.root b.root)).toArray, .one (.v (.int .i64 ((a.len + b.len : Nat) : Int))), .one (.v (.pointer none)), .agg 2 #[a.val, b.val]]
/-- The nodes lie in the world. -/
def TF : TA → World → Prop
  | .nil, _ => True
  | .leaf g h p, w => ObjF g 68 (lfPs h p) w ∧ ObjF h 64 (prPs p) w
  | .node g a b, w => ObjF g 68 (ndPs a b) w ∧ TF a w ∧ TF b w
theorem TF.later : ∀ {t : TA} {w w' : World}, TF t w → Below w.heap.size w w' → TF t w'
  | .nil, _, _, _, _ => trivial
  | .leaf _ _ _, _, _, h, k => ⟨⟨h.1.1.later k, h.1.2⟩, ⟨h.2.1.later k, h.2.2⟩⟩
  | .node _ _ _, _, _, h, k => ⟨⟨h.1.1.later k, h.1.2⟩, h.2.1.later k, h.2.2.later k⟩
instance {t : TA} : Pst (TF t) := ⟨fun _ _ h k => h.later k⟩
theorem TA.root_len : ∀ t : TA, t.root.length = 32
  | .nil => rfl
  | .leaf _ _ _ => digest256_len _
  | .node _ _ _ => digest256_len _
/-- Which pairs they stand for, r bits left. -/
def TOk : Nat → List PairT → TA → Prop
  | _, l, .nil => l = []
  | _, l, .leaf _ _ p => l = [p]
  | 0, _, .node _ _ _ => False
  | r + 1, l, .node _ a b => 2 ≤ l.length ∧ TOk r (leftT (255 - r) l) a ∧ TOk r (rightT (255 - r) l) b
theorem TOk.root : ∀ {r : Nat} {l : List PairT} {t : TA}, TOk r l t → t.root = rootT r l
  | r, l, .nil, h => by
    have h : l = [] := by cases r <;> exact h
    subst h
    exact (rootT_nil r).symm
  | r, l, .leaf _ _ p, h => by
    have h : l = [p] := by cases r <;> exact h
    subst h
    exact (rootT_one r p).symm
  | 0, _, .node _ _ _, h => h.elim
  | r + 1, l, .node _ a b, h => by
    obtain ⟨h1, h2, h3⟩ := h
    rw [rootT_node h1, ← h2.root, ← h3.root]
    rfl
theorem sides_len (d : Nat) (l : List PairT) : (leftT d l).length + (rightT d l).length = l.length := by
  unfold leftT rightT
  induction l with
  | nil => rfl
  | cons x l ih =>
    by_cases h : bitT x.1 d = 0
    · simp [h] at ih ⊢
      omega
    · simp [h] at ih ⊢
      omega
theorem TOk.len : ∀ {r : Nat} {l : List PairT} {t : TA}, TOk r l t → t.len = l.length
  | r, l, .nil, h => by
    have h : l = [] := by cases r <;> exact h
    subst h
    rfl
  | r, l, .leaf _ _ p, h => by
    have h : l = [p] := by cases r <;> exact h
    subst h
    rfl
  | 0, _, .node _ _ _, h => h.elim
  | r + 1, l, .node _ a b, h => by
    obtain ⟨h1, h2, h3⟩ := h
    have := sides_len (255 - r) l
    show a.len + b.len = _
    rw [h2.len, h3.len, this]

/-! ### Steps at bytes -/
theorem low1T (m : Nat) (h : m < 256) : bits .and .u8 (m : Int) 1 = ((m % 2 : Nat) : Int) := by
  have key : ∀ m : Nat, m < 256 → bits .and .u8 (m : Int) 1 = ((m % 2 : Nat) : Int) := by decide +kernel
  exact key m h
theorem run_shr8 {N : Nat} {E : SE} {o : Oper} {x y : Operand} {t' : TypeId} {m n : Nat} (hn : n ≤ 8) (ho : o.op = .binOp .shr 5 x y t') (hx : evS E x = some (.v (.int .u8 (m : Int)))) (hy : evS E y = some (.v (.int .u8 (n : Int)))) :
    ∀ (G : Nat → Nat) (a : Act) (w : World), Fr N (denE G E) a → (execOp a.eval o).run Tryd.prog w = .ok (.value ((SV.v (.int .u8 ((m / 2 ^ n : Nat) : Int))).den G)) w := fun G a w ha => by
  have h1 : a.eval x = .int .u8 (m : Int) := ha.eval (evS_ok hx)
  have h2 : a.eval y = .int .u8 (n : Int) := ha.eval (evS_ok hy)
  have h3 : (n : Int) ≤ 8 := by omega
  unfold execOp
  simp only [ho, h1, h2]
  go_simp
  rfl
theorem run_and8 {N : Nat} {E : SE} {o : Oper} {x y : Operand} {t' : TypeId} {m n : Int} (ho : o.op = .binOp .and 5 x y t') (hx : evS E x = some (.v (.int .u8 m))) (hy : evS E y = some (.v (.int .u8 n))) :
    ∀ (G : Nat → Nat) (a : Act) (w : World), Fr N (denE G E) a → (execOp a.eval o).run Tryd.prog w = .ok (.value ((SV.v (.int .u8 (bits .and .u8 m n))).den G)) w := fun G a w ha => by
  have h1 : a.eval x = .int .u8 m := ha.eval (evS_ok hx)
  have h2 : a.eval y = .int .u8 n := ha.eval (evS_ok hy)
  unfold execOp
  simp only [ho, h1, h2]
  go_simp
  rfl
theorem wrapB {m r : Int} (h : m = r) (h1 : 0 ≤ r) (h2 : r < 256) : IntKind.u8.wrap m = r := by
  subst h
  unfold IntKind.wrap
  simp [IntKind.bits, IntKind.signed]
  omega
theorem own_tbit : Own 38 := fun _ _ => by go_simp
set_option maxRecDepth 100000 in
set_option maxHeartbeats 1000000 in
theorem tbit_S {k : List UInt8} (hk : k.length = 32) (n : Nat) (hn : n < 256) : Spec 38 [(eY 32 k).den, .int .u8 (n : Int)] [] (fun _ => True) (one (.v (.int .u8 ((bitT k n : Nat) : Int)))) := by
  refine spec_S [eY 32 k, .c (.v (.int .u8 (n : Int)))] 14 Tryd.func38 rfl (by rw [Tryd.ntmps38]; rfl) (two_ok (eY_ok hk).1 trivial) fun b => ?_
  refine s_auto TY_ok rfl ?_
  refine s_regA TY_ok rfl fun K hK => ?_
  refine l_num 6 ((n / 8 : Nat) : Int) rfl (wrapB (by rw [Int.tdiv_eq_ediv_of_nonneg (by omega)]; omega) (by omega) (by omega)) ?_
  refine l_op (.a 2 (0 + 1 * (n / 8))) trivial rfl rfl rfl (runO_ixA (n / 8) rfl Tryd.underlying30 rfl rfl rfl (by omega)) ?_
  refine l_opV (.v (.int .u8 ((k[n / 8]!).toNat : Int))) trivial rfl rfl rfl (runO_ldA _ rfl rfl rfl (row_at (by omega)) Tryd.underlying5 rfl) ?_
  have hlt := (k[n / 8]!).toNat_lt
  have hb : bitT k n = (k[n / 8]!).toNat / 2 ^ (7 - n % 8) % 2 := rfl
  generalize (k[n / 8]!).toNat = v at *
  refine l_autoS TY_ok rfl ?_
  refine l_num 11 ((7 - n % 8 : Nat) : Int) rfl (wrapB (by rw [Int.tmod_eq_emod_of_nonneg (by omega)]; omega) (by omega) (by omega)) ?_
  refine l_op (.v (.int .u8 ((v / 2 ^ (7 - n % 8) : Nat) : Int))) trivial rfl rfl rfl (run_shr8 (by omega) rfl rfl rfl) ?_
  have h2 : v / 2 ^ (7 - n % 8) < 256 := Nat.lt_of_le_of_lt (Nat.div_le_self _ _) hlt
  generalize v / 2 ^ (7 - n % 8) = z at *
  refine l_op (.v (.int .u8 (bits .and .u8 (z : Int) 1))) trivial rfl rfl rfl (run_and8 rfl rfl rfl) ?_
  refine l_num 13 ((z % 2 : Nat) : Int) rfl (low1T z h2) ?_
  refine l_autoS TY_ok rfl ?_
  refine s_end (hK _ ?_)
  exact s_ret (k_ret TY_ok () rfl (by decide) rfl (congrArg (fun x : Nat => RV.v (.int .u8 (x : Int))) hb) rfl (fun _ _ _ => trivial) (fun _ _ => trivial))
theorem own_thash : Own 26 := fun _ _ => by go_simp
theorem own_tsize : Own 28 := fun _ _ => by go_simp
set_option maxRecDepth 100000 in
set_option maxHeartbeats 1000000 in
theorem tsize_S (t : TA) : Spec 28 [t.val] [] (TF t) (one (.v (.int .i64 (t.len : Int)))) := by
  refine spec_S [.c (.v t.val)] 9 Tryd.func28 rfl (by rw [Tryd.ntmps28]; rfl) (one_ok trivial) fun b => ?_
  refine s_auto TY_ok rfl ?_
  refine s_seq fun K hK => ?_
  cases t with
  | nil =>
    refine s_auto TY_ok rfl ?_
    refine s_yes rfl ?_
    refine s_auto TY_ok rfl ?_
    exact s_ret (k_ret TY_ok () rfl (by decide) rfl rfl rfl (fun _ _ _ => trivial) (fun _ _ => trivial))
  | leaf g h p =>
    refine s_auto TY_ok rfl ?_
    refine s_no rfl ?_
    refine s_skip (hK _ ?_)
    refine s_regA TY_ok rfl fun K2 hK2 => ?_
    refine l_ldO TY_ok rfl rfl rfl rfl rfl rfl (obj_fact fun _ h _ => h.1) ?_
    refine l_autoS TY_ok rfl ?_
    refine s_end (hK2 _ ?_)
    exact s_ret (k_ret TY_ok () rfl (by decide) rfl rfl rfl (fun _ _ _ => trivial) (fun _ _ => trivial))
  | node g x y =>
    refine s_auto TY_ok rfl ?_
    refine s_no rfl ?_
    refine s_skip (hK _ ?_)
    refine s_regA TY_ok rfl fun K2 hK2 => ?_
    refine l_ldO TY_ok rfl rfl rfl rfl rfl rfl (obj_fact fun _ h _ => h.1) ?_
    refine l_autoS TY_ok rfl ?_
    refine s_end (hK2 _ ?_)
    exact s_ret (k_ret TY_ok () rfl (by decide) rfl rfl rfl (fun _ _ _ => trivial) (fun _ _ => trivial))
set_option maxRecDepth 100000 in
set_option maxHeartbeats 1000000 in
theorem thash_S (t : TA) : Spec 26 [t.val] [] (TF t) (one (.q (eY 32 t.root))) := by
  refine spec_S [.c (.v t.val)] 10 Tryd.func26 rfl (by rw [Tryd.ntmps26]; rfl) (one_ok trivial) fun b => ?_
  refine s_auto TY_ok rfl ?_
  refine s_seq fun K hK => ?_
  cases t with
  | nil =>
    refine s_auto TY_ok rfl ?_
    refine s_yes rfl ?_
    refine s_auto TY_ok rfl ?_
    exact s_ret (k_ret TY_ok () rfl (by decide) rfl rfl rfl (fun _ _ _ => trivial) (fun _ _ => trivial))
  | leaf g h p =>
    refine s_auto TY_ok rfl ?_
    refine s_no rfl ?_
    refine s_skip (hK _ ?_)
    refine s_regA TY_ok rfl fun K2 hK2 => ?_
    refine l_ldO TY_ok rfl rfl rfl rfl rfl rfl (obj_fact fun _ h _ => h.1) ?_
    refine l_autoS TY_ok rfl ?_
    refine s_end (hK2 _ ?_)
    exact s_ret (k_ret TY_ok () rfl (by decide) rfl rfl rfl (fun _ _ _ => trivial) (fun _ _ => trivial))
  | node g x y =>
    refine s_auto TY_ok rfl ?_
    refine s_no rfl ?_
    refine s_skip (hK _ ?_)
    refine s_regA TY_ok rfl fun K2 hK2 => ?_
    refine l_ldO TY_ok rfl rfl rfl rfl rfl rfl (obj_fact fun _ h _ => h.1) ?_
    refine l_autoS TY_ok rfl ?_
    refine s_end (hK2 _ ?_)
    exact s_ret (k_ret TY_ok () rfl (by decide) rfl rfl rfl (fun _ _ _ => trivial) (fun _ _ => trivial))
end Go.Proofs.YtlaikmpnijlcbaaDoor
/-
  STEPS: 'clear(b)' of a slice of bytes; bytes of which the first are others; calls of closures.
-/
namespace Go.Proofs.YtlaikmpnijlcbaaDoor
open Go.RowKit Go.IntWalk

theorem setRow_same {w : World} {g t : Nat} {cs : Array Value} (h : Blk w g t cs) : w.setRow g cs = w := setRow_self w g cs t (0, 0) h

/-- The bytes from place o on are noughts. -/
def clr (z : List UInt8) (o : Nat) : List UInt8 := z.take o ++ List.replicate (z.length - o) 0
theorem clr_len {z : List UInt8} {o : Nat} (h : o ≤ z.length) : (clr z o).length = z.length := by
  simp [clr]
  omega
theorem wpl_clear {ops : Array Oper} {rest : List Oper} {op : Oper} {a : Act} {w : World} {Q : Exit → Act → World → Prop} (x : Operand) (hgd : op.guard = none) (ho : op.op = .call { callee := .builtin .clear, args := #[x], argTypes := #[45] })
    (g o n c : Nat) (A : Option Addr) (hx : a.eval x = .slice A n c) (hA : 0 < n → A = some ⟨g, o, none⟩) (z : List UInt8) (t : Nat) (hz : Blk w g t (By z).toArray) (hn : o + n = z.length)
    (z' : List UInt8) (hz' : Hid (clr z o = z')) (h : wpList Tryd.prog ops Q rest (a.put op.dst (.tuple #[])) (w.setRow g (By z').toArray)) : wpList Tryd.prog ops Q (op :: rest) a w := by
  rw [← hz'.out] at h
  refine wpList_plain hgd fun K hK => ?_
  have hrun : (Builtin.clear_ #[45] op.type #[.slice A n c]).run Tryd.prog w = .ok (.tuple #[]) (w.setRow g (By (clr z o)).toArray) := by
    by_cases h0 : n = 0
    · subst h0
      have e : clr z o = z := by
        unfold clr
        rw [← hn, Nat.add_zero, Nat.sub_self, List.replicate_zero, List.append_nil, List.take_of_length_le (by omega)]
      rw [e, setRow_same hz]
      have hu := Tryd.underlying45
      cases A <;> simp [Builtin.clear_, run_underlying hu]
    · obtain rfl := hA (by omega)
      have hst := run_storeCells_at (P := Tryd.prog) g o t (List.replicate n (.int .u8 0)) 0 (By z).toArray w hz (by rw [List.length_replicate, List.size_toArray, By_len]; omega) (by intro v hv; rw [List.eq_of_mem_replicate hv]; rfl)
      have e : ((By z).toArray.toList.take (o + 0) ++ List.replicate n (.int .u8 0) ++ (By z).toArray.toList.drop (o + 0 + (List.replicate n (Value.int .u8 0)).length)) = By (clr z o) := by
        have hd : (By z).drop (o + n) = [] := List.drop_eq_nil_of_le (by rw [By_len]; omega)
        simp only [List.length_replicate, Nat.add_zero, hd, List.append_nil]
        unfold clr
        rw [By_app, ← hn, Nat.add_sub_cancel_left]
        simp [By]
      rw [e] at hst
      have hzc : (Builtin.zeroCells #[.int .u8 0] n).toList = List.replicate n (.int .u8 0) := by
        simp [Builtin.zeroCells]
        apply List.ext_getElem
        · simp
        · intro i h1 h2
          simp [Nat.mod_one]
      obtain ⟨m, rfl⟩ : ∃ m, n = m + 1 := ⟨n - 1, by omega⟩
      have hu := Tryd.underlying45
      simp [Builtin.clear_, run_underlying hu, Value.cells, hzc, hst]
  unfold Oper.wp
  simp [execOp, ho, resolve, invoke, builtin, hx, hrun, Result.andThen]
  exact hK _ _ h
end Go.Proofs.YtlaikmpnijlcbaaDoor
/-
  THE DIGESTS: what a full block does (the function that Sum512 hands over), and the message's end.
-/
namespace Go.Proofs.YtlaikmpnijlcbaaDoor
open Go.RowKit Go.IntWalk Nums

theorem Ts.belowB {B : Nat} {w w' : World} (h : Ts w) (hb : Below B w w') (hB : 1 < B) : Ts w' :=
  ⟨fun i hi => (hb.cell (p := ⟨1, i, none⟩) hB).trans (h.cell i hi), Nat.lt_of_lt_of_le h.lt hb.size⟩

/-! ### The message's end -/
theorem be64_len (v : Nat) : (be64 v).length = 8 := by
  unfold be64
  rw [List.length_reverse, bytes_len]
theorem be64_mod (v : Nat) : be64 (v % 18446744073709551616) = be64 v := by
  unfold be64
  congr 1
  refine le_inj (by rw [bytes_len, bytes_len]) ?_
  rw [le_bytes, le_bytes]
  exact Nat.mod_mod _ _
theorem be64_get {v i : Nat} (h : i < 8) : ((be64 v)[7 - i]!).toNat = v / 256 ^ i % 256 := by
  have hl : (Nums.bytes 8 v).length = 8 := bytes_len _ _
  have e : (be64 v)[7 - i]! = (Nums.bytes 8 v)[i]! := by
    unfold be64
    rw [getElem!_pos _ _ (by rw [List.length_reverse, hl]; omega), List.getElem_reverse, getElem!_pos _ i (by rw [hl]; exact h)]
    congr 1
    rw [hl]
    omega
  rw [e, bytes_get _ _ h]
/-- Of eight bytes the last i are there. -/
def eig (c e : List UInt8) (n i : Nat) : List UInt8 := c.take (n - i) ++ e.drop (8 - i)
theorem eig_len {c e : List UInt8} {n i : Nat} (hc : c.length = n) (he : e.length = 8) (hi : i ≤ 8) (hn : 8 ≤ n) : (eig c e n i).length = n := by
  unfold eig
  rw [List.length_append, List.length_take, List.length_drop]
  omega
theorem eig_zero {c e : List UInt8} {n : Nat} (hc : c.length = n) (he : e.length = 8) : eig c e n 0 = c := by
  unfold eig
  rw [List.take_of_length_le (by omega), List.drop_of_length_le (by omega), List.append_nil]
theorem eig_set {c e : List UInt8} {n i : Nat} (hc : c.length = n) (he : e.length = 8) (hi : i < 8) (hn : 8 ≤ n) : (eig c e n i).set (n - 1 - i) e[7 - i]! = eig c e n (i + 1) := by
  unfold eig
  have h1 : c.take (n - i) = c.take (n - (i + 1)) ++ [c[n - (i + 1)]!] := by
    rw [show n - i = n - (i + 1) + 1 by omega, List.take_succ_eq_append_getElem (by omega), getElem!_pos c _ (by omega)]
  have h2 : e.drop (8 - (i + 1)) = e[7 - i]! :: e.drop (8 - i) := by
    rw [List.drop_eq_getElem_cons (by omega), getElem!_pos e _ (by omega)]
    congr 1
    · congr 1
      omega
    · congr 1
      omega
  have hl : (c.take (n - (i + 1))).length = n - (i + 1) := by rw [List.length_take]; omega
  rw [h1, h2, List.append_assoc, List.set_append_right _ _ (by omega), hl, show n - 1 - i - (n - (i + 1)) = 0 by omega]
  rfl

/-- The last block when the message's bytes and the bit behind them are there. -/
theorem clr_set {b : List UInt8} {n r : Nat} (hb : b.length = n) (hr : r < n) : clr (b.set r 128) (r + 1) = b.take r ++ 128 :: List.replicate (n - 1 - r) 0 := by
  unfold clr
  rw [List.length_set, hb]
  have h1 : (b.set r 128).take (r + 1) = b.take r ++ [128] := by
    rw [List.take_succ_eq_append_getElem (by rw [List.length_set]; omega), List.getElem_set_self, List.take_set_of_le (Nat.le_refl r)]
  rw [h1, List.append_assoc, show n - (r + 1) = n - 1 - r by omega]
  rfl
theorem clr_all (c : List UInt8) : clr c 0 = List.replicate c.length 0 := by
  unfold clr
  simp
theorem end_one {s : Sha} {b : List UInt8} {n r v : Nat} {o : Oct} (hn : 64 ≤ n) (hb : b.length = n) (hr : r < n) (h : r + 1 ≤ n - n / 8) :
    turnw s o (eig (b.take r ++ 128 :: List.replicate (n - 1 - r) 0) (be64 v) n 8) = runw s n o (b.take r ++ tailw n r v) := by
  have h8 : n / 8 * 8 ≤ n := Nat.div_mul_le_self n 8
  have h9 : 2 ≤ n / 8 := by omega
  have e : eig (b.take r ++ 128 :: List.replicate (n - 1 - r) 0) (be64 v) n 8 = b.take r ++ tailw n r v := by
    unfold eig tailw
    have hl : (b.take r).length = r := by rw [List.length_take]; omega
    rw [if_pos h, List.take_append, hl, List.take_of_length_le (by omega), List.append_assoc, Nat.sub_self, List.drop_zero]
    congr 1
    rw [show n - 8 - r = (n - 9 - r) + 1 by omega, List.take_succ_cons, List.take_replicate, Nat.min_eq_left (by omega), List.cons_append]
  rw [e]
  have hl : (b.take r ++ tailw n r v).length = n := by
    rw [← e, eig_len (by rw [List.length_append, List.length_take, List.length_cons, List.length_replicate]; omega) (be64_len _) (Nat.le_refl _) (by omega)]
  have h0 := runw_block (s := s) (B := n) (o := o) (b := b.take r ++ tailw n r v) (l := []) (by omega) hl
  rw [List.append_nil] at h0
  rw [h0, runw_short (by simp only [List.length_nil]; omega)]
theorem end_two {s : Sha} {b : List UInt8} {n r v : Nat} {o : Oct} (hn : 64 ≤ n) (hb : b.length = n) (hr : r < n) (h : ¬ r + 1 ≤ n - n / 8) :
    turnw s (turnw s o (b.take r ++ 128 :: List.replicate (n - 1 - r) 0)) (eig (List.replicate n 0) (be64 v) n 8) = runw s n o (b.take r ++ tailw n r v) := by
  have hl1 : (b.take r ++ 128 :: List.replicate (n - 1 - r) 0).length = n := by
    rw [List.length_append, List.length_take, List.length_cons, List.length_replicate]
    omega
  have hl2 : (eig (List.replicate n 0) (be64 v) n 8).length = n := eig_len (List.length_replicate) (be64_len _) (Nat.le_refl _) (by omega)
  have e : b.take r ++ tailw n r v = (b.take r ++ 128 :: List.replicate (n - 1 - r) 0) ++ eig (List.replicate n 0) (be64 v) n 8 := by
    unfold tailw eig
    rw [if_neg h, List.append_assoc, List.cons_append, Nat.sub_self, List.drop_zero, List.take_replicate, Nat.min_eq_left (by omega), ← List.append_assoc (List.replicate _ 0), List.replicate_append_replicate]
    congr 4
    omega
  have h0 := runw_block (s := s) (B := n) (o := turnw s o (b.take r ++ 128 :: List.replicate (n - 1 - r) 0)) (b := eig (List.replicate n 0) (be64 v) n 8) (l := []) (by omega) hl2
  rw [List.append_nil] at h0
  rw [e, runw_block (by omega) hl1, h0, runw_short (by simp only [List.length_nil]; omega)]
end Go.Proofs.YtlaikmpnijlcbaaDoor
/-
  THE DIGESTS: end: the message's end.
-/
namespace Go.Proofs.YtlaikmpnijlcbaaDoor
open Go.RowKit Go.IntWalk Nums

end Go.Proofs.YtlaikmpnijlcbaaDoor
/-
  THE DIGESTS: fill: the parts' bytes, block by block; Sum512.
-/
namespace Nums
/-- More of the message, and the block isn't full. -/
theorem cop_take {t r b : List UInt8} {n : Nat} (ht : b.take t.length = t) : (Go.Proofs.YtlaikmpnijlcbaaDoor.cop b t.length (r.take (n - t.length))).take (t.length + min r.length (n - t.length)) = t ++ r.take (n - t.length) := by
  unfold Go.Proofs.YtlaikmpnijlcbaaDoor.cop
  rw [ht, ← List.append_assoc]
  have hl : (t ++ r.take (n - t.length)).length = t.length + min r.length (n - t.length) := by
    rw [List.length_append, List.length_take, Nat.min_comm]
  rw [← hl, List.take_left]
/-- A block is full. -/
theorem run_full {s : Sha} {n k : Nat} {o : Oct} {a z : List UInt8} (hn : 0 < n) (ha : a.length = k * n) (hz : z.length = n) : turnw s (runw s n o a) z = runw s n o (a ++ z) := by
  rw [runw_append hn k ha]
  have h := runw_block (s := s) (B := n) (o := runw s n o a) (b := z) (l := []) hn hz
  rw [List.append_nil] at h
  have h2 := runw_short (s := s) (B := n) (o := turnw s (runw s n o a) z) (l := []) (by simpa using hn)
  rw [h, h2]
/-- The end. -/
theorem run_end {s : Sha} {n k : Nat} {o : Oct} {a t x : List UInt8} (hn : 0 < n) (ha : a.length = k * n) : runw s n (runw s n o a) (t ++ x) = runw s n o ((a ++ t) ++ x) := by
  rw [List.append_assoc, runw_append hn k ha]
theorem tailw_mod (n r v : Nat) : tailw n r (8 * (v % 18446744073709551616)) = tailw n r (8 * v) := by
  unfold tailw
  have e : be64 (8 * (v % 18446744073709551616)) = be64 (8 * v) := by
    have h1 := Go.Proofs.YtlaikmpnijlcbaaDoor.be64_mod (8 * (v % 18446744073709551616))
    have h2 := Go.Proofs.YtlaikmpnijlcbaaDoor.be64_mod (8 * v)
    rw [← h1, ← h2]
    congr 1
    omega
  rw [e]
end Nums
namespace Go.Proofs.YtlaikmpnijlcbaaDoor
open Go.RowKit Go.IntWalk Nums

def lenv : Value → Nat
  | .slice _ n _ => n
  | _ => 0

theorem flat_take (ls : List (List UInt8)) (k : Nat) (h : k < ls.length) : (ls.take (k + 1)).flatten = (ls.take k).flatten ++ ls[k] := by
  rw [List.take_succ_eq_append_getElem h, List.flatten_append, List.flatten_cons, List.flatten_nil, List.append_nil]

end Go.Proofs.YtlaikmpnijlcbaaDoor
/-
  THE DIGESTS: Sum512.
-/
namespace Go.Proofs.YtlaikmpnijlcbaaDoor
open Go.RowKit Go.IntWalk Nums

/-- Both tables lie where they lay. -/
structure Tsh (w : World) : Prop where
  steps : Ts w
  cell : ∀ i, i < 8 → w.cell? ⟨0, i, none⟩ = some (.int .u64 (sqs[i]! : Nat))
  lt : 0 < w.heap.size
theorem Tsh.below {w w' : World} (h : Tsh w) (hb : Below w.heap.size w w') : Tsh w' :=
  ⟨h.steps.below hb, fun i hi => (hb.cell (p := ⟨0, i, none⟩) h.lt).trans (h.cell i hi), Nat.lt_of_lt_of_le h.lt hb.size⟩
theorem Tsh.range {w : World} (h : Tsh w) : w.rangeAt 0 0 (Us sqs) := fun j v hv => by
  rw [Nat.zero_add]
  have hj : j < 8 := by
    have := (List.getElem?_eq_some_iff.1 hv).1
    rw [Us_len] at this
    exact this
  rw [h.cell j hj]
  have h1 : (Us sqs).toArray[j]? = some (.int .u64 (sqs[j]! : Nat)) := Us_at (show j < sqs.length from hj)
  rw [← h1]
  simpa using hv
end Go.Proofs.YtlaikmpnijlcbaaDoor
/-
  THE DIGESTS: the library's RotateLeft32, by a negative number.
-/
namespace Go.Proofs.YtlaikmpnijlcbaaDoor
open Go.RowKit Go.IntWalk Nums

theorem u32_or (a b : Nat) (ha : a < 4294967296) (hb : b < 4294967296) : bits .or .u32 (a : Int) (b : Int) = ((a ||| b : Nat) : Int) := u32_or_nat a b ha hb
set_option maxRecDepth 100000 in
set_option maxHeartbeats 1000000 in
theorem rot32_f (x n : Nat) (hx : x < 4294967296) (h0 : 0 < n) (hn : n < 32) (w : World) :
    Calls Tryd.prog 43 #[.int .u32 (x : Int), .int .i64 (-(n : Int))] w fun e w' => e = .returned (.int .u32 ((rotw 32 n x : Nat) : Int)) ∧ w' = w := by
  have q1 : IntKind.u64.wrap (-(n : Int)) = ((18446744073709551616 - n : Nat) : Int) := by
    rw [IntKind.wrap_u64]
    omega
  have q2 : bits .and .u64 ((18446744073709551616 - n : Nat) : Int) 31 = ((32 - n : Nat) : Int) := by
    have h := u64_and_nat (18446744073709551616 - n) 31 (by omega) (by omega)
    have e : (18446744073709551616 - n) &&& 31 = (18446744073709551616 - n) % 32 := Nat.and_two_pow_sub_one_eq_mod _ 5
    rw [e] at h
    have e2 : (18446744073709551616 - n) % 32 = 32 - n := by omega
    rw [e2] at h
    exact h
  obtain ⟨e1, e2⟩ := rot_or 32 n x (by omega) hx
  have q3 : IntKind.u32.wrap ((x : Int) * 2 ^ (32 - n)) = ((x % 2 ^ n * 2 ^ (32 - n) : Nat) : Int) := by
    rw [← e1, IntKind.wrap_u32]
    simp
  have q4 : IntKind.u64.wrap (32 - ((32 - n : Nat) : Int)) = (n : Int) := by
    rw [IntKind.wrap_u64]
    omega
  have f1 : ((x : Int) / 2 ^ n) = ((x / 2 ^ n : Nat) : Int) := by simp
  have hm : x % 2 ^ n * 2 ^ (32 - n) < 4294967296 := by
    rw [← e1]
    exact Nat.mod_lt _ (by decide)
  have hd : x / 2 ^ n < 4294967296 := Nat.lt_of_le_of_lt (Nat.div_le_self _ _) hx
  have q5 : bits .or .u32 ((x % 2 ^ n * 2 ^ (32 - n) : Nat) : Int) ((x / 2 ^ n : Nat) : Int) = ((rotw 32 n x : Nat) : Int) := by
    rw [u32_or _ _ hm hd, nat_join (32 - n) _ _ (Nat.mul_mod_left _ _) e2]
    unfold rotw
    rw [Nat.add_comm]
  have g1 : ((32 - n : Nat) : Int) ≤ 32 := by omega
  have g2 : (n : Int) ≤ 32 := by omega
  clear e1 e2 hm hd
  generalize rotw 32 n x = r at *
  generalize x % 2 ^ n * 2 ^ (32 - n) = m at *
  generalize x / 2 ^ n = d at *
  generalize hs : 32 - n = s at *
  generalize 18446744073709551616 - n = u at *
  clear hs
  go_enter Tryd.func43, Tryd.ntmps43
  go_wp2
  go_ret
  exact ⟨rfl, rfl⟩
end Go.Proofs.YtlaikmpnijlcbaaDoor
/-
  WORDS OF 32 BITS: rows of words.
-/
namespace Go.Proofs.YtlaikmpnijlcbaaDoor
open Go.RowKit Go.IntWalk Nums

/-- Words of 32 bits as the cells of a row. -/
def Uw (l : List Nat) : List Value := l.map fun x : Nat => .int .u32 (x : Int)
theorem Uw_len (l : List Nat) : (Uw l).length = l.length := by simp [Uw]
theorem Uw_one (l : List Nat) : ∀ u ∈ Uw l, u.oneCell' = true := by
  intro u hu
  obtain ⟨x, _, rfl⟩ := List.mem_map.1 hu
  rfl
theorem Uw_at {l : List Nat} {j : Nat} (h : j < l.length) : (Uw l).toArray[j]? = some (.int .u32 (l[j]! : Nat)) := by
  simp [Uw, h]
theorem Uw_set (l : List Nat) (k x : Nat) : (Uw l).toArray.setIfInBounds k (.int .u32 (x : Int)) = (Uw (l.set k x)).toArray := by
  simp [Uw, List.map_set]
theorem orV (i x y : Nat) (hx : x % 2 ^ i = 0) (hy : y < 2 ^ i) (h1 : x < 4294967296) (h2 : y < 4294967296) : bits .or .u32 (x : Int) (y : Int) = ((x + y : Nat) : Int) := by
  rw [u32_or_nat x y h1 h2, nat_join i x y hx hy]
theorem not32 {e : Nat} (he : e < 4294967296) : bits .xor .u32 (if IntKind.u32.signed = true then -1 else IntKind.u32.max) (e : Int) = ((2 ^ 32 - 1 - e : Nat) : Int) := by
  have h := u32_xor_nat 4294967295 e (by omega) he
  have h2 : 4294967295 ^^^ e = 2 ^ 32 - 1 - e := by
    apply Nat.eq_of_testBit_eq
    intro i
    rw [show 2 ^ 32 - 1 - e = 2 ^ 32 - (e + 1) by omega, Nat.testBit_two_pow_sub_succ he, Nat.testBit_xor, show 4294967295 = 2 ^ 32 - 1 from rfl, Nat.testBit_two_pow_sub_one]
    by_cases hi : i < 32
    · simp [hi]
    · have h3 : e.testBit i = false := Nat.testBit_lt_two_pow (Nat.lt_of_lt_of_le he (Nat.pow_le_pow_right (n := 2) (by decide) (show 32 ≤ i by omega)))
      simp [hi, h3]
  rw [h2] at h
  exact h
end Go.Proofs.YtlaikmpnijlcbaaDoor
/-
  THE DIGESTS: long256: a block's words, and those that are made of them.
-/
namespace Go.Proofs.YtlaikmpnijlcbaaDoor
open Go.RowKit Go.IntWalk Nums

theorem size_x64 (cs : Array Value) (h : cs.size = 64) : (Tryd.prog.info? 86).map (·.size) = some cs.size := by
  rw [h]
  kernel_rfl
def z64w : List Nat := List.replicate 64 0
theorem z64w_len : z64w.length = 64 := by decide
theorem z64w_get (k : Nat) : z64w[k]! = 0 := by
  unfold z64w
  by_cases h : k < 64
  · rw [getElem!_pos _ k (by rw [List.length_replicate]; exact h), List.getElem_replicate]
  · rw [getElem!_neg _ k (by rw [List.length_replicate]; exact h)]
    rfl
theorem zx64 : (Tryd.prog.info? 86).bind (fun i => i.zero.map (·.cells)) = some (Uw z64w).toArray := by kernel_rfl
theorem set_zero2 {F : Nat → Nat} {k : Nat} : (mxl F z64w k).set k 0 = mxl F z64w k := by
  apply List.ext_getElem (by simp)
  intro i h1 h2
  rw [List.getElem_set]
  by_cases h : k = i
  · subst h
    have h3 : k < 64 := by simpa [mxl_len, z64w_len] using h2
    rw [if_pos rfl]
    have := mxl_get F z64w (k := k) (by rw [z64w_len]; exact h3)
    rw [getElem!_pos _ k h2, z64w_get] at this
    exact this.symm
  · rw [if_neg h]

/-- What long256's rows lie in. -/
structure LS2 (w wr : World) (b : List UInt8) (l : List Nat) : Prop where
  b0 : Blk wr w.heap.size 73 (By b).toArray
  b1 : Blk wr (w.heap.size + 1) 86 (Uw z64w).toArray
  b2 : Blk wr (w.heap.size + 1 + 1) 86 (Uw l).toArray
  be : Below w.heap.size w wr
theorem LS2.set {w wr : World} {b : List UInt8} {l : List Nat} (h : LS2 w wr b l) (k x : Nat) : LS2 w (wr.setCell ⟨w.heap.size + 1 + 1, k, none⟩ (.int .u32 (x : Int))) b (l.set k x) where
  b0 := h.b0.far (by show w.heap.size ≠ w.heap.size + 1 + 1; omega) _
  b1 := h.b1.far (by show w.heap.size + 1 ≠ w.heap.size + 1 + 1; omega) _
  b2 := by
    have h4 := h.b2.set k (.int .u32 (x : Int))
    rw [Uw_set] at h4
    exact h4
  be := h.be.setCell (by show w.heap.size ≤ w.heap.size + 1 + 1; omega) _
theorem LS2.drew {w wr : World} {b : List UInt8} {l : List Nat} (h : LS2 w wr b l) : LS2 w wr.drew b l := ⟨h.b0, h.b1, h.b2, h.be.drew⟩

set_option maxRecDepth 100000 in
set_option maxHeartbeats 4000000 in
theorem long256_f {b : List UInt8} (hb : b.length = 64) (w : World) :
    Calls Tryd.prog 42 #[.agg (By b).toArray] w fun e w' => e = .returned (.agg (Uw (mxl (sx s256 b) z64w 64)).toArray) ∧ Below w.heap.size w w' := by
  have hlt := sx_lt s256 b (by decide)
  have h16 : ∀ t, t < 16 → sx s256 b t = ben (fun k => (b[4 * t + k]!).toNat) 4 := fun t ht => by
    rw [sx, dif_pos ht]
    unfold bword
    rw [Nat.mul_comm t]
    rfl
  have hrec : ∀ t, 16 ≤ t → sx s256 b t = (loww 32 (17, 19, 10) (sx s256 b (t - 2)) + sx s256 b (t - 7) + loww 32 (7, 18, 3) (sx s256 b (t - 15)) + sx s256 b (t - 16)) % 4294967296 := fun t ht => by
    rw [sx, dif_neg (by omega)]
    rfl
  have hl0 := mxl_zero (sx s256 b) z64w
  generalize sx s256 b = F at *
  go_enter Tryd.func42, Tryd.ntmps42
  refine wp_seq_k fun K hK => ?_
  refine wp_region_lit ?_
  refine wpl_box (By b).toArray rfl rfl rfl ?_
  refine wpl_alloc (zs := (Uw z64w).toArray) rfl rfl zx64 ?_
  refine wpl_nil ?_
  go_simp
  refine hK _ _ ?_
  clear hK K
  refine wp_seq_k fun K hK => ?_
  refine wp_region_lit ?_
  refine wpl_alloc (zs := (Uw z64w).toArray) rfl rfl zx64 ?_
  refine wpl_nil ?_
  go_simp
  refine hK _ _ ?_
  clear hK K
  refine wp_at (fun W => LS2 w W b z64w) ⟨blk3_0 w _ _ _ _, blk3_1 w _ _ _ _, blk3_2 w _ _ _ _, (((Below.refl _ _).alloc (Nat.le_refl _) _).alloc (by simp) _).alloc (by simp; omega) _⟩ ?_
  intro W hW
  have HW := Lib.hid hW
  clear hW
  go_wp2
  go_loopw [11] (fun i wr => ∃ t : Nat, t ≤ 16 ∧ i = .int .i64 t ∧ LS2 w wr b (mxl F z64w t)) (fun i _ => 16 - (intOf i).toNat)
  case atStart =>
    refine ⟨0, by omega, rfl, ?_⟩
    rw [hl0]
    exact HW.out
  case round =>
    clear HW
    obtain ⟨t, ht, rfl, hS⟩ := hrel
    by_cases htl : t < 16
    · have hF := h16 t htl
      have hset := mxl_set F z64w (k := t)
      have hz := set_zero2 (F := F) (k := t)
      have qA : IntKind.i64.wrap (4 * (t : Int)) = ((4 * t : Nat) : Int) := by rw [i64_left, wrap64_in _ (by omega)]; omega
      have qB : IntKind.i64.wrap (((4 * t : Nat) : Int) + 4) = ((4 * t + 4 : Nat) : Int) := by rw [i64_left, wrap64_in _ (by omega)]; omega
      have g1 : ((4 * t + 4 : Nat) : Int) ≤ 64 := by omega
      have g2 : ((4 * t : Nat) : Int) ≤ ((4 * t + 4 : Nat) : Int) := by omega
      have g3 : (0 : Int) ≤ ((4 * t : Nat) : Int) := by omega
      have g4 : (0 : Int) ≤ (t : Int) := by omega
      have hN := hS.set t (F t)
      rw [hset] at hN
      have hd : 4 * t + 4 - 4 * t = 4 := by omega
      have hA60 : 4 * t ≤ 60 := by omega
      generalize hA8 : 4 * t + 4 = A8 at *
      generalize hA : 4 * t = A at *
      have c0 := (hS.drew.b0.cell A).trans (By_get (by omega))
      have c1 := (hS.drew.b0.cell (A + 1)).trans (By_get (by omega))
      have c2 := (hS.drew.b0.cell (A + 2)).trans (By_get (by omega))
      have c3 := (hS.drew.b0.cell (A + 3)).trans (By_get (by omega))
      have f1 := (hS.drew.b2.cell t).trans (Uw_at (by rw [mxl_len, z64w_len]; omega))
      have f2 := hS.drew.b2.free t
      have hF2 : F t = (b[A]!).toNat * 16777216 + (b[A + 1]!).toNat * 65536 + (b[A + 2]!).toNat * 256 + (b[A + 3]!).toNat := by
        rw [hF]
        show ((((0 * 256 + (b[A + 0]!).toNat) * 256 + (b[A + 1]!).toNat) * 256 + (b[A + 2]!).toNat) * 256 + (b[A + 3]!).toNat) = _
        rw [Nat.add_zero]
        omega
      have l0 := (b[A]!).toNat_lt
      have l1 := (b[A + 1]!).toNat_lt
      have l2 := (b[A + 2]!).toNat_lt
      have l3 := (b[A + 3]!).toNat_lt
      generalize (b[A]!).toNat = x0 at *
      generalize (b[A + 1]!).toNat = x1 at *
      generalize (b[A + 2]!).toNat = x2 at *
      generalize (b[A + 3]!).toNat = x3 at *
      obtain ⟨y0, hy0⟩ : ∃ y, y = x0 * 16777216 := ⟨_, rfl⟩
      obtain ⟨y1, hy1⟩ : ∃ y, y = x1 * 65536 := ⟨_, rfl⟩
      obtain ⟨y4, hy4⟩ : ∃ y, y = x2 * 256 := ⟨_, rfl⟩
      obtain ⟨y2, hy2⟩ : ∃ y, y = y0 + y1 := ⟨_, rfl⟩
      obtain ⟨y3, hy3⟩ : ∃ y, y = y2 + y4 := ⟨_, rfl⟩
      have w0 : IntKind.u32.wrap ((x0 : Int) * 16777216) = (y0 : Int) := by rw [IntKind.wrap_u32]; omega
      have w1 : IntKind.u32.wrap ((x1 : Int) * 65536) = (y1 : Int) := by rw [IntKind.wrap_u32]; omega
      have w2 : IntKind.u32.wrap ((x2 : Int) * 256) = (y4 : Int) := by rw [IntKind.wrap_u32]; omega
      have w3 : IntKind.u32.wrap (x0 : Int) = (x0 : Int) := by rw [IntKind.wrap_u32]; omega
      have w4 : IntKind.u32.wrap (x1 : Int) = (x1 : Int) := by rw [IntKind.wrap_u32]; omega
      have w5 : IntKind.u32.wrap (x2 : Int) = (x2 : Int) := by rw [IntKind.wrap_u32]; omega
      have w6 : IntKind.u32.wrap (x3 : Int) = (x3 : Int) := by rw [IntKind.wrap_u32]; omega
      have o1 := orV 24 y0 y1 (by omega) (by omega) (by omega) (by omega)
      have o2 := orV 16 y2 y4 (by omega) (by omega) (by omega) (by omega)
      have o3 := orV 8 y3 x3 (by omega) (by omega) (by omega) (by omega)
      have hF3 : F t = y3 + x3 := by omega
      rw [← hF3] at o3
      rw [← hy2] at o1
      rw [← hy3] at o2
      have HN := Lib.hid hN
      clear hS hN hA8 h16 hrec hF hset hz hF2 hF3 hy0 hy1 hy2 hy3 hy4
      generalize F t = z at *
      generalize (mxl F z64w t)[t]! = old at *
      go_wp2
      go_region
      go_wp2
      go_roundw
      case rel => exact ⟨t + 1, by omega, by go_num, HN.out.drew⟩
      case measure => simp [intOf]; omega
    · obtain rfl : t = 16 := by omega
      have HS := Lib.hid hS
      clear hS
      rw [show ((16 : Nat) : Int) = (16 : Int) from rfl]
      go_wp2
      go_loopw [6] (fun i wr => ∃ t : Nat, 16 ≤ t ∧ t ≤ 64 ∧ i = .int .i64 t ∧ LS2 w wr b (mxl F z64w t)) (fun i _ => 64 - (intOf i).toNat)
      case atStart => exact ⟨16, by omega, by omega, rfl, HS.out⟩
      case round =>
        clear HS
        obtain ⟨t, h16t, ht, rfl, hS⟩ := hrel
        by_cases htl : t < 64
        · have hF := hrec t h16t
          have hN := hS.drew.set t (F t)
          rw [mxl_set] at hN
          have k2 := (hS.b2.cell (t - 2)).trans (Uw_at (by rw [mxl_len, z64w_len]; omega))
          have k7 := (hS.drew.drew.b2.cell (t - 7)).trans (Uw_at (by rw [mxl_len, z64w_len]; omega))
          have k15 := (hS.b2.cell (t - 15)).trans (Uw_at (by rw [mxl_len, z64w_len]; omega))
          have k16 := (hS.drew.drew.b2.cell (t - 16)).trans (Uw_at (by rw [mxl_len, z64w_len]; omega))
          rw [mxl_in (by omega) (by rw [z64w_len]; omega)] at k2 k7 k15 k16
          have kf := hS.drew.drew.b2.free t
          have kt := (hS.drew.drew.b2.cell t).trans (Uw_at (by rw [mxl_len, z64w_len]; omega))
          have x2 : F (t - 2) < 4294967296 := hlt (t - 2)
          have x7 : F (t - 7) < 4294967296 := hlt (t - 7)
          have x15 : F (t - 15) < 4294967296 := hlt (t - 15)
          have x16 : F (t - 16) < 4294967296 := hlt (t - 16)
          have i2 : IntKind.i64.wrap ((t : Int) - 2) = ((t - 2 : Nat) : Int) := by rw [i64_left, wrap64_in _ (by omega)]; omega
          have i7 : IntKind.i64.wrap ((t : Int) - 7) = ((t - 7 : Nat) : Int) := by rw [i64_left, wrap64_in _ (by omega)]; omega
          have i15 : IntKind.i64.wrap ((t : Int) - 15) = ((t - 15 : Nat) : Int) := by rw [i64_left, wrap64_in _ (by omega)]; omega
          have i16 : IntKind.i64.wrap ((t : Int) - 16) = ((t - 16 : Nat) : Int) := by rw [i64_left, wrap64_in _ (by omega)]; omega
          have j2 : ((t - 2 : Nat) : Int) < 64 := by omega
          have j7 : ((t - 7 : Nat) : Int) < 64 := by omega
          have j15 : ((t - 15 : Nat) : Int) < 64 := by omega
          have j16 : ((t - 16 : Nat) : Int) < 64 := by omega
          generalize (mxl F z64w t)[t]! = old at *
          generalize F (t - 2) = x at *
          generalize F (t - 7) = p at *
          generalize F (t - 15) = y at *
          generalize F (t - 16) = q at *
          generalize t - 2 = a2 at *
          generalize t - 7 = a7 at *
          generalize t - 15 = a15 at *
          generalize t - 16 = a16 at *
          have b1 := rotw_lt (w := 32) (n := 17) (x := x) (by decide) x2
          have b2 := rotw_lt (w := 32) (n := 19) (x := x) (by decide) x2
          have b3 := rotw_lt (w := 32) (n := 7) (x := y) (by decide) x15
          have b4 := rotw_lt (w := 32) (n := 18) (x := y) (by decide) x15
          have R1 := fun w1 => Lib.hid (rot32_f x 17 x2 (by decide) (by decide) w1)
          have R2 := fun w1 => Lib.hid (rot32_f x 19 x2 (by decide) (by decide) w1)
          have R3 := fun w1 => Lib.hid (rot32_f y 7 x15 (by decide) (by decide) w1)
          have R4 := fun w1 => Lib.hid (rot32_f y 18 x15 (by decide) (by decide) w1)
          have s1 : loww 32 (17, 19, 10) x = rotw 32 17 x ^^^ rotw 32 19 x ^^^ x / 1024 := rfl
          have s0 : loww 32 (7, 18, 3) y = rotw 32 7 y ^^^ rotw 32 18 y ^^^ y / 8 := rfl
          rw [s1, s0] at hF
          generalize rotw 32 17 x = r1 at *
          generalize rotw 32 19 x = r2 at *
          generalize rotw 32 7 y = r3 at *
          generalize rotw 32 18 y = r4 at *
          have d6 : (x : Int) / 1024 = ((x / 1024 : Nat) : Int) := by omega
          have d7 : (y : Int) / 8 = ((y / 8 : Nat) : Int) := by omega
          have hd6 : x / 1024 < 4294967296 := by omega
          have hd7 : y / 8 < 4294967296 := by omega
          generalize x / 1024 = u6 at *
          generalize y / 8 = u7 at *
          have o1 := u32_xor_nat r1 r2 b1 b2
          have o2 := u32_xor_nat (r1 ^^^ r2) u6 (xor_lt b1 b2) hd6
          have o3 := u32_xor_nat r3 r4 b3 b4
          have o4 := u32_xor_nat (r3 ^^^ r4) u7 (xor_lt b3 b4) hd7
          have c1 := xor_lt (xor_lt b1 b2) hd6
          have c0 := xor_lt (xor_lt b3 b4) hd7
          generalize r1 ^^^ r2 ^^^ u6 = v1 at *
          generalize r3 ^^^ r4 ^^^ u7 = v0 at *
          generalize r1 ^^^ r2 = v2 at *
          generalize r3 ^^^ r4 = v3 at *
          have w1 : IntKind.u32.wrap ((v1 : Int) + (p : Int)) = (((v1 + p) % 4294967296 : Nat) : Int) := by rw [IntKind.wrap_u32]; omega
          have w2 : IntKind.u32.wrap ((((v1 + p) % 4294967296 : Nat) : Int) + (v0 : Int)) = ((((v1 + p) % 4294967296 + v0) % 4294967296 : Nat) : Int) := by rw [IntKind.wrap_u32]; omega
          have w3 : IntKind.u32.wrap (((((v1 + p) % 4294967296 + v0) % 4294967296 : Nat) : Int) + (q : Int)) = ((F t : Nat) : Int) := by rw [hF, IntKind.wrap_u32]; omega
          have HN := Lib.hid hN
          clear hS hN hF s1 s0 b1 b2 b3 b4 hd6 hd7 c1 c0
          generalize ((v1 + p) % 4294967296 + v0) % 4294967296 = v5 at *
          generalize (v1 + p) % 4294967296 = v4 at *
          generalize F t = z at *
          go_wp2
          go_region
          clear k2 k15
          generalize wr.drew = W2 at *
          go_wp2_with (fail)
          refine (R1 _).out.mono ?_
          rintro e w4 ⟨rfl, rfl⟩
          go_wp2_with (fail)
          refine (R2 _).out.mono ?_
          rintro e w4 ⟨rfl, rfl⟩
          go_wp2_with (fail)
          refine (R3 _).out.mono ?_
          rintro e w4 ⟨rfl, rfl⟩
          go_wp2_with (fail)
          refine (R4 _).out.mono ?_
          rintro e w4 ⟨rfl, rfl⟩
          go_wp2_with (fail)
          go_still_tail 15, (by kernel_rfl)
          go_wp2
          go_roundw
          case rel => exact ⟨t + 1, by omega, by omega, by go_num, HN.out.drew⟩
          case measure => simp [intOf]; omega
        · obtain rfl : t = 64 := by omega
          obtain ⟨b0, b1, b2, be⟩ := hS
          have hz : (Uw (mxl F z64w 64)).toArray.size = 64 := by rw [List.size_toArray, Uw_len, mxl_len, z64w_len]
          clear b0
          go_wp2_with (first
            | (refine wpList_load_row rfl 86 _ rfl (w.heap.size + 1 + 1) rfl 86 (Uw (mxl F z64w 64)).toArray (0, 0) _ b2 Tryd.underlying86 rfl (size_x64 _ hz) ?_)
            | (refine wpList_store_row rfl 86 _ _ rfl (w.heap.size + 1) rfl (Uw (mxl F z64w 64)).toArray rfl 86 _ b1 (size_x64 _ hz) (by rw [hz, List.size_toArray, Uw_len, z64w_len]) (Uw_one _) ?_))
          refine bodyPost_ret (results_cell_row rfl _ _ (w.heap.size + 1) 86 (Uw (mxl F z64w 64)).toArray (0, 0) _ rfl (b1.row _) Tryd.underlying86 rfl (size_x64 _ hz)) rfl ⟨rfl, ?_⟩
          exact below_setRow be (by omega) _
end Go.Proofs.YtlaikmpnijlcbaaDoor
/-
  THE DIGESTS: turn256: the eight words turned by a block.
-/
namespace Go.Proofs.YtlaikmpnijlcbaaDoor
open Go.RowKit Go.IntWalk Nums

theorem own_long256 : Own 42 := fun _ _ => by go_simp
theorem size_v8 (cs : Array Value) (h : cs.size = 8) : (Tryd.prog.info? 71).map (·.size) = some cs.size := by
  rw [h]
  kernel_rfl
theorem len_b64 {l : List UInt8} (h : l.length = 64) : (By l).toArray.size = 64 := by rw [List.size_toArray, By_len, h]
def z8v : Array Value := (Uw [0, 0, 0, 0, 0, 0, 0, 0]).toArray

section
variable {ops : Array Oper} {C0 : World → Prop} {Q : Act → Prop} {a : Act} {o : Oper} {rest : List Oper}
theorem b_by64 {l : List UInt8} (g : Nat) (hl : l.length = 64) (x : Operand) (hg : Region.wanted o (yielded ops a.tmps) = true) (ho : o.op = .load 73 x) (hx : a.eval x = .pointer (some ⟨g, 0, none⟩))
    (hc : ∀ w, C0 w → Blk w g 73 (By l).toArray) (hk : wpB Tryd.prog ops C0 Q rest (a.put o.dst (.agg (By l).toArray))) : wpB Tryd.prog ops C0 Q (o :: rest) a :=
  b_mid hg 73 x ho g 0 hx (By l) _ (fun w h => (hc w h).range) Tryd.underlying73 rfl (size_b64 (By l).toArray (len_b64 hl)) hk
theorem b_idx8v {x : Operand} (g k : Nat) (hk8 : k < 8) (hg : Region.wanted o (yielded ops a.tmps) = true) (ho : o.op = .indexAddr 71 x (.const (.int .i64 (k : Int)))) (hx : a.eval x = .pointer (some ⟨g, 0, none⟩))
    (hk : wpB Tryd.prog ops C0 Q rest (a.put o.dst (.pointer (some ⟨g, k, none⟩)))) : wpB Tryd.prog ops C0 Q (o :: rest) a :=
  b_val hg (fun w _ => by
    have h1 : (k : Int) < 8 := by omega
    have h2 : (0 : Int) ≤ (k : Int) := by omega
    unfold execOp
    simp only [ho, hx]
    go_simp) hk
theorem b_cellV {x : Operand} (g k v : Nat) (hg : Region.wanted o (yielded ops a.tmps) = true) (ho : o.op = .load 70 x) (hx : a.eval x = .pointer (some ⟨g, k, none⟩)) (hc : ∀ w, C0 w → w.cell? ⟨g, k, none⟩ = some (.int .u32 (v : Int)))
    (hk : wpB Tryd.prog ops C0 Q rest (a.put o.dst (.int .u32 (v : Int)))) : wpB Tryd.prog ops C0 Q (o :: rest) a :=
  b_val hg (fun w hw => by
    have h1 := hc w hw
    unfold execOp
    simp only [ho, hx]
    go_simp) hk
end

/-- What turn256's rows lie in. -/
structure TS2 (w wr : World) (o : Oct) (gx : Nat) (l : List Nat) : Prop where
  b0 : Blk wr w.heap.size 71 (Uw o.list).toArray
  b2 : Blk wr (w.heap.size + 1 + 1) 71 z8v
  bx : Blk wr gx 86 (Uw l).toArray
  tw : Ts wr
  be : Below w.heap.size w wr
theorem TS2.up {w wr w1 : World} {o : Oct} {gx : Nat} {l : List Nat} (h : TS2 w wr o gx l) (k : Up wr w1) : TS2 w w1 o gx l := ⟨k.blk h.b0, k.blk h.b2, k.blk h.bx, h.tw.below k, below_up h.be k⟩
theorem TS2.drew {w wr : World} {o : Oct} {gx : Nat} {l : List Nat} (h : TS2 w wr o gx l) : TS2 w wr.drew o gx l := ⟨h.b0, h.b2, h.bx, h.tw.drew, h.be.drew⟩

set_option maxRecDepth 100000 in
set_option maxHeartbeats 8000000 in
theorem turn256_f {o : Oct} (ho : OB 32 o) {b : List UInt8} (hb : b.length = 64) (w : World) (hT : Ts w) :
    Calls Tryd.prog 32 #[.agg (Uw o.list).toArray, .agg (By b).toArray] w fun e w' => e = .returned (.agg (Uw (turnw s256 o b).list).toArray) ∧ Below w.heap.size w w' := by
  have HL := fun w1 => long256_f hb w1
  have hxl : ∀ t, t < 64 → (mxl (sx s256 b) z64w 64)[t]! = sx s256 b t := fun t h => mxl_in h (by rw [z64w_len]; exact h)
  have hxb := sx_lt s256 b (by decide)
  have hxn : (mxl (sx s256 b) z64w 64).length = 64 := by rw [mxl_len, z64w_len]
  have hO := fun t => OB.rnds (s := s256) (b := b) ho t
  have hstep : ∀ t, rnds s256 b o (t + 1) = rnd s256 (cbs[t]! / 4294967296) (sx s256 b t) (rnds s256 b o t) := fun t => rfl
  have h0 : rnds s256 b o 0 = o := rfl
  have hend : turnw s256 o b = add8 32 o (rnds s256 b o 64) := rfl
  rw [hend]
  clear hend
  have hzx : (Uw (mxl (sx s256 b) z64w 64)).toArray.size = 64 := by rw [List.size_toArray, Uw_len, hxn]
  generalize mxl (sx s256 b) z64w 64 = l at *
  generalize sx s256 b = F at *
  generalize rnds s256 b o = R at *
  go_enter Tryd.func32, Tryd.ntmps32
  refine wp_seq_k fun K hK => ?_
  refine wp_region_lit ?_
  refine wpl_box (Uw o.list).toArray rfl rfl rfl ?_
  refine wpl_box (By b).toArray rfl rfl rfl ?_
  refine wpl_alloc (zs := z8v) rfl rfl (by kernel_rfl) ?_
  refine wpl_nil ?_
  go_simp
  refine hK _ _ ?_
  clear hK K
  refine wp_at (fun W => Blk W w.heap.size 71 (Uw o.list).toArray ∧ Blk W (w.heap.size + 1) 73 (By b).toArray ∧ Blk W (w.heap.size + 1 + 1) 71 z8v ∧ Ts W ∧ Below w.heap.size w W) ⟨blk3_0 w _ _ _ _, blk3_1 w _ _ _ _, blk3_2 w _ _ _ _, hT.below ((((Below.refl _ _).alloc (Nat.le_refl _) _).alloc (by simp) _).alloc (by simp; omega) _), (((Below.refl _ _).alloc (Nat.le_refl _) _).alloc (by simp) _).alloc (by simp; omega) _⟩ ?_
  rintro W ⟨k0, k1, k2, hTW, hbe⟩
  refine wp_seq_k fun K hK => ?_
  refine reg_varF 2 5 86 (.tmp 20) (Uw z64w).toArray rfl rfl rfl rfl rfl rfl rfl (exec_alloc rfl zx64) ?_
  simp only [List.take_succ_cons, List.take_zero]
  refine b_by64 (w.heap.size + 1) hb _ rfl rfl rfl (fun _ h => h.blk k1) ?_
  simp only [Act.put, List.setIfInBounds_toArray, List.set_cons_zero, List.set_cons_succ]
  refine b_one rfl own_long256 (fun w1 => HL w1) rfl rfl ?_
  simp only [Act.put, List.setIfInBounds_toArray, List.set_cons_zero, List.set_cons_succ]
  refine wpB_nil ⟨(Uw l).toArray, fun _ => rfl, fun _ => rfl, by rw [hzx, List.size_toArray, Uw_len, z64w_len], size_x64 _ hzx, Uw_one _, fun gx W3 hgx hw1 hbx => ?_⟩
  simp only [Exit.then, Act.put, List.setIfInBounds_toArray, List.set_cons_zero, List.set_cons_succ]
  refine hK _ _ ?_
  clear hK K
  have hS : TS2 w W3 o gx l := ⟨hw1.blk k0, hw1.blk k2, hbx, hTW.below hw1, below_up hbe hw1⟩
  clear k0 k1 k2 hTW hbe hw1 hbx HL hT
  have hb0 := hS.b0
  have HS := Lib.hid (And.intro hS h0)
  clear hS h0
  refine wp_seq_k fun K hK => ?_
  refine reg_q (by kernel_rfl) (tail_ok (by kernel_rfl)) (fun _ _ d _ _ h => by cases d <;> exact h) ?_
  refine b_idx8v w.heap.size 0 (by decide) rfl rfl rfl ?_
  simp only [Act.put, List.setIfInBounds_toArray, List.set_cons_zero, List.set_cons_succ]
  refine b_cellV w.heap.size 0 o.a rfl rfl rfl (fun _ h => (h.blk hb0).cell 0) ?_
  simp only [Act.put, List.setIfInBounds_toArray, List.set_cons_zero, List.set_cons_succ]
  refine b_idx8v w.heap.size 1 (by decide) rfl rfl rfl ?_
  simp only [Act.put, List.setIfInBounds_toArray, List.set_cons_zero, List.set_cons_succ]
  refine b_cellV w.heap.size 1 o.b rfl rfl rfl (fun _ h => (h.blk hb0).cell 1) ?_
  simp only [Act.put, List.setIfInBounds_toArray, List.set_cons_zero, List.set_cons_succ]
  refine b_idx8v w.heap.size 2 (by decide) rfl rfl rfl ?_
  simp only [Act.put, List.setIfInBounds_toArray, List.set_cons_zero, List.set_cons_succ]
  refine b_cellV w.heap.size 2 o.c rfl rfl rfl (fun _ h => (h.blk hb0).cell 2) ?_
  simp only [Act.put, List.setIfInBounds_toArray, List.set_cons_zero, List.set_cons_succ]
  refine b_idx8v w.heap.size 3 (by decide) rfl rfl rfl ?_
  simp only [Act.put, List.setIfInBounds_toArray, List.set_cons_zero, List.set_cons_succ]
  refine b_cellV w.heap.size 3 o.d rfl rfl rfl (fun _ h => (h.blk hb0).cell 3) ?_
  simp only [Act.put, List.setIfInBounds_toArray, List.set_cons_zero, List.set_cons_succ]
  refine b_idx8v w.heap.size 4 (by decide) rfl rfl rfl ?_
  simp only [Act.put, List.setIfInBounds_toArray, List.set_cons_zero, List.set_cons_succ]
  refine b_cellV w.heap.size 4 o.e rfl rfl rfl (fun _ h => (h.blk hb0).cell 4) ?_
  simp only [Act.put, List.setIfInBounds_toArray, List.set_cons_zero, List.set_cons_succ]
  refine b_idx8v w.heap.size 5 (by decide) rfl rfl rfl ?_
  simp only [Act.put, List.setIfInBounds_toArray, List.set_cons_zero, List.set_cons_succ]
  refine b_cellV w.heap.size 5 o.f rfl rfl rfl (fun _ h => (h.blk hb0).cell 5) ?_
  simp only [Act.put, List.setIfInBounds_toArray, List.set_cons_zero, List.set_cons_succ]
  refine b_idx8v w.heap.size 6 (by decide) rfl rfl rfl ?_
  simp only [Act.put, List.setIfInBounds_toArray, List.set_cons_zero, List.set_cons_succ]
  refine b_cellV w.heap.size 6 o.g rfl rfl rfl (fun _ h => (h.blk hb0).cell 6) ?_
  simp only [Act.put, List.setIfInBounds_toArray, List.set_cons_zero, List.set_cons_succ]
  refine b_idx8v w.heap.size 7 (by decide) rfl rfl rfl ?_
  simp only [Act.put, List.setIfInBounds_toArray, List.set_cons_zero, List.set_cons_succ]
  refine b_cellV w.heap.size 7 o.h rfl rfl rfl (fun _ h => (h.blk hb0).cell 7) ?_
  simp only [Act.put, List.setIfInBounds_toArray, List.set_cons_zero, List.set_cons_succ]
  refine b_assignV (.int .u32 (o.a : Int)) rfl rfl rfl ?_
  simp only [Act.put, List.setIfInBounds_toArray, List.set_cons_zero, List.set_cons_succ]
  refine b_assignV (.int .u32 (o.b : Int)) rfl rfl rfl ?_
  simp only [Act.put, List.setIfInBounds_toArray, List.set_cons_zero, List.set_cons_succ]
  refine b_assignV (.int .u32 (o.c : Int)) rfl rfl rfl ?_
  simp only [Act.put, List.setIfInBounds_toArray, List.set_cons_zero, List.set_cons_succ]
  refine b_assignV (.int .u32 (o.d : Int)) rfl rfl rfl ?_
  simp only [Act.put, List.setIfInBounds_toArray, List.set_cons_zero, List.set_cons_succ]
  refine b_assignV (.int .u32 (o.e : Int)) rfl rfl rfl ?_
  simp only [Act.put, List.setIfInBounds_toArray, List.set_cons_zero, List.set_cons_succ]
  refine b_assignV (.int .u32 (o.f : Int)) rfl rfl rfl ?_
  simp only [Act.put, List.setIfInBounds_toArray, List.set_cons_zero, List.set_cons_succ]
  refine b_assignV (.int .u32 (o.g : Int)) rfl rfl rfl ?_
  simp only [Act.put, List.setIfInBounds_toArray, List.set_cons_zero, List.set_cons_succ]
  refine b_assignV (.int .u32 (o.h : Int)) rfl rfl rfl ?_
  simp only [Act.put, List.setIfInBounds_toArray, List.set_cons_zero, List.set_cons_succ]
  refine wpB_nil ?_
  intro W4 hw1
  simp only [Exit.then]
  refine hK _ _ ?_
  clear hK K hb0
  have HS := Lib.hid (And.intro (HS.out.1.up hw1) HS.out.2)
  clear hw1
  go_wp2
  go_loopw [37, 6, 7, 8, 9, 10, 11, 12, 13] (fun i va vb vc vd ve vf vg vh wr => ∃ t : Nat, t ≤ 64 ∧ i = .int .i64 t ∧ va = .int .u32 (R t).a ∧ vb = .int .u32 (R t).b ∧ vc = .int .u32 (R t).c ∧ vd = .int .u32 (R t).d ∧ ve = .int .u32 (R t).e ∧ vf = .int .u32 (R t).f ∧ vg = .int .u32 (R t).g ∧ vh = .int .u32 (R t).h ∧ TS2 w wr o gx l) (fun i _ _ _ _ _ _ _ _ _ => 64 - (intOf i).toNat)
  case atStart =>
    obtain ⟨hS, h0⟩ := HS.out
    refine ⟨0, by omega, rfl, ?_⟩
    rw [h0]
    exact ⟨rfl, rfl, rfl, rfl, rfl, rfl, rfl, rfl, hS⟩
  case round =>
    clear HS
    obtain ⟨t, ht, rfl, rfl, rfl, rfl, rfl, rfl, rfl, rfl, rfl, hS⟩ := hrel
    by_cases htl : t < 64
    · have hs := hstep t
      obtain ⟨ba, bb, bc, bd, be, bf, bg, bh⟩ := hO t
      have hX : F t < 4294967296 := hxb t
      have hC := cbs_lt (show t < 80 by omega)
      have hKt : cbs[t]! / 4294967296 < 4294967296 := by omega
      have qk : ((cbs[t]! : Nat) : Int) / 4294967296 = ((cbs[t]! / 4294967296 : Nat) : Int) := by omega
      have cx := (hS.drew.bx.cell t).trans (Uw_at (by omega))
      rw [hxl t htl] at cx
      have ck := hS.drew.tw.cell t (by omega)
      generalize R t = q at *
      obtain ⟨a, b', c, d, e, f, g, h⟩ := q
      generalize F t = X at *
      generalize cbs[t]! / 4294967296 = Kt at *
      generalize cbs[t]! = Ct at *
      have qw : IntKind.u32.wrap (Kt : Int) = (Kt : Int) := by rw [IntKind.wrap_u32]; omega
      dsimp only at ba bb bc bd be bf bg bh ⊢
      have e1 : bigw 32 (6, 11, 25) e = rotw 32 6 e ^^^ rotw 32 11 e ^^^ rotw 32 25 e := rfl
      have e0 : bigw 32 (2, 13, 22) a = rotw 32 2 a ^^^ rotw 32 13 a ^^^ rotw 32 22 a := rfl
      have r1 := rotw_lt (w := 32) (n := 6) (x := e) (by decide) be
      have r2 := rotw_lt (w := 32) (n := 11) (x := e) (by decide) be
      have r3 := rotw_lt (w := 32) (n := 25) (x := e) (by decide) be
      have r4 := rotw_lt (w := 32) (n := 2) (x := a) (by decide) ba
      have r5 := rotw_lt (w := 32) (n := 13) (x := a) (by decide) ba
      have r6 := rotw_lt (w := 32) (n := 22) (x := a) (by decide) ba
      have R1 := fun w1 => Lib.hid (rot32_f e 6 be (by decide) (by decide) w1)
      have R2 := fun w1 => Lib.hid (rot32_f e 11 be (by decide) (by decide) w1)
      have R3 := fun w1 => Lib.hid (rot32_f e 25 be (by decide) (by decide) w1)
      have R4 := fun w1 => Lib.hid (rot32_f a 2 ba (by decide) (by decide) w1)
      have R5 := fun w1 => Lib.hid (rot32_f a 13 ba (by decide) (by decide) w1)
      have R6 := fun w1 => Lib.hid (rot32_f a 22 ba (by decide) (by decide) w1)
      have hnew : rnd s256 Kt X ⟨a, b', c, d, e, f, g, h⟩ = ⟨(h + bigw 32 (6, 11, 25) e + chw 32 e f g + Kt + X + (bigw 32 (2, 13, 22) a + maw a b' c)) % 4294967296, a, b', c, (d + (h + bigw 32 (6, 11, 25) e + chw 32 e f g + Kt + X)) % 4294967296, e, f, g⟩ := rfl
      rw [hnew] at hs
      clear hnew
      have u1 := bigw_lt (w := 32) (t := (6, 11, 25)) (x := e) (by decide) be
      have u0 := bigw_lt (w := 32) (t := (2, 13, 22)) (x := a) (by decide) ba
      have uc := chw_lt (w := 32) (e := e) (f := f) (g := g) be
      have um := maw_lt (w := 32) (a := a) (b := b') (c := c) ba bb
      have x1 := u32_xor_nat _ _ r1 r2
      have x2 := u32_xor_nat _ _ (xor_lt r1 r2) r3
      have x3 := u32_xor_nat _ _ r4 r5
      have x4 := u32_xor_nat _ _ (xor_lt r4 r5) r6
      rw [← e1] at x2
      rw [← e0] at x4
      generalize bigw 32 (6, 11, 25) e = s1 at *
      generalize bigw 32 (2, 13, 22) a = s0 at *
      generalize rotw 32 6 e ^^^ rotw 32 11 e = y1 at *
      generalize rotw 32 2 a ^^^ rotw 32 13 a = y0 at *
      generalize rotw 32 6 e = p1 at *
      generalize rotw 32 11 e = p2 at *
      generalize rotw 32 25 e = p3 at *
      generalize rotw 32 2 a = p4 at *
      generalize rotw 32 13 a = p5 at *
      generalize rotw 32 22 a = p6 at *
      have n1 := u32_and_nat e f be bf
      have n2 := u32_and_nat (2 ^ 32 - 1 - e) g (by omega) bg
      have n3 : bits .xor .u32 ((e &&& f : Nat) : Int) (((2 ^ 32 - 1 - e) &&& g : Nat) : Int) = ((chw 32 e f g : Nat) : Int) := u32_xor_nat _ _ (and_lt (w := 32) be) (and_lt (w := 32) (Nat.lt_of_le_of_lt (Nat.sub_le (2 ^ 32 - 1) e) (by decide)))
      have n4 := u32_and_nat a b' ba bb
      have n5 := u32_and_nat a c ba bc
      have n6 := u32_and_nat b' c bb bc
      have n7 := u32_xor_nat (a &&& b') (a &&& c) (and_lt ba) (and_lt ba)
      have n8 : bits .xor .u32 (((a &&& b') ^^^ (a &&& c) : Nat) : Int) ((b' &&& c : Nat) : Int) = ((maw a b' c : Nat) : Int) := u32_xor_nat _ _ (xor_lt (and_lt ba) (and_lt ba)) (and_lt bb)
      generalize chw 32 e f g = ch at *
      generalize maw a b' c = ma at *
      generalize (a &&& b') ^^^ (a &&& c) = m4 at *
      generalize a &&& b' = m1 at *
      generalize a &&& c = m2 at *
      generalize b' &&& c = m3 at *
      generalize e &&& f = m5 at *
      generalize (2 ^ 32 - 1 - e) &&& g = m6 at *
      have nn := not32 be
      generalize 2 ^ 32 - 1 - e = ne at *
      obtain ⟨q1, hq1⟩ : ∃ z, z = (h + s1) % 4294967296 := ⟨_, rfl⟩
      obtain ⟨q2, hq2⟩ : ∃ z, z = (q1 + ch) % 4294967296 := ⟨_, rfl⟩
      obtain ⟨q3, hq3⟩ : ∃ z, z = (q2 + Kt) % 4294967296 := ⟨_, rfl⟩
      obtain ⟨q4, hq4⟩ : ∃ z, z = (q3 + X) % 4294967296 := ⟨_, rfl⟩
      obtain ⟨q5, hq5⟩ : ∃ z, z = (s0 + ma) % 4294967296 := ⟨_, rfl⟩
      obtain ⟨q6, hq6⟩ : ∃ z, z = (d + q4) % 4294967296 := ⟨_, rfl⟩
      obtain ⟨q7, hq7⟩ : ∃ z, z = (q4 + q5) % 4294967296 := ⟨_, rfl⟩
      have t1 : IntKind.u32.wrap ((h : Int) + (s1 : Int)) = (q1 : Int) := by rw [IntKind.wrap_u32]; omega
      have t2 : IntKind.u32.wrap ((q1 : Int) + (ch : Int)) = (q2 : Int) := by rw [IntKind.wrap_u32]; omega
      have t3 : IntKind.u32.wrap ((q2 : Int) + (Kt : Int)) = (q3 : Int) := by rw [IntKind.wrap_u32]; omega
      have t4 : IntKind.u32.wrap ((q3 : Int) + (X : Int)) = (q4 : Int) := by rw [IntKind.wrap_u32]; omega
      have t5 : IntKind.u32.wrap ((s0 : Int) + (ma : Int)) = (q5 : Int) := by rw [IntKind.wrap_u32]; omega
      have t6 : IntKind.u32.wrap ((d : Int) + (q4 : Int)) = (q6 : Int) := by rw [IntKind.wrap_u32]; omega
      have t7 : IntKind.u32.wrap ((q4 : Int) + (q5 : Int)) = (q7 : Int) := by rw [IntKind.wrap_u32]; omega
      have h6 : (d + (h + s1 + ch + Kt + X)) % 4294967296 = q6 := by omega
      have h7 : (h + s1 + ch + Kt + X + (s0 + ma)) % 4294967296 = q7 := by omega
      rw [h6, h7] at hs
      clear hq1 hq2 hq3 hq4 hq5 hq6 hq7 h6 h7
      have HN := Lib.hid (And.intro hs hS.drew)
      clear hs hS e1 e0 r1 r2 r3 r4 r5 r6
      go_wp2_with (fail)
      refine (R1 _).out.mono ?_
      rintro z w4 ⟨rfl, rfl⟩
      go_wp2_with (fail)
      refine (R2 _).out.mono ?_
      rintro z w4 ⟨rfl, rfl⟩
      go_wp2_with (fail)
      refine (R3 _).out.mono ?_
      rintro z w4 ⟨rfl, rfl⟩
      go_wp2_with (fail)
      refine (R4 _).out.mono ?_
      rintro z w4 ⟨rfl, rfl⟩
      go_wp2_with (fail)
      refine (R5 _).out.mono ?_
      rintro z w4 ⟨rfl, rfl⟩
      go_wp2_with (fail)
      refine (R6 _).out.mono ?_
      rintro z w4 ⟨rfl, rfl⟩
      go_wp2_with (fail)
      go_region
      go_wp2
      go_roundw
      case rel =>
        obtain ⟨hs, hS⟩ := HN.out
        refine ⟨t + 1, by omega, by go_num, ?_⟩
        rw [hs]
        exact ⟨rfl, rfl, rfl, rfl, rfl, rfl, rfl, rfl, hS⟩
      case measure => simp [intOf]; omega
    · obtain rfl : t = 64 := by omega
      obtain ⟨ba, bb, bc, bd, be, bf, bg, bh⟩ := hO 64
      obtain ⟨ha, hb', hc, hd, he, hf, hg, hh⟩ := ho
      generalize hq : R 64 = q at *
      obtain ⟨a, b', c, d, e, f, g, h⟩ := q
      have HQ := Lib.hid hq
      clear hq
      dsimp only at ba bb bc bd be bf bg bh ⊢
      obtain ⟨k0, k2, kx, kt, kb⟩ := hS
      have c0 : wr.cell? ⟨w.heap.size, 0, none⟩ = some (.int .u32 (o.a : Int)) := k0.cell 0
      have c1 : wr.cell? ⟨w.heap.size, 1, none⟩ = some (.int .u32 (o.b : Int)) := k0.cell 1
      have c2 : wr.cell? ⟨w.heap.size, 2, none⟩ = some (.int .u32 (o.c : Int)) := k0.cell 2
      have c3 : wr.cell? ⟨w.heap.size, 3, none⟩ = some (.int .u32 (o.d : Int)) := k0.cell 3
      have c4 : wr.cell? ⟨w.heap.size, 4, none⟩ = some (.int .u32 (o.e : Int)) := k0.cell 4
      have c5 : wr.cell? ⟨w.heap.size, 5, none⟩ = some (.int .u32 (o.f : Int)) := k0.cell 5
      have c6 : wr.cell? ⟨w.heap.size, 6, none⟩ = some (.int .u32 (o.g : Int)) := k0.cell 6
      have c7 : wr.cell? ⟨w.heap.size, 7, none⟩ = some (.int .u32 (o.h : Int)) := k0.cell 7
      have w0 : IntKind.u32.wrap ((o.a : Int) + (a : Int)) = (((o.a + a) % 4294967296 : Nat) : Int) := by rw [IntKind.wrap_u32]; omega
      have w1 : IntKind.u32.wrap ((o.b : Int) + (b' : Int)) = (((o.b + b') % 4294967296 : Nat) : Int) := by rw [IntKind.wrap_u32]; omega
      have w2 : IntKind.u32.wrap ((o.c : Int) + (c : Int)) = (((o.c + c) % 4294967296 : Nat) : Int) := by rw [IntKind.wrap_u32]; omega
      have w3 : IntKind.u32.wrap ((o.d : Int) + (d : Int)) = (((o.d + d) % 4294967296 : Nat) : Int) := by rw [IntKind.wrap_u32]; omega
      have w4 : IntKind.u32.wrap ((o.e : Int) + (e : Int)) = (((o.e + e) % 4294967296 : Nat) : Int) := by rw [IntKind.wrap_u32]; omega
      have w5 : IntKind.u32.wrap ((o.f : Int) + (f : Int)) = (((o.f + f) % 4294967296 : Nat) : Int) := by rw [IntKind.wrap_u32]; omega
      have w6 : IntKind.u32.wrap ((o.g : Int) + (g : Int)) = (((o.g + g) % 4294967296 : Nat) : Int) := by rw [IntKind.wrap_u32]; omega
      have w7 : IntKind.u32.wrap ((o.h : Int) + (h : Int)) = (((o.h + h) % 4294967296 : Nat) : Int) := by rw [IntKind.wrap_u32]; omega
      have hres : add8 32 o ⟨a, b', c, d, e, f, g, h⟩ = ⟨(o.a + a) % 4294967296, (o.b + b') % 4294967296, (o.c + c) % 4294967296, (o.d + d) % 4294967296, (o.e + e) % 4294967296, (o.f + f) % 4294967296, (o.g + g) % 4294967296, (o.h + h) % 4294967296⟩ := rfl
      generalize (o.a + a) % 4294967296 = z0 at *
      generalize (o.b + b') % 4294967296 = z1 at *
      generalize (o.c + c) % 4294967296 = z2 at *
      generalize (o.d + d) % 4294967296 = z3 at *
      generalize (o.e + e) % 4294967296 = z4 at *
      generalize (o.f + f) % 4294967296 = z5 at *
      generalize (o.g + g) % 4294967296 = z6 at *
      generalize (o.h + h) % 4294967296 = z7 at *
      have HR := Lib.hid hres
      clear hres ba bb bc bd be bf bg bh ha hb' hc hd he hf hg hh k0 kx kt
      have HK := Lib.hid (And.intro k2 kb)
      clear k2 kb
      have hz : (Uw [z0, z1, z2, z3, z4, z5, z6, z7]).toArray.size = 8 := rfl
      have k2 := HK.out.1
      go_wp2_with (refine wpList_store_row rfl 71 _ _ rfl (w.heap.size + 1 + 1) rfl (Uw [z0, z1, z2, z3, z4, z5, z6, z7]).toArray rfl 71 _ k2 (size_v8 _ hz) (by rw [hz]; rfl) (Uw_one _) ?_)
      refine bodyPost_ret (results_cell_row rfl _ _ (w.heap.size + 1 + 1) 71 (Uw [z0, z1, z2, z3, z4, z5, z6, z7]).toArray (0, 0) _ rfl (k2.row _) Tryd.underlying71 rfl (size_v8 _ hz)) rfl ⟨by rw [HQ.out, HR.out]; rfl, ?_⟩
      exact below_setRow HK.out.2 (by omega) _
end Go.Proofs.YtlaikmpnijlcbaaDoor
/-
  THE DIGESTS: lay256: the eight words' bytes, the greatest first; first256: what they begin as.
-/
namespace Go.Proofs.YtlaikmpnijlcbaaDoor
open Go.RowKit Go.IntWalk Nums

def z32b : List UInt8 := List.replicate 32 0
theorem zb32 : (Tryd.prog.info? 30).bind (fun i => i.zero.map (·.cells)) = some (By z32b).toArray := by kernel_rfl

/-- What lay256's rows lie in. -/
structure LY2 (w wr : World) (cs : Array Value) (m : List UInt8) : Prop where
  b0 : Blk wr w.heap.size 71 cs
  b1 : Blk wr (w.heap.size + 1) 30 (By z32b).toArray
  b2 : Blk wr (w.heap.size + 1 + 1) 30 (By m).toArray
  be : Below w.heap.size w wr
theorem LY2.set {w wr : World} {cs : Array Value} {m : List UInt8} (h : LY2 w wr cs m) (k : Nat) (x : UInt8) : LY2 w (wr.setCell ⟨w.heap.size + 1 + 1, k, none⟩ (.int .u8 (x.toNat : Int))) cs (m.set k x) where
  b0 := h.b0.far (by show w.heap.size ≠ w.heap.size + 1 + 1; omega) _
  b1 := h.b1.far (by show w.heap.size + 1 ≠ w.heap.size + 1 + 1; omega) _
  b2 := by
    have h4 := h.b2.set k (.int .u8 (x.toNat : Int))
    rw [By_set] at h4
    exact h4
  be := h.be.setCell (by show w.heap.size ≤ w.heap.size + 1 + 1; omega) _

set_option maxRecDepth 100000 in
set_option maxHeartbeats 2000000 in
theorem lay256_f {l : List Nat} (hl : l.length = 8) (hw : ∀ x ∈ l, x < 4294967296) (w : World) :
    Calls Tryd.prog 33 #[.agg (Uw l).toArray] w fun e w' => e = .returned (.agg (By (l.map (layw s256)).flatten).toArray) ∧ Below w.heap.size w w' := by
  have hD := flat_lenB (layw s256) (n := 4) (fun x => layw_len s256 x) l
  rw [hl] at hD
  have hg : ∀ i j, i < 8 → j < 4 → (((l.map (layw s256)).flatten)[4 * i + 3 - j]!).toNat = l[i]! / 256 ^ j % 256 := fun i j hi hj => by
    have h1 := flat_get (layw s256) (n := 4) (fun x => layw_len s256 x) l (i := i) (j := 3 - j) (by omega) (by omega)
    rw [show 4 * i + 3 - j = 4 * i + (3 - j) by omega, h1]
    exact layw_get (s := s256) (j := j) hj
  have hzs : (Uw l).toArray.size = 8 := by rw [List.size_toArray, Uw_len, hl]
  have hix : ∀ i, i < 8 → ∀ w1, (Instr.index 71 (.agg (Uw l).toArray) (.int .i64 ((i : Nat) : Int))).run Tryd.prog w1 = .ok (.int .u32 (l[i]! : Nat)) w1 := fun i hi w1 => by
    have h0 : (Uw l).toArray[i]? = some (.int .u32 (l[i]! : Nat)) := Uw_at (by omega)
    have h1 : ((i : Nat) : Int) < 8 := by omega
    have h2 : (0 : Int) ≤ (i : Nat) := by omega
    generalize l[i]! = c at *
    generalize (Uw l).toArray = cs at *
    unfold Instr.index Go.part
    go_simp
    obtain ⟨_, h⟩ := Array.getElem?_eq_some_iff.1 h0
    exact h
  have hwl : ∀ i, i < 8 → l[i]! < 4294967296 := fun i hi => by
    rw [getElem!_pos l i (by omega)]
    exact hw _ (List.getElem_mem _)
  generalize (l.map (layw s256)).flatten = D at *
  generalize (Uw l).toArray = cs at *
  go_enter Tryd.func33, Tryd.ntmps33
  refine wp_seq_k fun K hK => ?_
  refine wp_region_lit ?_
  refine wpl_box cs rfl rfl rfl ?_
  refine wpl_alloc (zs := (By z32b).toArray) rfl rfl zb32 ?_
  refine wpl_nil ?_
  go_simp
  refine hK _ _ ?_
  clear hK K
  refine wp_seq_k fun K hK => ?_
  refine wp_region_lit ?_
  refine wpl_alloc (zs := (By z32b).toArray) rfl rfl zb32 ?_
  refine wpl_nil ?_
  go_simp
  refine hK _ _ ?_
  clear hK K
  refine wp_at (fun W => LY2 w W cs z32b) ⟨blk3_0 w _ _ _ _, blk3_1 w _ _ _ _, blk3_2 w _ _ _ _, (((Below.refl _ _).alloc (Nat.le_refl _) _).alloc (by simp) _).alloc (by simp; omega) _⟩ ?_
  intro W hW
  have k0 := hW.b0
  have HW := Lib.hid hW
  clear hW
  go_wp2_with (refine wpList_load_row rfl 71 _ rfl w.heap.size rfl 71 cs (0, 0) _ k0 Tryd.underlying71 rfl (size_v8 _ hzs) ?_)
  clear k0
  go_loopw [8] (fun i wr => ∃ t : Nat, t ≤ 8 ∧ i = .int .i64 t ∧ LY2 w wr cs (pf D fun m => decide (m < 4 * t))) (fun i _ => 8 - (intOf i).toNat)
  case atStart =>
    refine ⟨0, by omega, rfl, ?_⟩
    rw [pf_none (fun m _ => decide_eq_false (by omega)), hD]
    exact HW.out
  case round =>
    clear HW
    obtain ⟨t, ht, rfl, hS⟩ := hrel
    by_cases htl : t < 8
    · have hi := hix t htl
      have hx := hwl t htl
      have hby := fun j hj => hg t j htl hj
      generalize l[t]! = x at *
      have g4 : (0 : Int) ≤ (t : Int) := by omega
      have HS := Lib.hid hS
      clear hS hg hix hwl
      go_wp2
      go_loopw [12, 5] (fun j v wq => ∃ n : Nat, n ≤ 4 ∧ j = .int .i64 n ∧ v = .int .u32 ((x / 256 ^ n : Nat) : Int) ∧ LY2 w wq cs (pf D fun m => decide (m < 4 * t ∨ 4 * t + 4 - n ≤ m ∧ m < 4 * t + 4))) (fun j _ _ => 4 - (intOf j).toNat)
      case atStart =>
        refine ⟨0, by omega, rfl, by rw [Nat.pow_zero, Nat.div_one], ?_⟩
        rw [pf_congr (q := fun m => decide (m < 4 * t)) (fun m _ => decide_eq_decide.2 (by omega))]
        exact HS.out
      case round =>
        clear HS
        obtain ⟨n, hn, rfl, rfl, hS⟩ := hrel
        by_cases hnl : n < 4
        · have hN := hS.set (4 * t + 3 - n) D[4 * t + 3 - n]!
          rw [pf_set (q := fun m => decide (m < 4 * t ∨ 4 * t + 4 - (n + 1) ≤ m ∧ m < 4 * t + 4)) (fun m _ => by rw [← Bool.decide_or]; exact decide_eq_decide.2 (by omega))] at hN
          have hb := hby n hnl
          have hdiv : x / 256 ^ (n + 1) = x / 256 ^ n / 256 := by rw [Nat.pow_succ, Nat.div_div_eq_div_mul]
          have hle : x / 256 ^ n < 4294967296 := Nat.lt_of_le_of_lt (Nat.div_le_self _ _) hx
          have c2 := (hS.b2.cell (4 * t + 3 - n)).trans (By_get (by rw [pf_len, hD]; omega))
          have f2 := hS.b2.free (4 * t + 3 - n)
          generalize x / 256 ^ n = y at *
          have q4 : IntKind.u8.wrap (y : Int) = ((D[4 * t + 3 - n]!).toNat : Int) := by
            rw [IntKind.wrap_u8', hb]
            omega
          have g5 : (0 : Int) ≤ (n : Int) := by omega
          have q5 : (y : Int) / 256 = ((y / 256 : Nat) : Int) := by omega
          have HN := Lib.hid (And.intro hN hdiv)
          clear hS hN hdiv hb hby hi
          generalize (D[4 * t + 3 - n]!).toNat = v at *
          generalize ((pf D fun m => decide (m < 4 * t ∨ 4 * t + 4 - n ≤ m ∧ m < 4 * t + 4))[4 * t + 3 - n]!).toNat = old at *
          generalize y / 256 = y2 at *
          go_wp2
          go_roundw
          case rel =>
            obtain ⟨hN, hdiv⟩ := HN.out
            refine ⟨n + 1, by omega, by go_num, by rw [hdiv], hN⟩
          case measure => simp [intOf]; omega
        · obtain rfl : n = 4 := by omega
          rw [pf_congr (q := fun m => decide (m < 4 * (t + 1))) (fun m _ => decide_eq_decide.2 (by omega))] at hS
          have HS := Lib.hid hS
          clear hS
          go_wp2
          go_roundw
          case rel => exact ⟨t + 1, by omega, by go_num, HS.out⟩
          case measure => simp [intOf]; omega
    · obtain rfl : t = 8 := by omega
      rw [pf_all (fun m hm => decide_eq_true (by omega))] at hS
      obtain ⟨b0, b1, b2, be⟩ := hS
      have hz : (By D).toArray.size = 32 := by rw [List.size_toArray, By_len, hD]
      clear b0
      go_wp2_with (first
        | (refine wpList_load_row rfl 30 _ rfl (w.heap.size + 1 + 1) rfl 30 (By D).toArray (0, 0) _ b2 Tryd.underlying30 rfl (size_hash _ hz) ?_)
        | (refine wpList_store_row rfl 30 _ _ rfl (w.heap.size + 1) rfl (By D).toArray rfl 30 _ b1 (size_hash _ hz) (by rw [hz]; rfl) (By_one _) ?_))
      refine bodyPost_ret (results_cell_row rfl _ _ (w.heap.size + 1) 30 (By D).toArray (0, 0) _ rfl (b1.row _) Tryd.underlying30 rfl (size_hash _ hz)) rfl ⟨rfl, ?_⟩
      exact below_setRow be (by omega) _

/-! ### first256 -/
theorem zv8 : (Tryd.prog.info? 71).bind (fun i => i.zero.map (·.cells)) = some z8v := by kernel_rfl
/-- The starts' table lies where it lay. -/
structure Tst (w : World) : Prop where
  cell : ∀ i, i < 8 → w.cell? ⟨0, i, none⟩ = some (.int .u64 (sqs[i]! : Nat))
  lt : 0 < w.heap.size
theorem Tst.below {w w' : World} (h : Tst w) (hb : Below w.heap.size w w') : Tst w' :=
  ⟨fun i hi => (hb.cell (p := ⟨0, i, none⟩) h.lt).trans (h.cell i hi), Nat.lt_of_lt_of_le h.lt hb.size⟩
/-- What first256's rows lie in. -/
structure FI2 (w wr : World) (l : List Nat) : Prop where
  b0 : Blk wr w.heap.size 71 z8v
  b1 : Blk wr (w.heap.size + 1) 71 (Uw l).toArray
  be : Below w.heap.size w wr
theorem FI2.set {w wr : World} {l : List Nat} (h : FI2 w wr l) (k x : Nat) : FI2 w (wr.setCell ⟨w.heap.size + 1, k, none⟩ (.int .u32 (x : Int))) (l.set k x) where
  b0 := h.b0.far (by show w.heap.size ≠ w.heap.size + 1; omega) _
  b1 := by
    have h4 := h.b1.set k (.int .u32 (x : Int))
    rw [Uw_set] at h4
    exact h4
  be := h.be.setCell (by show w.heap.size ≤ w.heap.size + 1; omega) _
theorem sqs_lt {t : Nat} (h : t < 8) : sqs[t]! < 18446744073709551616 := by
  have h1 : ∀ x ∈ sqs, x < 18446744073709551616 := by decide
  have h2 : t < sqs.length := h
  rw [getElem!_pos sqs t h2]
  exact h1 _ (List.getElem_mem _)
def sqh (t : Nat) : Nat := sqs[t]! / 4294967296
def z8n : List Nat := [0, 0, 0, 0, 0, 0, 0, 0]
theorem first_all : mxl sqh z8n 8 = s256.start := by decide +kernel

set_option maxRecDepth 100000 in
set_option maxHeartbeats 2000000 in
theorem first256_f (w : World) (hT : Tst w) :
    Calls Tryd.prog 29 #[] w fun e w' => e = .returned (.agg (Uw s256.start).toArray) ∧ Below w.heap.size w w' := by
  rw [← first_all]
  have hlen : ∀ t, (mxl sqh z8n t).length = 8 := fun t => by rw [mxl_len]; rfl
  go_enter Tryd.func29, Tryd.ntmps29
  refine wp_seq_k fun K hK => ?_
  refine wp_region_lit ?_
  refine wpl_alloc (zs := z8v) rfl rfl zv8 ?_
  refine wpl_nil ?_
  go_simp
  refine hK _ _ ?_
  clear hK K
  refine wp_seq_k fun K hK => ?_
  refine wp_region_lit ?_
  refine wpl_alloc (zs := z8v) rfl rfl zv8 ?_
  refine wpl_nil ?_
  go_simp
  refine hK _ _ ?_
  clear hK K
  have hb2 : Blk ((w.alloc (.cells z8v 71)).alloc (.cells z8v 71)) (w.heap.size + 1) 71 z8v := by
    have h := Blk.new (w.alloc (.cells z8v 71)) 71 z8v
    rwa [World.size_alloc] at h
  refine wp_at (fun W => FI2 w W z8n) ⟨(Blk.new w _ _).alloc _, hb2, ((Below.refl _ _).alloc (Nat.le_refl _) _).alloc (by simp) _⟩ ?_
  intro W hW
  clear hb2
  have HW := Lib.hid hW
  clear hW
  go_wp2
  go_loopw [3] (fun i wr => ∃ t : Nat, t ≤ 8 ∧ i = .int .i64 t ∧ FI2 w wr (mxl sqh z8n t)) (fun i _ => 8 - (intOf i).toNat)
  case atStart =>
    refine ⟨0, by omega, rfl, ?_⟩
    rw [mxl_zero]
    exact HW.out
  case round =>
    clear HW
    obtain ⟨t, ht, rfl, hS⟩ := hrel
    by_cases htl : t < 8
    · have hN := hS.set t (sqh t)
      rw [mxl_set] at hN
      have hg := (hT.below hS.be).cell t htl
      have hlt := sqs_lt htl
      have c1 := (hS.b1.cell t).trans (Uw_at (by rw [hlen]; omega))
      have f1 := hS.b1.free t
      have e1 : sqh t = sqs[t]! / 4294967296 := rfl
      have hq : sqh t < 4294967296 := by omega
      have q1 : ((sqs[t]! : Nat) : Int) / 4294967296 = ((sqh t : Nat) : Int) := by omega
      have q2 : IntKind.u32.wrap ((sqh t : Nat) : Int) = ((sqh t : Nat) : Int) := by rw [IntKind.wrap_u32]; omega
      have g4 : (0 : Int) ≤ (t : Int) := by omega
      have HN := Lib.hid hN
      clear hS hN e1 hT hlen
      generalize sqh t = y at *
      generalize sqs[t]! = x at *
      generalize (mxl sqh z8n t)[t]! = old at *
      go_wp2
      go_roundw
      case rel => exact ⟨t + 1, by omega, by go_num, HN.out⟩
      case measure => simp [intOf]; omega
    · obtain rfl : t = 8 := by omega
      obtain ⟨b0, b1, be⟩ := hS
      have hz : (Uw (mxl sqh z8n 8)).toArray.size = 8 := by rw [List.size_toArray, Uw_len, hlen]
      clear hT
      go_wp2_with (first
        | (refine wpList_load_row rfl 71 _ rfl (w.heap.size + 1) rfl 71 (Uw (mxl sqh z8n 8)).toArray (0, 0) _ b1 Tryd.underlying71 rfl (size_v8 _ hz) ?_)
        | (refine wpList_store_row rfl 71 _ _ rfl w.heap.size rfl (Uw (mxl sqh z8n 8)).toArray rfl 71 _ b0 (size_v8 _ hz) (by rw [hz]; rfl) (Uw_one _) ?_))
      refine bodyPost_ret (results_cell_row rfl _ _ w.heap.size 71 (Uw (mxl sqh z8n 8)).toArray (0, 0) _ rfl (b0.row _) Tryd.underlying71 rfl (size_v8 _ hz)) rfl ⟨rfl, ?_⟩
      exact below_setRow be (Nat.le_refl _) _
end Go.Proofs.YtlaikmpnijlcbaaDoor
/-
  THE DIGESTS: what a full block does (the function that Sum256 hands over), and the message's end.
-/
namespace Go.Proofs.YtlaikmpnijlcbaaDoor
open Go.RowKit Go.IntWalk Nums

/-- The eight words lie in block gh, the last block's bytes in block gb; all below the one turns nothing else. -/
structure S6 (B gh gb : Nat) (w0 w : World) (o : Oct) (b : List UInt8) : Prop where
  h : Blk w gh 71 (Uw o.list).toArray
  m : Blk w gb 73 (By b).toArray
  ob : OB 32 o
  len : b.length = 64
  ts : Ts w
  be : Below B w0 w
  bh : B ≤ gh
  bb : B ≤ gb
  ne : gh ≠ gb
  ht : 1 < B
section
variable {B gh gb : Nat} {w0 w w' : World} {o : Oct} {b : List UInt8}
theorem S6.up (h : S6 B gh gb w0 w o b) (k : Below w.heap.size w w') (hB : B ≤ w.heap.size) : S6 B gh gb w0 w' o b :=
  ⟨h.h.later k, h.m.later k, h.ob, h.len, h.ts.below k, h.be.trans (k.mono hB), h.bh, h.bb, h.ne, h.ht⟩
theorem S6.rebase (h : S6 B gh gb w0 w o b) : S6 B gh gb w w o b := ⟨h.h, h.m, h.ob, h.len, h.ts, Below.refl _ _, h.bh, h.bb, h.ne, h.ht⟩
theorem S6.since {w1 : World} (h : S6 B gh gb w0 w o b) (k : Below B w1 w0) : S6 B gh gb w1 w o b := ⟨h.h, h.m, h.ob, h.len, h.ts, k.trans h.be, h.bh, h.bb, h.ne, h.ht⟩
theorem S6.size (h : S6 B gh gb w0 w o b) : B ≤ w.heap.size := Nat.le_of_lt (Nat.lt_of_le_of_lt h.bh h.h.lt)
theorem S6.setH (h : S6 B gh gb w0 w o b) {p : Oct} (hp : OB 32 p) : S6 B gh gb w0 (w.setRow gh (Uw p.list).toArray) p b :=
  ⟨h.h.row _, h.m.rowFar (Ne.symm h.ne) _, hp, h.len, h.ts.belowB (below_setRow (Below.refl B w) h.bh _) h.ht, below_setRow h.be h.bh _, h.bh, h.bb, h.ne, h.ht⟩
theorem S6.setM (h : S6 B gh gb w0 w o b) {c : List UInt8} (hc : c.length = 64) : S6 B gh gb w0 (w.setRow gb (By c).toArray) o c :=
  ⟨h.h.rowFar h.ne _, h.m.row _, h.ob, hc, h.ts.belowB (below_setRow (Below.refl B w) h.bb _) h.ht, below_setRow h.be h.bb _, h.bh, h.bb, h.ne, h.ht⟩
theorem S6.setB (h : S6 B gh gb w0 w o b) (k : Nat) (x : UInt8) : S6 B gh gb w0 (w.setCell ⟨gb, k, none⟩ (.int .u8 (x.toNat : Int))) o (b.set k x) where
  h := h.h.far (by show gh ≠ gb; exact h.ne) _
  m := by
    have h4 := h.m.set k (.int .u8 (x.toNat : Int))
    rw [By_set] at h4
    exact h4
  ob := h.ob
  len := by rw [List.length_set]; exact h.len
  ts := h.ts.belowB ((Below.refl B w).setCell (p := ⟨gb, k, none⟩) h.bb _) h.ht
  be := h.be.setCell h.bb _
  bh := h.bh
  bb := h.bb
  ne := h.ne
  ht := h.ht
end

set_option maxRecDepth 100000 in
set_option maxHeartbeats 1000000 in
theorem take256_f {B gh gb : Nat} {w0 w : World} {o : Oct} {b : List UInt8} (h : S6 B gh gb w0 w o b) :
    Calls Tryd.prog 31 #[.pointer (some ⟨gh, 0, none⟩), .pointer (some ⟨gb, 0, none⟩)] w fun e w' => e = .returned (.tuple #[]) ∧ S6 B gh gb w0 w' (turnw s256 o b) b := by
  have HT := turn256_f h.ob h.len w h.ts
  have kh := h.h
  have km := h.m
  have hz : (Uw o.list).toArray.size = 8 := rfl
  have hz2 : (Uw (turnw s256 o b).list).toArray.size = 8 := rfl
  have hb128 := len_b64 h.len
  have hp := OB.turnw s256 o b
  have HK := Lib.hid h
  clear h
  generalize turnw s256 o b = p at *
  go_enter Tryd.func31, Tryd.ntmps31
  go_wp2_with (first
    | (refine wpList_load_row rfl 71 _ rfl gh rfl 71 (Uw o.list).toArray (0, 0) _ kh Tryd.underlying71 rfl (size_v8 _ hz) ?_)
    | (refine wpList_load_row rfl 73 _ rfl gb rfl 73 (By b).toArray (0, 0) _ km Tryd.underlying73 rfl (size_b64 _ hb128) ?_))
  refine HT.mono ?_
  rintro e w1 ⟨rfl, hw1⟩
  have h1 := HK.out.up hw1 HK.out.size
  have kh1 := h1.h
  have H2 := Lib.hid (h1.setH hp)
  clear h1 hw1 HT kh km
  go_wp2_with (refine wpList_store_row rfl 71 _ _ rfl gh rfl (Uw p.list).toArray rfl 71 _ kh1 (size_v8 _ hz2) (by rw [hz, hz2]) (Uw_one _) ?_)
  go_end0
  exact ⟨rfl, H2.out⟩

set_option maxRecDepth 100000 in
set_option maxHeartbeats 4000000 in
theorem end256_f {B gh gb : Nat} {w0 w : World} {o : Oct} {b : List UInt8} (h : S6 B gh gb w0 w o b) (r v : Nat) (hr : r < 64) :
    Calls Tryd.prog 41 #[.slice (some ⟨gb, 0, none⟩) 64 64, .int .i64 (r : Int), .int .u64 (v : Int), .func (.func 31) #[] #[.pointer (some ⟨gh, 0, none⟩), .pointer (some ⟨gb, 0, none⟩)]] w fun e w' =>
      e = .returned (.tuple #[]) ∧ ∃ b', S6 B gh gb w0 w' (runw s256 64 o (b.take r ++ tailw 64 r (8 * v))) b' := by
  have hlen := h.len
  have h1 := end_one (s := s256) (o := o) (v := 8 * v) (n := 64) (by omega) hlen hr
  have h2 := end_two (s := s256) (o := o) (v := 8 * v) (n := 64) (by omega) hlen hr
  have hcl := clr_set hlen hr
  have hS1 : S6 B gh gb w0 (w.setCell ⟨gb, r, none⟩ (.int .u8 128)) o (b.set r 128) := h.setB r 128
  have hsl : (b.set r 128).length = 64 := by rw [List.length_set]; exact hlen
  have hm1 := hS1.m
  have hS2 := hS1.setM (c := clr (b.set r 128) (r + 1)) (by rw [clr_len (by rw [hsl]; omega)]; exact hsl)
  rw [hcl] at hS2
  have hc0 := (h.m.cell r).trans (By_get (by omega))
  have hf0 := h.m.free r
  generalize (b[r]!).toNat = old at *
  have hl1 : (b.take r ++ 128 :: List.replicate (64 - 1 - r) 0).length = 64 := by
    rw [List.length_append, List.length_take, List.length_cons, List.length_replicate]
    omega
  obtain ⟨c1, hc1⟩ : ∃ c, c = b.take r ++ 128 :: List.replicate (64 - 1 - r) 0 := ⟨_, rfl⟩
  rw [← hc1] at hcl hS2 hl1 h1 h2
  have HC := Lib.hid hcl
  have HK := Lib.hid (And.intro h hS2)
  have hr2 : (r : Int) < 64 := by omega
  have hr3 : (0 : Int) ≤ (r : Int) := by omega
  have hx := be64_mod (8 * v)
  have hxe := be64_len (8 * v)
  have hxg := fun i hi => be64_get (v := 8 * v % 18446744073709551616) (i := i) hi
  rw [hx] at hxg
  have hv8 : IntKind.u64.wrap ((v : Int) * 8) = ((8 * v % 18446744073709551616 : Nat) : Int) := by rw [IntKind.wrap_u64]; omega
  have hvb : 8 * v % 18446744073709551616 < 18446744073709551616 := Nat.mod_lt _ (by decide)
  generalize be64 (8 * v) = E at *
  generalize 8 * v % 18446744073709551616 = y at *
  clear hS2 hx h hc1 hcl
  rcases (show r = 63 ∨ r + 1 ≤ 56 ∨ (56 < r + 1 ∧ r < 63) by omega) with rfl | hc | ⟨hc, h63⟩
  · rw [show ((63 : Nat) : Int) = (63 : Int) from rfl]
    go_enter Tryd.func41, Tryd.ntmps41
    go_wp2_with (refine wpl_clear (.tmp 16) rfl rfl gb 64 0 0 (some ⟨gb, 0, none⟩) rfl (fun h => absurd h (by decide)) (b.set 63 128) 73 hm1 (by rw [hsl]) c1 HC ?_)
    have hS := HK.out.2
    clear HK hm1 hc0 hf0 hS1
    refine (take256_f hS).mono ?_
    rintro z w3 ⟨rfl, hS3⟩
    have hm3 := hS3.m
    have hS4 := hS3.setM (c := clr c1 0) (by rw [clr_len (by omega)]; exact hl1)
    have hz4 : clr c1 0 = List.replicate 64 0 := by rw [clr_all, hl1]
    have HF := Lib.hid (h2 (by omega))
    rw [hz4] at hS4
    have hl : (List.replicate 64 (0 : UInt8)).length = 64 := List.length_replicate
    generalize List.replicate 64 (0 : UInt8) = c at *
    generalize turnw s256 o c1 = p at *
    have HZ := Lib.hid hz4
    have HS := Lib.hid hS4
    clear hS hS3 h1 h2 hS4 hz4
    go_wp2_with (refine wpl_clear (.tmp 28) rfl rfl gb 0 64 64 (some ⟨gb, 0, none⟩) rfl (fun _ => rfl) c1 73 hm3 (by rw [hl1]) c HZ ?_)
    clear hm3
    go_loopw [31, 8] (fun i u wr => ∃ k : Nat, k ≤ 8 ∧ i = .int .i64 k ∧ u = .int .u64 ((y / 256 ^ k : Nat) : Int) ∧ S6 B gh gb w0 wr p (eig c E 64 k)) (fun i _ _ => 8 - (intOf i).toNat)
    case atStart =>
      refine ⟨0, by omega, rfl, by rw [Nat.pow_zero, Nat.div_one], ?_⟩
      rw [eig_zero hl hxe]
      exact HS.out
    case round =>
      clear HS
      obtain ⟨k, hk, rfl, rfl, hS⟩ := hrel
      by_cases hkl : k < 8
      · have hN := hS.setB (63 - k) E[7 - k]!
        have hset := eig_set hl hxe hkl (by omega)
        rw [show 64 - 1 - k = 63 - k by omega] at hset
        rw [hset] at hN
        have hb := hxg k hkl
        have hdiv : y / 256 ^ (k + 1) = y / 256 ^ k / 256 := by rw [Nat.pow_succ, Nat.div_div_eq_div_mul]
        have hle : y / 256 ^ k < 18446744073709551616 := Nat.lt_of_le_of_lt (Nat.div_le_self _ _) hvb
        have c2 := (hS.m.cell (63 - k)).trans (By_get (by rw [eig_len hl hxe (by omega) (by omega)]; omega))
        have f2 := hS.m.free (63 - k)
        generalize y / 256 ^ k = z at *
        have q4 : IntKind.u8.wrap (z : Int) = ((E[7 - k]!).toNat : Int) := by
          rw [IntKind.wrap_u8', hb]
          omega
        have q5 : (z : Int) / 256 = ((z / 256 : Nat) : Int) := by omega
        have g5 : (0 : Int) ≤ (k : Int) := by omega
        have HN := Lib.hid (And.intro hN hdiv)
        clear hS hN hdiv hb hset hxg
        generalize (E[7 - k]!).toNat = x at *
        generalize ((eig c E 64 k)[63 - k]!).toNat = old2 at *
        generalize z / 256 = z2 at *
        go_wp2
        go_roundw
        case rel =>
          obtain ⟨hN, hdiv⟩ := HN.out
          exact ⟨k + 1, by omega, by go_num, by rw [hdiv], hN⟩
        case measure => simp [intOf]; omega
      · obtain rfl : k = 8 := by omega
        have HT := take256_f hS
        rw [HF.out] at HT
        have HT := Lib.hid HT
        clear hS hxg
        go_wp2_with (fail)
        refine HT.out.mono ?_
        rintro z w5 ⟨rfl, hS6⟩
        go_wp2_with (fail)
        go_end0
        exact ⟨rfl, _, hS6⟩
  · go_enter Tryd.func41, Tryd.ntmps41
    go_wp2_with (refine wpl_clear (.tmp 16) rfl rfl gb (r + 1) (63 - r) (63 - r) (some ⟨gb, r + 1, none⟩) rfl (fun _ => rfl) (b.set r 128) 73 hm1 (by rw [hsl]; omega) c1 HC ?_)
    have HF := Lib.hid (h1 (by omega))
    have HS := Lib.hid HK.out.2
    have hl := hl1
    clear HK h1 h2 hl1 hm1 hc0 hf0 hS1
    generalize c1 = c at *
    go_loopw [31, 8] (fun i u wr => ∃ k : Nat, k ≤ 8 ∧ i = .int .i64 k ∧ u = .int .u64 ((y / 256 ^ k : Nat) : Int) ∧ S6 B gh gb w0 wr o (eig c E 64 k)) (fun i _ _ => 8 - (intOf i).toNat)
    case atStart =>
      refine ⟨0, by omega, rfl, by rw [Nat.pow_zero, Nat.div_one], ?_⟩
      rw [eig_zero hl hxe]
      exact HS.out
    case round =>
      clear HS
      obtain ⟨k, hk, rfl, rfl, hS⟩ := hrel
      by_cases hkl : k < 8
      · have hN := hS.setB (63 - k) E[7 - k]!
        have hset := eig_set hl hxe hkl (by omega)
        rw [show 64 - 1 - k = 63 - k by omega] at hset
        rw [hset] at hN
        have hb := hxg k hkl
        have hdiv : y / 256 ^ (k + 1) = y / 256 ^ k / 256 := by rw [Nat.pow_succ, Nat.div_div_eq_div_mul]
        have hle : y / 256 ^ k < 18446744073709551616 := Nat.lt_of_le_of_lt (Nat.div_le_self _ _) hvb
        have c2 := (hS.m.cell (63 - k)).trans (By_get (by rw [eig_len hl hxe (by omega) (by omega)]; omega))
        have f2 := hS.m.free (63 - k)
        generalize y / 256 ^ k = z at *
        have q4 : IntKind.u8.wrap (z : Int) = ((E[7 - k]!).toNat : Int) := by
          rw [IntKind.wrap_u8', hb]
          omega
        have q5 : (z : Int) / 256 = ((z / 256 : Nat) : Int) := by omega
        have g5 : (0 : Int) ≤ (k : Int) := by omega
        have HN := Lib.hid (And.intro hN hdiv)
        clear hS hN hdiv hb hset hxg
        generalize (E[7 - k]!).toNat = x at *
        generalize ((eig c E 64 k)[63 - k]!).toNat = old2 at *
        generalize z / 256 = z2 at *
        go_wp2
        go_roundw
        case rel =>
          obtain ⟨hN, hdiv⟩ := HN.out
          exact ⟨k + 1, by omega, by go_num, by rw [hdiv], hN⟩
        case measure => simp [intOf]; omega
      · obtain rfl : k = 8 := by omega
        have HT := take256_f hS
        rw [HF.out] at HT
        have HT := Lib.hid HT
        clear hS hxg
        go_wp2_with (fail)
        refine HT.out.mono ?_
        rintro z w5 ⟨rfl, hS6⟩
        go_wp2_with (fail)
        go_end0
        exact ⟨rfl, _, hS6⟩
  · go_enter Tryd.func41, Tryd.ntmps41
    go_wp2_with (refine wpl_clear (.tmp 16) rfl rfl gb (r + 1) (63 - r) (63 - r) (some ⟨gb, r + 1, none⟩) rfl (fun _ => rfl) (b.set r 128) 73 hm1 (by rw [hsl]; omega) c1 HC ?_)
    have hS := HK.out.2
    clear HK hm1 hc0 hf0 hS1
    refine (take256_f hS).mono ?_
    rintro z w3 ⟨rfl, hS3⟩
    have hm3 := hS3.m
    have hS4 := hS3.setM (c := clr c1 0) (by rw [clr_len (by omega)]; exact hl1)
    have hz4 : clr c1 0 = List.replicate 64 0 := by rw [clr_all, hl1]
    have HF := Lib.hid (h2 (by omega))
    rw [hz4] at hS4
    have hl : (List.replicate 64 (0 : UInt8)).length = 64 := List.length_replicate
    generalize List.replicate 64 (0 : UInt8) = c at *
    generalize turnw s256 o c1 = p at *
    have HZ := Lib.hid hz4
    have HS := Lib.hid hS4
    clear hS hS3 h1 h2 hS4 hz4
    go_wp2_with (refine wpl_clear (.tmp 28) rfl rfl gb 0 64 64 (some ⟨gb, 0, none⟩) rfl (fun _ => rfl) c1 73 hm3 (by rw [hl1]) c HZ ?_)
    clear hm3
    go_loopw [31, 8] (fun i u wr => ∃ k : Nat, k ≤ 8 ∧ i = .int .i64 k ∧ u = .int .u64 ((y / 256 ^ k : Nat) : Int) ∧ S6 B gh gb w0 wr p (eig c E 64 k)) (fun i _ _ => 8 - (intOf i).toNat)
    case atStart =>
      refine ⟨0, by omega, rfl, by rw [Nat.pow_zero, Nat.div_one], ?_⟩
      rw [eig_zero hl hxe]
      exact HS.out
    case round =>
      clear HS
      obtain ⟨k, hk, rfl, rfl, hS⟩ := hrel
      by_cases hkl : k < 8
      · have hN := hS.setB (63 - k) E[7 - k]!
        have hset := eig_set hl hxe hkl (by omega)
        rw [show 64 - 1 - k = 63 - k by omega] at hset
        rw [hset] at hN
        have hb := hxg k hkl
        have hdiv : y / 256 ^ (k + 1) = y / 256 ^ k / 256 := by rw [Nat.pow_succ, Nat.div_div_eq_div_mul]
        have hle : y / 256 ^ k < 18446744073709551616 := Nat.lt_of_le_of_lt (Nat.div_le_self _ _) hvb
        have c2 := (hS.m.cell (63 - k)).trans (By_get (by rw [eig_len hl hxe (by omega) (by omega)]; omega))
        have f2 := hS.m.free (63 - k)
        generalize y / 256 ^ k = z at *
        have q4 : IntKind.u8.wrap (z : Int) = ((E[7 - k]!).toNat : Int) := by
          rw [IntKind.wrap_u8', hb]
          omega
        have q5 : (z : Int) / 256 = ((z / 256 : Nat) : Int) := by omega
        have g5 : (0 : Int) ≤ (k : Int) := by omega
        have HN := Lib.hid (And.intro hN hdiv)
        clear hS hN hdiv hb hset hxg
        generalize (E[7 - k]!).toNat = x at *
        generalize ((eig c E 64 k)[63 - k]!).toNat = old2 at *
        generalize z / 256 = z2 at *
        go_wp2
        go_roundw
        case rel =>
          obtain ⟨hN, hdiv⟩ := HN.out
          exact ⟨k + 1, by omega, by go_num, by rw [hdiv], hN⟩
        case measure => simp [intOf]; omega
      · obtain rfl : k = 8 := by omega
        have HT := take256_f hS
        rw [HF.out] at HT
        have HT := Lib.hid HT
        clear hS hxg
        go_wp2_with (fail)
        refine HT.out.mono ?_
        rintro z w5 ⟨rfl, hS6⟩
        go_wp2_with (fail)
        go_end0
        exact ⟨rfl, _, hS6⟩
end Go.Proofs.YtlaikmpnijlcbaaDoor
