/-
  SEVERAL TEXTS IN ONE: TrN, Vx, Vz, Clear, End512, EndW512, Fill512, Sum512, Rot32, Uw, Long256, Turn256.
-/
import Derived.Test.YtoecohpcnojokaaDoorMg
import Derived.Test.YtoecohpcnojokaaDoorMf
import Derived.Test.YtoecohpcnojokaaDoorMb
/-
  THE PROGRAM'S TREE: its nodes as they lie in memory; a key's bit, a node's root, how many pairs.
-/
namespace Go.Proofs.YtoecohpcnojokaaDoor
open Go.RowKit Go.IntWalk Nums

/-! ### Nodes -/
/-- A node: where it lies, its pair or its sides. -/
inductive TA where
  | nil
  | leaf (g h : Nat) (p : PairT)
  | node (g : Nat) (a b : TA)
namespace TA
def ptr : TA → Option Nat
  | nil => none
  | leaf g _ _ => some g
  | node g _ _ => some g
def root : TA → List UInt8
  | nil => z32T
  | leaf _ _ p => leafT p
  | node _ a b => nodeT a.root b.root
def len : TA → Nat
  | nil => 0
  | leaf _ _ _ => 1
  | node _ a b => a.len + b.len
def val (t : TA) : Value := .pointer (t.ptr.map fun g => ⟨g, 0, none⟩)
/-- All pairs, the left side's first. -/
def all : TA → List PairT
  | nil => []
  | leaf _ _ p => [p]
  | node _ a b => a.all ++ b.all
end TA
def prPs (p : PairT) : List Pt := [.agg 32 (By p.1).toArray, .agg 32 (By p.2).toArray]
def lfPs (h : Nat) (p : PairT) : List Pt := [.agg 32 (By (leafT p)).toArray, .one (.v (.int .i64 1)), .one (.v (.pointer (some ⟨h, 0, none⟩))), .agg 2 #[.pointer none, .pointer none]]
def ndPs (a b : TA) : List Pt := [.agg 32 (By (nodeT a.root b.root)).toArray, .one (.v (.int .i64 ((a.len + b.len : Nat) : Int))), .one (.v (.pointer none)), .agg 2 #[a.val, b.val]]
/-- The nodes lie in the world. -/
def TF : TA → World → Prop
  | .nil, _ => True
  | .leaf g h p, w => ObjF g 116 (lfPs h p) w ∧ ObjF h 98 (prPs p) w
  | .node g a b, w => ObjF g 116 (ndPs a b) w ∧ TF a w ∧ TF b w
theorem TF.later : ∀ {t : TA} {w w' : World}, TF t w → Below w.heap.size w w' → TF t w'
  | .nil, _, _, _, _ => trivial
  | .leaf _ _ _, _, _, h, k => ⟨⟨h.1.1.later k, h.1.2⟩, ⟨h.2.1.later k, h.2.2⟩⟩
  | .node _ _ _, _, _, h, k => ⟨⟨h.1.1.later k, h.1.2⟩, h.2.1.later k, h.2.2.later k⟩
instance {t : TA} : Pst (TF t) := ⟨fun _ _ h k => h.later k⟩
theorem TA.root_len : ∀ t : TA, t.root.length = 32
  | .nil => rfl
  | .leaf _ _ _ => digest256_len _
  | .node _ _ _ => digest256_len _
/-- Which pairs they stand for, r bits left. -/
def TOk : Nat → List PairT → TA → Prop
  | _, l, .nil => l = []
  | _, l, .leaf _ _ p => l = [p]
  | 0, _, .node _ _ _ => False
  | r + 1, l, .node _ a b => 2 ≤ l.length ∧ TOk r (leftT (255 - r) l) a ∧ TOk r (rightT (255 - r) l) b
theorem TOk.root : ∀ {r : Nat} {l : List PairT} {t : TA}, TOk r l t → t.root = rootT r l
  | r, l, .nil, h => by
    have h : l = [] := by cases r <;> exact h
    subst h
    exact (rootT_nil r).symm
  | r, l, .leaf _ _ p, h => by
    have h : l = [p] := by cases r <;> exact h
    subst h
    exact (rootT_one r p).symm
  | 0, _, .node _ _ _, h => h.elim
  | r + 1, l, .node _ a b, h => by
    obtain ⟨h1, h2, h3⟩ := h
    rw [rootT_node h1, ← h2.root, ← h3.root]
    rfl
theorem sides_len (d : Nat) (l : List PairT) : (leftT d l).length + (rightT d l).length = l.length := by
  unfold leftT rightT
  induction l with
  | nil => rfl
  | cons x l ih =>
    by_cases h : bitT x.1 d = 0
    · simp [h] at ih ⊢
      omega
    · simp [h] at ih ⊢
      omega
theorem TOk.len : ∀ {r : Nat} {l : List PairT} {t : TA}, TOk r l t → t.len = l.length
  | r, l, .nil, h => by
    have h : l = [] := by cases r <;> exact h
    subst h
    rfl
  | r, l, .leaf _ _ p, h => by
    have h : l = [p] := by cases r <;> exact h
    subst h
    rfl
  | 0, _, .node _ _ _, h => h.elim
  | r + 1, l, .node _ a b, h => by
    obtain ⟨h1, h2, h3⟩ := h
    have := sides_len (255 - r) l
    show a.len + b.len = _
    rw [h2.len, h3.len, this]

/-! ### Steps at bytes -/
theorem low1T (m : Nat) (h : m < 256) : bits .and .u8 (m : Int) 1 = ((m % 2 : Nat) : Int) := by
  have key : ∀ m : Nat, m < 256 → bits .and .u8 (m : Int) 1 = ((m % 2 : Nat) : Int) := by decide +kernel
  exact key m h
theorem run_shr8 {N : Nat} {E : SE} {o : Oper} {x y : Operand} {t' : TypeId} {m n : Nat} (hn : n ≤ 8) (ho : o.op = .binOp .shr 5 x y t') (hx : evS E x = some (.v (.int .u8 (m : Int)))) (hy : evS E y = some (.v (.int .u8 (n : Int)))) :
    ∀ (G : Nat → Nat) (a : Act) (w : World), Fr N (denE G E) a → (execOp a.eval o).run Tryd.prog w = .ok (.value ((SV.v (.int .u8 ((m / 2 ^ n : Nat) : Int))).den G)) w := fun G a w ha => by
  have h1 : a.eval x = .int .u8 (m : Int) := ha.eval (evS_ok hx)
  have h2 : a.eval y = .int .u8 (n : Int) := ha.eval (evS_ok hy)
  have h3 : (n : Int) ≤ 8 := by omega
  unfold execOp
  simp only [ho, h1, h2]
  go_simp
  rfl
theorem run_and8 {N : Nat} {E : SE} {o : Oper} {x y : Operand} {t' : TypeId} {m n : Int} (ho : o.op = .binOp .and 5 x y t') (hx : evS E x = some (.v (.int .u8 m))) (hy : evS E y = some (.v (.int .u8 n))) :
    ∀ (G : Nat → Nat) (a : Act) (w : World), Fr N (denE G E) a → (execOp a.eval o).run Tryd.prog w = .ok (.value ((SV.v (.int .u8 (bits .and .u8 m n))).den G)) w := fun G a w ha => by
  have h1 : a.eval x = .int .u8 m := ha.eval (evS_ok hx)
  have h2 : a.eval y = .int .u8 n := ha.eval (evS_ok hy)
  unfold execOp
  simp only [ho, h1, h2]
  go_simp
  rfl
theorem wrapB {m r : Int} (h : m = r) (h1 : 0 ≤ r) (h2 : r < 256) : IntKind.u8.wrap m = r := by
  subst h
  unfold IntKind.wrap
  simp [IntKind.bits, IntKind.signed]
  omega
theorem own_tbit : Own 58 := fun _ _ => by go_simp
set_option maxRecDepth 100000 in
set_option maxHeartbeats 1000000 in
theorem tbit_S {k : List UInt8} (hk : k.length = 32) (n : Nat) (hn : n < 256) : Spec 58 [(eY 32 k).den, .int .u8 (n : Int)] [] (fun _ => True) (one (.v (.int .u8 ((bitT k n : Nat) : Int)))) := by
  refine spec_S [eY 32 k, .c (.v (.int .u8 (n : Int)))] 14 Tryd.func58 rfl (by rw [Tryd.ntmps58]; rfl) (two_ok (eY_ok hk).1 trivial) fun b => ?_
  refine s_auto TY_ok rfl ?_
  refine s_regA TY_ok rfl fun K hK => ?_
  refine l_num 6 ((n / 8 : Nat) : Int) rfl (wrapB (by rw [Int.tdiv_eq_ediv_of_nonneg (by omega)]; omega) (by omega) (by omega)) ?_
  refine l_op (.a 2 (0 + 1 * (n / 8))) trivial rfl rfl rfl (runO_ixA (n / 8) rfl Tryd.underlying38 rfl rfl rfl (by omega)) ?_
  refine l_opV (.v (.int .u8 ((k[n / 8]!).toNat : Int))) trivial rfl rfl rfl (runO_ldA _ rfl rfl rfl (row_at (by omega)) Tryd.underlying5 rfl) ?_
  have hlt := (k[n / 8]!).toNat_lt
  have hb : bitT k n = (k[n / 8]!).toNat / 2 ^ (7 - n % 8) % 2 := rfl
  generalize (k[n / 8]!).toNat = v at *
  refine l_autoS TY_ok rfl ?_
  refine l_num 11 ((7 - n % 8 : Nat) : Int) rfl (wrapB (by rw [Int.tmod_eq_emod_of_nonneg (by omega)]; omega) (by omega) (by omega)) ?_
  refine l_op (.v (.int .u8 ((v / 2 ^ (7 - n % 8) : Nat) : Int))) trivial rfl rfl rfl (run_shr8 (by omega) rfl rfl rfl) ?_
  have h2 : v / 2 ^ (7 - n % 8) < 256 := Nat.lt_of_le_of_lt (Nat.div_le_self _ _) hlt
  generalize v / 2 ^ (7 - n % 8) = z at *
  refine l_op (.v (.int .u8 (bits .and .u8 (z : Int) 1))) trivial rfl rfl rfl (run_and8 rfl rfl rfl) ?_
  refine l_num 13 ((z % 2 : Nat) : Int) rfl (low1T z h2) ?_
  refine l_autoS TY_ok rfl ?_
  refine s_end (hK _ ?_)
  exact s_ret (k_ret TY_ok () rfl (by decide) rfl (congrArg (fun x : Nat => RV.v (.int .u8 (x : Int))) hb) rfl (fun _ _ _ => trivial) (fun _ _ => trivial))
theorem own_thash : Own 32 := fun _ _ => by go_simp
theorem own_tsize : Own 43 := fun _ _ => by go_simp
set_option maxRecDepth 100000 in
set_option maxHeartbeats 1000000 in
theorem tsize_S (t : TA) : Spec 43 [t.val] [] (TF t) (one (.v (.int .i64 (t.len : Int)))) := by
  refine spec_S [.c (.v t.val)] 9 Tryd.func43 rfl (by rw [Tryd.ntmps43]; rfl) (one_ok trivial) fun b => ?_
  refine s_auto TY_ok rfl ?_
  refine s_seq fun K hK => ?_
  cases t with
  | nil =>
    refine s_auto TY_ok rfl ?_
    refine s_yes rfl ?_
    refine s_auto TY_ok rfl ?_
    exact s_ret (k_ret TY_ok () rfl (by decide) rfl rfl rfl (fun _ _ _ => trivial) (fun _ _ => trivial))
  | leaf g h p =>
    refine s_auto TY_ok rfl ?_
    refine s_no rfl ?_
    refine s_skip (hK _ ?_)
    refine s_regA TY_ok rfl fun K2 hK2 => ?_
    refine l_ldO TY_ok rfl rfl rfl rfl rfl rfl (obj_fact fun _ h _ => h.1) ?_
    refine l_autoS TY_ok rfl ?_
    refine s_end (hK2 _ ?_)
    exact s_ret (k_ret TY_ok () rfl (by decide) rfl rfl rfl (fun _ _ _ => trivial) (fun _ _ => trivial))
  | node g x y =>
    refine s_auto TY_ok rfl ?_
    refine s_no rfl ?_
    refine s_skip (hK _ ?_)
    refine s_regA TY_ok rfl fun K2 hK2 => ?_
    refine l_ldO TY_ok rfl rfl rfl rfl rfl rfl (obj_fact fun _ h _ => h.1) ?_
    refine l_autoS TY_ok rfl ?_
    refine s_end (hK2 _ ?_)
    exact s_ret (k_ret TY_ok () rfl (by decide) rfl rfl rfl (fun _ _ _ => trivial) (fun _ _ => trivial))
set_option maxRecDepth 100000 in
set_option maxHeartbeats 1000000 in
theorem thash_S (t : TA) : Spec 32 [t.val] [] (TF t) (one (.q (eY 32 t.root))) := by
  refine spec_S [.c (.v t.val)] 10 Tryd.func32 rfl (by rw [Tryd.ntmps32]; rfl) (one_ok trivial) fun b => ?_
  refine s_auto TY_ok rfl ?_
  refine s_seq fun K hK => ?_
  cases t with
  | nil =>
    refine s_auto TY_ok rfl ?_
    refine s_yes rfl ?_
    refine s_auto TY_ok rfl ?_
    exact s_ret (k_ret TY_ok () rfl (by decide) rfl rfl rfl (fun _ _ _ => trivial) (fun _ _ => trivial))
  | leaf g h p =>
    refine s_auto TY_ok rfl ?_
    refine s_no rfl ?_
    refine s_skip (hK _ ?_)
    refine s_regA TY_ok rfl fun K2 hK2 => ?_
    refine l_ldO TY_ok rfl rfl rfl rfl rfl rfl (obj_fact fun _ h _ => h.1) ?_
    refine l_autoS TY_ok rfl ?_
    refine s_end (hK2 _ ?_)
    exact s_ret (k_ret TY_ok () rfl (by decide) rfl rfl rfl (fun _ _ _ => trivial) (fun _ _ => trivial))
  | node g x y =>
    refine s_auto TY_ok rfl ?_
    refine s_no rfl ?_
    refine s_skip (hK _ ?_)
    refine s_regA TY_ok rfl fun K2 hK2 => ?_
    refine l_ldO TY_ok rfl rfl rfl rfl rfl rfl (obj_fact fun _ h _ => h.1) ?_
    refine l_autoS TY_ok rfl ?_
    refine s_end (hK2 _ ?_)
    exact s_ret (k_ret TY_ok () rfl (by decide) rfl rfl rfl (fun _ _ _ => trivial) (fun _ _ => trivial))
end Go.Proofs.YtoecohpcnojokaaDoor
/-
  DRAWN REGIONS, over states: those that make some new variables at once ('x, y := ..'); those of which any operations may be taken first, the others in their order.
-/
namespace Go.Proofs.YtoecohpcnojokaaDoor
open Go.RowKit Go.IntWalk

/-! ### New variables, some at once -/
/-- Where the new ones lie, and the elder ones. -/
def gOf : List LV → Nat → (Nat → Nat) → (Nat → Nat) → Nat → Nat
  | [], _, _, G, j => G j
  | u :: us, i, gs, G, j => if j = u.j then gs i else gOf us (i + 1) gs G j
def ptrV : List LV → SE → SE
  | [], E => E
  | u :: us, E => (u.j, .a u.j 0) :: ptrV us E
/-- The variables' slots, types, first cells. -/
def nvL : List LV → List (Array Value) → List NV
  | u :: us, z :: zs => ⟨u.j, u.t, z⟩ :: nvL us zs
  | _, _ => []
def freeV (E : SE) (L : List LV) : List LV → Bool
  | [] => true
  | u :: us => farL u.j L && farE u.j E && (match u.g with | none => true | some _ => false) && farL u.j us && freeV E L us
theorem gOf_far {gs G : Nat → Nat} {j : Nat} : ∀ {us : List LV} {i : Nat}, j ∉ namesL us → gOf us i gs G j = G j
  | [], _, _ => rfl
  | u :: us, i, h => by
    unfold gOf
    rw [if_neg fun e => h (by rw [e]; exact List.mem_cons_self)]
    exact gOf_far fun h2 => h (List.mem_cons_of_mem _ h2)
theorem gOf_mem {gs G : Nat → Nat} : ∀ {us : List LV} {i j : Nat} , j ∈ namesL us → ∃ k, i ≤ k ∧ k < i + us.length ∧ gOf us i gs G j = gs k
  | [], _, _, h => by cases h
  | u :: us, i, j, h => by
    unfold gOf
    by_cases e : j = u.j
    · rw [if_pos e]
      exact ⟨i, Nat.le_refl _, by simp, rfl⟩
    · rw [if_neg e]
      rcases List.mem_cons.1 h with e2 | h
      · exact absurd e2 e
      · obtain ⟨k, h1, h2, h3⟩ := gOf_mem (i := i + 1) h
        exact ⟨k, by omega, by simp only [List.length_cons]; omega, h3⟩
theorem freeV_far {E : SE} {L : List LV} : ∀ {us : List LV}, freeV E L us = true → ∀ u ∈ us, farL u.j L = true ∧ farE u.j E = true ∧ u.g = none
  | [], _, u, h => by cases h
  | v :: us, hf, u, h => by
    simp only [freeV, Bool.and_eq_true] at hf
    obtain ⟨⟨⟨⟨h1, h2⟩, h3⟩, h4⟩, h5⟩ := hf
    rcases List.mem_cons.1 h with rfl | h
    · refine ⟨h1, h2, ?_⟩
      cases hg : u.g with
      | none => rfl
      | some x => rw [hg] at h3; cases h3
    · exact freeV_far h5 u h
section
variable {P : Program} {T : List TyR} {b : Base} {ops : Array Oper} {Q : Exit → Act → World → Prop} {N : Nat} {G gs : Nat → Nat} {S : Nat → Prop} {E : SE} {L : List LV} {R : List Res} {F M : World → Prop} {w0 w' : World}
theorem gOf_pair {i0 : Nat} : ∀ {us : List LV} {i : Nat}, freeV E L us = true → (∀ k l, i0 ≤ k → k < i + us.length → i0 ≤ l → l < i + us.length → k ≠ l → gs k ≠ gs l) → i0 ≤ i → (namesL us).Pairwise fun x y => gOf us i gs G x ≠ gOf us i gs G y
  | [], _, _, _, _ => List.Pairwise.nil
  | u :: us, i, hf, hd, hi => by
    simp only [freeV, Bool.and_eq_true] at hf
    obtain ⟨⟨_, h4⟩, h5⟩ := hf
    have hn := farL_mem h4
    have hne : ∀ j ∈ namesL us, gOf (u :: us) i gs G j = gOf us (i + 1) gs G j := fun j hj => by
      show (if j = u.j then _ else _) = _
      rw [if_neg fun e => hn (by rw [← e]; exact hj)]
    refine List.Pairwise.cons (fun j hj => ?_) ?_
    · rw [hne j hj]
      show (if u.j = u.j then gs i else _) ≠ _
      rw [if_pos rfl]
      obtain ⟨k, h1, h2, h3⟩ := gOf_mem (gs := gs) (G := G) (i := i + 1) hj
      rw [h3]
      exact hd i k (by omega) (by simp only [List.length_cons]; omega) (by omega) (by simp only [List.length_cons]; omega) (by omega)
    · refine (gOf_pair (us := us) (i := i + 1) h5 (fun k l a b c d => hd k l a (by simp only [List.length_cons]; omega) c (by simp only [List.length_cons]; omega)) (by omega)).imp_of_mem fun {x y} hx hy h => ?_
      rw [hne x hx, hne y hy]
      exact h
theorem gOf_blk (G : Nat → Nat) : ∀ {us : List LV} {zs : List (Array Value)} {i : Nat}, freeV E L us = true → us.length = zs.length → blks w' (nvL us zs) (us.map fun u => catP u.ps) i gs → ∀ u ∈ us, Blk w' (gOf us i gs G u.j) u.t (catP u.ps)
  | [], _, _, _, _, _, u, h => by cases h
  | _ :: _, [], _, _, hl, _, _, _ => by cases hl
  | v :: us, z :: zs, i, hf, hl, hb, u, h => by
    simp only [freeV, Bool.and_eq_true] at hf
    obtain ⟨⟨_, h4⟩, h5⟩ := hf
    have hn := farL_mem h4
    obtain ⟨hb1, hb2⟩ := hb
    rcases List.mem_cons.1 h with rfl | h
    · show Blk w' (if u.j = u.j then gs i else _) _ _
      rw [if_pos rfl]
      exact hb1
    · have := gOf_blk G h5 (by simpa using hl) hb2 u h
      show Blk w' (if u.j = v.j then _ else _) _ _
      rw [if_neg fun e => hn (by rw [← e]; exact List.mem_map.2 ⟨u, h, rfl⟩)]
      exact this
/-- Some new variables. -/
theorem StW.news (h : StW b G S L R F M w0) (hU : Up w0 w') (us : List LV) (hf : freeV E L us = true) (hp : ∀ u ∈ us, OkP u.ps) (hge : ∀ j, j < us.length → w0.heap.size ≤ gs j) (hd : ∀ i j, i < us.length → j < us.length → i ≠ j → gs i ≠ gs j) (hb : ∀ u ∈ us, Blk w' (gOf us 0 gs G u.j) u.t (catP u.ps)) :
    StW b (gOf us 0 gs G) S (us ++ L) R F M w' := by
  have h1 := h.later hU
  have hfr := freeV_far hf
  have hno : ∀ j ∈ namesL L, j ∉ namesL us := fun j hj hj2 => by
    obtain ⟨u, hu, rfl⟩ := List.mem_map.1 hj2
    exact farL_mem (hfr u hu).1 hj
  have hG : ∀ j ∈ namesL L, gOf us 0 gs G j = G j := fun j hj => gOf_far (hno j hj)
  have hlt : ∀ i ∈ namesL L, G i < w0.heap.size := fun i hi => h.lt _ (.inr ⟨i, hi, rfl⟩)
  have hnew : ∀ j ∈ namesL us, w0.heap.size ≤ gOf us 0 gs G j := fun j hj => by
    obtain ⟨k, h2, h3, h4⟩ := gOf_mem (gs := gs) (G := G) (i := 0) hj
    rw [h4]
    exact hge k (by omega)
  have hnames : namesL (us ++ L) = namesL us ++ namesL L := List.map_append
  have hM : ∀ k, Mine S (gOf us 0 gs G) (us ++ L) k → w0.heap.size ≤ k ∨ Mine S G L k := fun k hk => by
    rcases hk with hk | ⟨i, hi, rfl⟩
    · exact .inr (.inl hk)
    · rw [hnames] at hi
      rcases List.mem_append.1 hi with hi | hi
      · exact .inl (hnew i hi)
      · exact .inr (.inr ⟨i, hi, (hG i hi).symm⟩)
  refine ⟨fun x hx => ?_, ?_, h1.res, fun i hi => ?_, ?_, ?_, h1.chg, fun k hk hlt2 => ?_, h.old⟩
  · rcases List.mem_append.1 hx with hx | hx
    · exact ⟨hb x hx, hp x hx, fun g hg => by rw [(hfr x hx).2.2] at hg; cases hg⟩
    · rw [hG _ (List.mem_map.2 ⟨x, hx, rfl⟩)]
      exact h1.var x hx
  · rw [hnames]
    refine List.pairwise_append.2 ⟨gOf_pair (i0 := 0) hf (fun k l _ a _ c => hd k l (by omega) (by omega)) (Nat.le_refl _), h.apart.imp_of_mem fun {x y} hx hy e => ?_, fun i hi j hj => ?_⟩
    · rw [hG x hx, hG y hy]
      exact e
    · have := hnew i hi
      have := hlt j hj
      rw [hG j hj]
      omega
  · rw [hnames] at hi
    rcases List.mem_append.1 hi with hi | hi
    · intro hs
      have := h.res.lt _ hs
      have := hnew i hi
      omega
    · rw [hG i hi]
      exact h.sep i hi
  · refine h.fact.past (Chg.of_up hU) fun i hi hd => ?_
    rcases hd with hd | hd
    · exact .inl hd
    · rcases hM i hd with h2 | hd
      · exact absurd hi (Nat.not_lt.2 h2)
      · exact .inr hd
  · refine h.fresh.past (Chg.of_up hU) fun i hi hd => ?_
    rcases hd with hd | hd
    · exact .inl hd
    · rcases hM i hd with h2 | hd
      · exact absurd hi (Nat.not_lt.2 h2)
      · exact .inr hd
  · rcases hM k hk with h2 | h2
    · have := h.chg.size
      omega
    · exact h.mine k h2 hlt2
theorem den_gOf {us : List LV} {i : Nat} {v : SV} (h : ∀ u ∈ us, v.farB u.j = true) : v.den (gOf us i gs G) = v.den G := by
  induction us generalizing i with
  | nil => rfl
  | cons u us ih =>
    have h1 := h u List.mem_cons_self
    have h2 := ih (i := i + 1) fun x hx => h x (List.mem_cons_of_mem _ hx)
    rw [← h2]
    cases v with
    | a j off =>
      have h1 : (!Nat.beq j u.j) = true := h1
      have : j ≠ u.j := fun e => by rw [e] at h1; simp at h1
      show Value.pointer (some ⟨gOf (u :: us) i gs G j, off, none⟩) = _
      unfold gOf
      rw [if_neg this]
      rfl
    | s j off n c =>
      have h1 : (!Nat.beq j u.j) = true := h1
      have : j ≠ u.j := fun e => by rw [e] at h1; simp at h1
      show Value.slice (some ⟨gOf (u :: us) i gs G j, off, none⟩) n c = _
      unfold gOf
      rw [if_neg this]
      rfl
    | q x => rfl
    | t vs => rfl
theorem denE_gOf {us : List LV} : ∀ {E : SE}, (∀ u ∈ us, farE u.j E = true) → denE (gOf us 0 gs G) E = denE G E
  | [], _ => rfl
  | (k, v) :: r, h => by
    have h1 : ∀ u ∈ us, v.farB u.j = true ∧ farE u.j r = true := fun u hu => by
      have := h u hu
      unfold farE at this
      rw [List.all_cons, Bool.and_eq_true] at this
      exact this
    rw [denE, denE, den_gOf fun u hu => (h1 u hu).1, denE_gOf fun u hu => (h1 u hu).2]
theorem ptrV_den : ∀ {us : List LV} {zs : List (Array Value)} {i : Nat} {E1 : List (Nat × Value)} {G0 : Nat → Nat}, freeV E L us = true → us.length = zs.length → (∀ j ∈ namesL us, G0 j = gOf us i gs G j) → denE G0 E = E1 → denE G0 (ptrV us E) = ptrs (nvL us zs) i gs E1
  | [], [], _, _, _, _, _, _, h => h
  | u :: us, z :: zs, i, E1, G0, hf, hl, hg, h => by
    simp only [freeV, Bool.and_eq_true] at hf
    obtain ⟨⟨_, h4⟩, h5⟩ := hf
    have hn := farL_mem h4
    have h0 := hg u.j List.mem_cons_self
    have e0 : G0 u.j = gs i := by
      rw [h0]
      unfold gOf
      rw [if_pos rfl]
    show (u.j, Value.pointer (some ⟨G0 u.j, 0, none⟩)) :: denE G0 (ptrV us E) = (u.j, Value.pointer (some ⟨gs i, 0, none⟩)) :: ptrs (nvL us zs) (i + 1) gs E1
    rw [e0, ptrV_den (i := i + 1) h5 (by simpa using hl) (fun j hj => ?_) h]
    rw [hg j (List.mem_cons_of_mem _ hj)]
    show (if j = u.j then _ else _) = _
    rw [if_neg fun e => hn (by rw [← e]; exact hj)]
  | [], _ :: _, _, _, _, _, hl, _, _ => by cases hl
  | _ :: _, [], _, _, _, _, hl, _, _ => by cases hl
theorem ptrV_ok : ∀ {us : List LV}, OkE E → OkE (ptrV us E)
  | [], h => h
  | _ :: us, h => (ptrV_ok (us := us) h).cons trivial
/-! ### The steps ahead of them -/
/-- What is left of the operations ahead of the new variables. -/
def nS (P : Program) (ops : Array Oper) (Q : Exit → Act → World → Prop) (N : Nat) (vs : List NV) (T' : List Oper) (G : Nat → Nat) (w0 : World) (l : List Oper) (E : SE) : Prop := OkE E → bF P ops (Up w0) (newPost P ops Q w0 vs T' N) l N (denE G E)
variable {vs : List NV} {T' l rest : List Oper} {o : Oper} {k : Nat}
theorem n_f (hst : StW b G S L R F M w0) (v : SV) (hv : v.Ok) (h : ∀ (C0 : World → Prop) (Q' : Act → Prop), (∀ w, C0 w → View G S L R F M w) → bF P ops C0 Q' [] N ((k, v.den G) :: denE G E) → bF P ops C0 Q' [o] N (denE G E)) (hn : nS P ops Q N vs T' G w0 rest ((k, v) :: E)) : nS P ops Q N vs T' G w0 (o :: rest) E := fun hE =>
  h (Up w0) (fun a' => wpB P ops (Up w0) (newPost P ops Q w0 vs T' N) rest a') (fun _ hw => (hst.later hw).view) (fun a' ha' => hn (hE.cons hv) a' ha')
theorem n_op (hst : StW b G S L R F M w0) (v : SV) (hv : v.Ok) (hg : o.guard = none) (hd : o.dst = some k) (hk : Nat.blt k N = true) (h : ∀ (G : Nat → Nat) (a : Act) (w : World), Fr N (denE G E) a → (execOp a.eval o).run P w = .ok (.value (v.den G)) w) (hn : nS P ops Q N vs T' G w0 rest ((k, v) :: E)) : nS P ops Q N vs T' G w0 (o :: rest) E :=
  n_f hst v hv (fun _ _ _ hQ => f_val _ hg hd hk (fun a ha w _ => h G a w ha) hQ) hn
theorem n_opV (hst : StW b G S L R F M w0) (v : SV) (hv : v.Ok) (hg : o.guard = none) (hd : o.dst = some k) (hk : Nat.blt k N = true) (h : ∀ (G : Nat → Nat) (S : Nat → Prop) (a : Act) (w : World), Fr N (denE G E) a → View G S L R F M w → (execOp a.eval o).run P w = .ok (.value (v.den G)) w) (hn : nS P ops Q N vs T' G w0 rest ((k, v) :: E)) : nS P ops Q N vs T' G w0 (o :: rest) E :=
  n_f hst v hv (fun _ _ hC hQ => f_val _ hg hd hk (fun a ha w hw => h G S a w ha (hC w hw)) hQ) hn
theorem n_st {v : SV} (hT : OkT P T) (hst : StW b G S L R F M w0) (hE : OkE E) (hg : o.guard = none) (hd : o.dst = some k) (hk : Nat.blt k N = true) (h : stepS T E L o.op = some v) (hn : nS P ops Q N vs T' G w0 rest ((k, v) :: E)) : nS P ops Q N vs T' G w0 (o :: rest) E :=
  n_f hst v (stepS_ok hT (N := N) (o := o) hE hst.okL h).1 (fun _ _ hC hQ => f_val _ hg hd hk (fun _ ha w hw => (stepS_ok hT hE hst.okL h).2 ha fun x hx => ((hC w hw).var x hx).1) hQ) hn
/-- What is left behind those that are reckoned. -/
def autoN (T : List TyR) (ops : Array Oper) (N : Nat) (L : List LV) : List Oper → SE → List Oper × SE
  | [], E => ([], E)
  | o :: l, E => match o.guard, o.dst with
    | none, some k => match Nat.blt k N with
      | true => match stepS T E L o.op with
        | some v => autoN T ops N L l ((k, v) :: E)
        | none => (o :: l, E)
      | false => (o :: l, E)
    | _, _ => (o :: l, E)
theorem autoN_ok (hT : OkT P T) (hst : StW b G S L R F M w0) : ∀ {l : List Oper} {E : SE}, OkE E → nS P ops Q N vs T' G w0 (autoN T ops N L l E).1 (autoN T ops N L l E).2 → nS P ops Q N vs T' G w0 l E
  | [], _, _, h => h
  | o :: l, E, hE, h => by
    unfold autoN at h
    split at h
    · rename_i k hg hd
      split at h
      · rename_i hk
        split at h
        · rename_i v hv
          exact n_st hT hst hE hg hd hk hv (autoN_ok hT hst (hE.cons (stepS_ok hT (N := N) (o := o) hE hst.okL hv).1) h)
        · exact h
      · exact h
    · exact h
theorem n_auto {l' : List Oper} {E' : SE} (hT : OkT P T) (hst : StW b G S L R F M w0) (h : autoN T ops N L l E = (l', E')) (hn : nS P ops Q N vs T' G w0 l' E') : nS P ops Q N vs T' G w0 l E := fun hE => autoN_ok hT hst hE (by rw [h]; exact hn) hE
/-- The new variables, and what they hold at first. -/
theorem n_new {T2 : List Oper} (hst : StW b G S L R F M w0) (us : List LV) (zs : List (Array Value)) (xs : List Operand) (hvs : nvL us zs = vs) (hl : us.length = zs.length) (hf : freeV E L us = true) (hp : ∀ u ∈ us, OkP u.ps) (hfar : far (denE G E) vs) (hap : tsApart vs = true) (hso : stOk vs xs T' T2) (hv : valOk P (denE G E) vs xs (us.map fun u => catP u.ps))
    (h : lS P b ops Q N T2 ⟨ptrV us E, us ++ L, R, F, M⟩) : nS P ops Q N vs T' G w0 [] E := fun hE => by
  subst hvs
  have hlen : (nvL us zs).length = us.length := by
    clear hf hp hfar hap hso hv h
    induction us generalizing zs with
    | nil => rfl
    | cons u us ih =>
      cases zs with
      | nil => cases hl
      | cons z zs => exact congrArg (· + 1) (ih zs (by simpa using hl))
  refine f_new xs (us.map fun u => catP u.ps) hfar hap hso hv fun gs w' hge hd hU hb a ha => ?_
  rw [hlen] at hge hd
  have hfr := freeV_far hf
  refine h a w' ⟨gOf us 0 gs G, S, ?_, ptrV_ok hE, hst.news hU us hf hp hge hd (gOf_blk G hf hl hb)⟩
  rw [ptrV_den (L := L) hf hl (fun _ _ => rfl) (denE_gOf fun u hu => (hfr u hu).2.1)]
  exact ha
end
section
variable {T : List TyR} {b : Base} {ops : Array Oper} {Q : Exit → Act → World → Prop} {N : Nat} {G : Nat → Nat} {S : Nat → Prop} {E : SE} {L : List LV} {R : List Res} {F M : World → Prop} {w0 : World} {vs : List NV} {T' rest : List Oper} {o : Oper} {k : Nat}
/-- A call that hands back one value and leaves nothing. -/
theorem n_callS {F' : World → Prop} {f : FuncId} {xs : Array Operand} {ats : Array TypeId} {svs : List SV} {r : RV} [Pst F']
    (hst : StW b G S L R F M w0) (args : List Value) (hg : o.guard = none) (hd : o.dst = some k) (hk : Nat.blt k N = true) (hf : Own f) (ho : o.op = .call { callee := .value (.func f), args := xs, argTypes := ats }) (hx : evSs E xs.toList = some svs)
    (ha : (∀ x ∈ L, ∀ g, x.g = some g → G x.j = g) → svs.map (SV.den G) = args) (hs : Spec f args [] F' (one r)) (hr : r.sv.Ok) (hF : ∀ G S w, View G S L R F M w → F' w)
    (hn : nS Tryd.prog ops Q N vs T' G w0 rest ((k, r.sv) :: E)) : nS Tryd.prog ops Q N vs T' G w0 (o :: rest) E := by
  refine n_f hst r.sv hr (fun C0 Q' hC hQ => ?_) hn
  rw [RV.sv_den] at hQ
  exact f_call args.toArray r.den hg hd hk hf (fun w hw => (hs w (fun _ => False) (fun _ => False) (fun _ h => h) (fun _ h => h.elim) (Stb.of_pst (hF _ _ _ (hC w hw)) fun _ _ h => h.elim id id)).mono fun _ _ ⟨_, _, h1, _, h2, _⟩ => ⟨h1, h2.up fun _ _ h => h⟩) ho (by rw [evSs_ok hx, ha fun x hx => (hst.var x hx).2.2]) hQ
end
section
variable {P : Program} {T : List TyR} {b : Base} {Q : Exit → Act → World → Prop} {N : Nat} {E : SE} {L : List LV} {R : List Res} {F M : World → Prop} {l : List Oper} {id : Nat} {y : Code}
/-- **'x, y, .. := u, v, ..'**, the order drawn: n operations ahead, the new variables vs, then the rest. -/
theorem s_new (n : Nat) (vs : List NV) (hn : n + vs.length ≤ l.length) (hap : tsApart vs = true) (hnv : nvOk P N (l.drop n) vs) (hm : P.follows .mixedOrders = true)
    (hB : tailB l.toArray n vs.length (l.drop (n + vs.length)).length = true)
    (hC : newC l.toArray n (marks vs.length n (marks n 0 (Array.replicate l.toArray.size false))) vs.length (List.range vs.length) (marks n 0 (Array.replicate l.toArray.size false)) = true)
    (h : ∀ K : Act → World → Prop, (∀ e', cS P b y Q N e' → kS b K N e') → ∀ G S w0, StW b G S L R F M w0 → nS P l.toArray (NoPanic (Exit.then K Q)) N vs (l.drop (n + vs.length)) G w0 (l.take n) E) : cS P b (.seq (.region id l.toArray true) y) Q N ⟨E, L, R, F, M⟩ :=
  s_seq fun K hK a w ⟨G, S, h1, h2, h3⟩ => by
    refine wp_region_noPanic ?_
    exact c_new n vs hn hap hnv hm hB hC (fun _ _ _ _ _ h => h) (h K hK G S w h3 h2) a h1
end
end Go.Proofs.YtoecohpcnojokaaDoor
/-
  DRAWN REGIONS THAT MAKE DIGESTS, over states: in the text's order, each operation by what those told that it waits for.
-/
namespace Go.Proofs.YtoecohpcnojokaaDoor
open Go.RowKit Go.IntWalk

/-! ### Operations that hang on one that was left out -/
def nopB : SV → Bool
  | .q (.c (.v (.tuple ⟨[]⟩))) => true
  | _ => false
/-- They are left out as well. -/
def skipU (ops : Array Oper) (N : Nat) : List Oper → SE → List Oper × SE
  | [], E => ([], E)
  | o :: l, E => match o.guard, o.dst with
    | some (j, _), some k => match (ops[j]?).bind (·.dst), Nat.blt k N with
      | some t, true => match Nat.blt t N, lookS E t with
        | true, some v => match nopB v with
          | true => skipU ops N l ((k, .v undef) :: E)
          | false => (o :: l, E)
        | _, _ => (o :: l, E)
      | _, _ => (o :: l, E)
    | _, _ => (o :: l, E)
def skipUD (ops : Array Oper) (N : Nat) : List (Nat × Oper) → SE → List (Nat × Oper) × SE
  | [], E => ([], E)
  | (i, o) :: l, E => match o.guard, o.dst with
    | some (j, _), some k => match (ops[j]?).bind (·.dst), Nat.blt k N with
      | some t, true => match Nat.blt t N, lookS E t with
        | true, some v => match nopB v with
          | true => skipUD ops N l ((k, .v undef) :: E)
          | false => ((i, o) :: l, E)
        | _, _ => ((i, o) :: l, E)
      | _, _ => ((i, o) :: l, E)
    | _, _ => ((i, o) :: l, E)
theorem wanted_nop {ops : Array Oper} {N : Nat} {G : Nat → Nat} {E : SE} {a : Act} {o : Oper} {j t : Nat} {q : Bool} {v : SV} (h1 : Fr N (denE G E) a) (hgd : o.guard = some (j, q)) (hj : (ops[j]?).bind (·.dst) = some t) (hN : Nat.blt t N = true) (ht : lookS E t = some v) (hv : nopB v = true) : Region.wanted o (yielded ops a.tmps) = false := by
  have hv : v = .v undef := by
    unfold nopB at hv
    split at hv
    · rfl
    · cases hv
  subst hv
  have h4 := h1.get t undef (by rw [look_den, ht]; rfl)
  have htN : t < a.tmps.size := by rw [h1.size]; simpa using hN
  simp only [Act.eval, Array.getD_eq_getD_getElem?] at h4
  have h5 : a.tmps[t]? = some undef := by
    rw [Array.getElem?_eq_getElem htN] at h4 ⊢
    simpa using h4
  unfold Region.wanted
  rw [hgd]
  simp [yielded, hj, h5, undef]
section
variable {P : Program} {b : Base} {ops : Array Oper} {Q : Exit → Act → World → Prop} {N : Nat} {R : List Res} {L : List LV} {F M : World → Prop} {T' : List Oper} {G : Nat → Nat} {w0 : World}
theorem skipUD_ok : ∀ {l : List (Nat × Oper)} {E : SE}, gS P b ops Q N T' G w0 (skipUD ops N l E).1 (skipUD ops N l E).2 → gS P b ops Q N T' G w0 l E
  | [], _, h => h
  | (i, o) :: l, E, h => by
    unfold skipUD at h
    split at h
    · rename_i j q k hg hd
      split at h
      · rename_i t hj hk
        split at h
        · rename_i v hN ht
          split at h
          · rename_i hv
            intro hE a Fa ha hF
            unfold wpG
            rw [wanted_nop ha hg hj hN ht hv, if_neg (by decide)]
            dsimp only
            rw [hd]
            exact skipUD_ok h (hE.cons (v := .v undef) trivial) _ _ (ha.put hk undef) (hF.up rfl)
          · exact h
        · exact h
      · exact h
    · exact h
theorem g_skips {l l' : List (Nat × Oper)} {E E' : SE} (h : skipUD ops N l E = (l', E')) (hn : gS P b ops Q N T' G w0 l' E') : gS P b ops Q N T' G w0 l E := skipUD_ok (by rw [h]; exact hn)
end

/-- What is left of a drawn region's operations, and what is told of memory. -/
def hS (P : Program) (ops : Array Oper) (Q : Exit → Act → World → Prop) (N : Nat) (T' : List Oper) (G : Nat → Nat) (w0 : World) (l : List (Nat × Oper)) (E : SE) (Fa : Told) : Prop := OkE E → gF P Bel ops (Up w0) (endG P ops Q (Up w0) T') l N (denE G E) Fa
section
variable {P : Program} {T : List TyR} {b : Base} {ops : Array Oper} {Q : Exit → Act → World → Prop} {N : Nat} {G : Nat → Nat} {S : Nat → Prop} {E : SE} {L : List LV} {R : List Res} {F M : World → Prop} {w0 : World} {T' : List Oper} {Fa : Told} {i k : Nat} {o : Oper} {rest : List (Nat × Oper)} {l : List Oper} {id : Nat} {y : Code}
theorem s_regH (n : Nat) (hn : n ≤ l.length) (hm : P.follows .mixedOrders = true) (hB : tailH l.toArray n (l.drop n).length = true)
    (h : ∀ K : Act → World → Prop, (∀ e', cS P b y Q N e' → kS b K N e') → ∀ G S w0, StW b G S L R F M w0 → hS P l.toArray (Exit.then K Q) N (l.drop n) G w0 (idx 0 (l.take n)) E []) : cS P b (.seq (.region id l.toArray true) y) Q N ⟨E, L, R, F, M⟩ :=
  s_regD n hn hm hB fun K hK G S w0 hst => h K hK G S w0 hst
theorem h_f (hst : StW b G S L R F M w0) (v : SV) (hv : v.Ok) (hf : farP i Fa = true) (h : ∀ (C0 : World → Prop) (Q' : Act → Prop), (∀ w, C0 w → View G S L R F M w ∧ Uses o Fa w) → bF P ops C0 Q' [] N ((k, v.den G) :: denE G E) → bF P ops C0 Q' [o] N (denE G E)) (hn : hS P ops Q N T' G w0 rest ((k, v) :: E) Fa) : hS P ops Q N T' G w0 ((i, o) :: rest) E Fa := fun hE =>
  g_op hf (h _ _ (fun _ hw => ⟨(hst.later hw.1).view, hw.2⟩) (g_go (o := o) (hn (hE.cons hv))))
theorem h_op (hst : StW b G S L R F M w0) (v : SV) (hv : v.Ok) (hf : farP i Fa = true) (hg : o.guard = none) (hd : o.dst = some k) (hk : Nat.blt k N = true) (h : ∀ (G : Nat → Nat) (a : Act) (w : World), Fr N (denE G E) a → (execOp a.eval o).run P w = .ok (.value (v.den G)) w) (hn : hS P ops Q N T' G w0 rest ((k, v) :: E) Fa) : hS P ops Q N T' G w0 ((i, o) :: rest) E Fa :=
  h_f hst v hv hf (fun _ _ _ hQ => f_val _ hg hd hk (fun _ ha w _ => h G _ w ha) hQ) hn
theorem h_opV (hst : StW b G S L R F M w0) (v : SV) (hv : v.Ok) (hf : farP i Fa = true) (hg : o.guard = none) (hd : o.dst = some k) (hk : Nat.blt k N = true) (h : ∀ (G : Nat → Nat) (S : Nat → Prop) (a : Act) (w : World), Fr N (denE G E) a → View G S L R F M w → (execOp a.eval o).run P w = .ok (.value (v.den G)) w) (hn : hS P ops Q N T' G w0 rest ((k, v) :: E) Fa) : hS P ops Q N T' G w0 ((i, o) :: rest) E Fa :=
  h_f hst v hv hf (fun _ _ hC hQ => f_val _ hg hd hk (fun _ ha w hw => h G S _ w ha (hC w hw).1) hQ) hn
theorem h_st {v : SV} (hT : OkT P T) (hst : StW b G S L R F M w0) (hE : OkE E) (hf : farP i Fa = true) (hg : o.guard = none) (hd : o.dst = some k) (hk : Nat.blt k N = true) (h : stepS T E L o.op = some v) (hn : hS P ops Q N T' G w0 rest ((k, v) :: E) Fa) : hS P ops Q N T' G w0 ((i, o) :: rest) E Fa :=
  h_f hst v (stepS_ok hT (N := N) (o := o) hE hst.okL h).1 hf (fun _ _ hC hQ => f_val _ hg hd hk (fun _ ha w hw => (stepS_ok hT hE hst.okL h).2 ha fun x hx => ((hC w hw).1.var x hx).1) hQ) hn
/-- What is left behind those that are reckoned. -/
def autoH (T : List TyR) (ops : Array Oper) (N : Nat) (L : List LV) (Fa : Told) : List (Nat × Oper) → SE → List (Nat × Oper) × SE
  | [], E => ([], E)
  | (i, o) :: l, E => match wantS ops N E o, farP i Fa, o.dst with
    | some false, true, some k => match Nat.blt k N with
      | true => autoH T ops N L Fa l ((k, .v undef) :: E)
      | false => ((i, o) :: l, E)
    | some true, true, some k => match Nat.blt k N with
      | true => match stepS T E L o.op with
        | some v => autoH T ops N L Fa l ((k, v) :: E)
        | none => ((i, bareO o) :: l, E)
      | false => ((i, o) :: l, E)
    | some true, true, none => ((i, bareO o) :: l, E)
    | _, _, _ => ((i, o) :: l, E)
theorem h_bare (hw : wantS ops N E o = some true) (h : hS P ops Q N T' G w0 ((i, bareO o) :: rest) E Fa) : hS P ops Q N T' G w0 ((i, o) :: rest) E Fa := fun hE a F ha hF => by
  have hwt := wantS_ok ha hw
  have h1 := h hE a F ha hF
  obtain ⟨dst, op, ty, pos, af, gd⟩ := o
  unfold wpG at h1 ⊢
  rw [if_pos hwt]
  rw [if_pos (by rfl)] at h1
  exact h1
theorem h_undef (hw : wantS ops N E o = some false) (hf : farP i Fa = true) (hd : o.dst = some k) (hk : Nat.blt k N = true) (h : hS P ops Q N T' G w0 rest ((k, .v undef) :: E) Fa) : hS P ops Q N T' G w0 ((i, o) :: rest) E Fa := fun hE a F ha hF => by
  have hwt := wantS_ok ha hw
  unfold wpG
  rw [hwt, if_neg (by decide)]
  dsimp only
  rw [hd]
  exact h (hE.cons (v := .v undef) trivial) _ _ (ha.put hk undef) (hF.up hf)
theorem autoH_ok (hT : OkT P T) (hst : StW b G S L R F M w0) : ∀ {l : List (Nat × Oper)} {E : SE}, OkE E → hS P ops Q N T' G w0 (autoH T ops N L Fa l E).1 (autoH T ops N L Fa l E).2 Fa → hS P ops Q N T' G w0 l E Fa
  | [], _, _, h => h
  | (i, o) :: l, E, hE, h => by
    unfold autoH at h
    split at h
    · rename_i k hw hf hd
      split at h
      · rename_i hk
        exact h_undef hw hf hd hk (autoH_ok hT hst (hE.cons (v := .v undef) trivial) h)
      · exact h
    · rename_i k hw hf hd
      split at h
      · rename_i hk
        split at h
        · rename_i v hv
          have h2 := autoH_ok hT hst (hE.cons (stepS_ok hT (N := N) (o := bareO o) hE hst.okL hv).1) h
          exact h_bare hw (h_st hT hst hE hf rfl hd hk hv h2)
        · exact h_bare hw h
      · exact h
    · rename_i hw hf hd
      exact h_bare hw h
    · exact h
theorem h_auto {l l' : List (Nat × Oper)} {E' : SE} (hT : OkT P T) (hst : StW b G S L R F M w0) (h : autoH T ops N L Fa l E = (l', E')) (hn : hS P ops Q N T' G w0 l' E' Fa) : hS P ops Q N T' G w0 l E Fa := fun hE => autoH_ok hT hst hE (by rw [h]; exact hn) hE
theorem h_num {l : List (Nat × Oper)} (k : Nat) {K : IntKind} {m : Int} (n : Int) (h : lookS E k = some (.v (.int K m))) (he : m = n) (hn : hS P ops Q N T' G w0 l ((k, .v (.int K n)) :: E) Fa) : hS P ops Q N T' G w0 l E Fa := fun hE => by
  subst he
  intro a F ha hF
  exact hn (hE.cons trivial) a F (ha.more (ha.get k _ (by rw [look_den, h]; rfl))) hF
theorem h_is {l : List (Nat × Oper)} (k : Nat) {t : Bool} (q : Bool) (h : lookS E k = some (.b t)) (he : t = q) (hn : hS P ops Q N T' G w0 l ((k, .v (.bool q)) :: E) Fa) : hS P ops Q N T' G w0 l E Fa := fun hE => by
  subst he
  intro a F ha hF
  exact hn (hE.cons trivial) a F (ha.more (ha.get k _ (by rw [look_den, h]; rfl))) hF
/-- The end of what may be taken in any order. -/
theorem h_end (hst : StW b G S L R F M w0) (h : lS P b ops Q N T' ⟨E, L, R, F, M⟩) : hS P ops Q N T' G w0 [] E Fa := fun hE => g_end fun w hw _ => fun a ha => h a w ⟨G, S, ha, hE, hst.later hw⟩
end
section
variable {T : List TyR} {b : Base} {ops : Array Oper} {Q : Exit → Act → World → Prop} {N : Nat} {G : Nat → Nat} {S : Nat → Prop} {E : SE} {L : List LV} {R : List Res} {F M : World → Prop} {w0 : World} {T' : List Oper} {Fa : Told} {i k e bs : Nat} {o : Oper} {rest : List (Nat × Oper)}
/-- A literal of bytes. -/
theorem h_lit {t n : Nat} {parts : Array (Nat × Operand)} (hT : OkT Tryd.prog T) (l : List UInt8) (hg : o.guard = none) (hd : o.dst = some k) (hk : Nat.blt k N = true) (hf : farP i Fa = true) (ho : o.op = .buildSlice t n parts) (hs : slS T t = some (e, 1, bs))
    (hp : ∀ G : Nat → Nat, parts.toList.map (fun p => (p.1, (evS E p.2).map (SV.den G))) = ((l.map fun x => (eB x).den).zipIdx 0).map fun x => (x.2, some x.1)) (hn : l.length = n) (h0 : 0 < n) (h24 : n ≤ 16777216)
    (hc : ∀ g, hS Tryd.prog ops Q N T' G w0 rest ((k, .v (.slice (some ⟨g, 0, none⟩) n n)) :: E) ((i, fun w => Rd 1 eB (some ⟨g, 0, none⟩) n l w) :: Fa)) : hS Tryd.prog ops Q N T' G w0 ((i, o) :: rest) E Fa := fun hE => by
  refine g_mem (fun v w => ∃ g, v = .slice (some ⟨g, 0, none⟩) n n ∧ Rd 1 eB (some ⟨g, 0, none⟩) n l w) hg hd hk hf (by rw [ho]; rfl) (fun v w w' ⟨g, h1, h2⟩ hb => ⟨g, h1, h2.later hb⟩) (fun a ha w _ _ => ?_) fun v w _ hv => ?_
  · obtain ⟨ht, ie, z, hi, hz, hsz, _⟩ := slS_ok hT hs
    have hrun := run_lit (P := Tryd.prog) ht hi hz hsz (l.map fun x => (eB x).den) n (parts.map fun (i, x) => (i, a.eval x)) (by rw [Array.toList_map]; exact map_parts ha _ _ (hp G)) (by rw [List.length_map, hn]) (by omega) (by omega) (fun v hv => by
      obtain ⟨x, _, rfl⟩ := List.mem_map.1 hv
      rfl) w
    have e1 : ((l.map fun x => (eB x).den).flatMap fun v => v.cells.toList) = flatF eB l := by
      rw [flatF, List.flatMap_map]
      rfl
    rw [e1] at hrun
    have h1 : (execOp a.eval o).run Tryd.prog w = .ok (.value (.slice (some ⟨w.heap.size, 0, none⟩) n n)) (w.alloc (.cells (flatF eB l).toArray e)) := by
      unfold execOp
      simp only [ho, Sem.run_bind, hrun, Result.andThen_ok, Sem.run_pure]
    rw [h1]
    refine ⟨(Below.refl w.heap.size w).alloc (Nat.le_refl _) _, w.heap.size, rfl, ?_⟩
    subst hn
    exact OwnS.rd (OwnS.new (lo := 0) w (Nat.zero_le _) (okF_B l) (by omega))
  · obtain ⟨g, rfl, h2⟩ := hv
    intro a F ha hF
    refine hc g (hE.cons trivial) a F ha fun x hx w hw => ?_
    rcases List.mem_cons.1 hx with rfl | hx
    · obtain ⟨g', e, h3⟩ := hF _ List.mem_cons_self w hw
      cases e
      exact h3
    · exact hF x (List.mem_cons_of_mem _ hx) w hw
/-- A slice of slices: what they read. -/
theorem h_parts {n : Nat} {parts : Array (Nat × Operand)} (vs : List Value) (ls : List (List UInt8)) (hst : StW b G S L R F M w0) (hg : o.guard = none) (hd : o.dst = some k) (hk : Nat.blt k N = true) (hf : farP i Fa = true) (ho : o.op = .buildSlice 121 n parts)
    (hv : parts.toList.map (fun p => (p.1, (evS E p.2).map (SV.den G))) = (vs.zipIdx 0).map fun x => (x.2, some x.1)) (hn : vs.length = n) (h0 : 0 < n) (h24 : n ≤ 16777216) (h : ∀ w, View G S L R F M w → Uses o Fa w → All2 w vs ls)
    (hc : ∀ g, hS Tryd.prog ops Q N T' G w0 rest ((k, .v (.slice (some ⟨g, 0, none⟩) n n)) :: E) ((i, fun w => PT w (some ⟨g, 0, none⟩) ls) :: Fa)) : hS Tryd.prog ops Q N T' G w0 ((i, o) :: rest) E Fa := fun hE => by
  have hv2 : parts.toList.map (fun p => (p.1, ev (denE G E) p.2)) = (vs.zipIdx 0).map fun x => (x.2, some x.1) := by
    have key : ∀ (l : List (Nat × Operand)) (m : List (Value × Nat)), l.map (fun p => (p.1, (evS E p.2).map (SV.den G))) = m.map (fun x => (x.2, some x.1)) → l.map (fun p => (p.1, ev (denE G E) p.2)) = m.map fun x => (x.2, some x.1) := by
      intro l
      induction l with
      | nil => intro m h; cases m with
        | nil => rfl
        | cons => cases h
      | cons p l ih => intro m h; cases m with
        | nil => cases h
        | cons u m =>
          simp only [List.map_cons, List.cons.injEq, Prod.mk.injEq] at h ⊢
          refine ⟨⟨h.1.1, ?_⟩, ih m h.2⟩
          cases hx : evS E p.2 with
          | none => rw [hx] at h; cases h.1.2
          | some v =>
            rw [hx] at h
            rw [evS_ok hx]
            exact h.1.2
    exact key _ _ hv
  refine g_slices vs ls 0 hg hd hk hf ho hv2 hn h0 h24 (fun _ _ => Nat.zero_le _) (fun w hw hu => h w (hst.later hw).view hu) fun g w _ _ => ?_
  intro a F ha hF
  refine hc g (hE.cons trivial) a F ha fun x hx w hw => ?_
  rcases List.mem_cons.1 hx with rfl | hx
  · exact (hF _ List.mem_cons_self w hw).pt
  · exact hF x (List.mem_cons_of_mem _ hx) w hw
/-- A call that hands back one value and leaves nothing. -/
theorem h_call {f : FuncId} {xs : Array Operand} {ats : Array TypeId} {svs : List SV} {r : RV} (hst : StW b G S L R F M w0) (args : List Value) (hf : farP i Fa = true) (hg : o.guard = none) (hd : o.dst = some k) (hk : Nat.blt k N = true) (how : Own f) (ho : o.op = .call { callee := .value (.func f), args := xs, argTypes := ats }) (hx : evSs E xs.toList = some svs)
    (ha : (∀ x ∈ L, ∀ g, x.g = some g → G x.j = g) → svs.map (SV.den G) = args) (hr : r.sv.Ok) (hs : ∀ w, View G S L R F M w → Uses o Fa w → Calls Tryd.prog f args.toArray w fun e w' => e = .returned r.den ∧ Below w.heap.size w w')
    (hn : hS Tryd.prog ops Q N T' G w0 rest ((k, r.sv) :: E) Fa) : hS Tryd.prog ops Q N T' G w0 ((i, o) :: rest) E Fa := by
  refine h_f hst r.sv hr hf (fun C0 Q' hC hQ => ?_) hn
  rw [RV.sv_den] at hQ
  exact f_call args.toArray r.den hg hd hk how (fun w hw => hs w (hC w hw).1 (hC w hw).2) ho (by rw [evSs_ok hx, ha fun x hx => (hst.var x hx).2.2]) hQ
/-- A call whose answer is told by what it lies in. -/
theorem h_callE {α : Type} {post : Post α} {F' : World → Prop} [Pst F'] [hP : ∀ x, Pst (post.p x)] {f : FuncId} {xs : Array Operand} {ats : Array TypeId} {svs : List SV} (hst : StW b G S L R F M w0) (args : List Value) (hf : farP i Fa = true) (hg : o.guard = none) (hd : o.dst = some k) (hk : Nat.blt k N = true) (how : Own f) (ho : o.op = .call { callee := .value (.func f), args := xs, argTypes := ats }) (hx : evSs E xs.toList = some svs)
    (ha : (∀ x ∈ L, ∀ g, x.g = some g → G x.j = g) → svs.map (SV.den G) = args) (hs : Spec f args [] F' post) (hF : ∀ w, View G S L R F M w → Uses o Fa w → F' w)
    (hn : ∀ x, (post.ret x).sv.Ok → hS Tryd.prog ops Q N T' G w0 rest ((k, (post.ret x).sv) :: E) ((i, fun w => ∃ y, (post.ret x).den = (post.ret y).den ∧ post.p y w) :: Fa)) : hS Tryd.prog ops Q N T' G w0 ((i, o) :: rest) E Fa := fun hE => by
  refine g_call args.toArray (fun v w => ∃ x, v = (post.ret x).den ∧ (post.ret x).sv.Ok ∧ post.p x w) hg hd hk hf (fun v w w' ⟨x, h1, h2, h3⟩ hb => ⟨x, h1, h2, (hP x).later _ _ h3 hb⟩) how (fun w hw hu => ?_) ho (by rw [evSs_ok hx, ha fun x hx => (hst.var x hx).2.2]) fun v w _ hv => ?_
  · refine (hs w (fun _ => False) (fun _ => False) (fun _ h => h) (fun _ h => h.elim) (Stb.of_pst (hF w (hst.later hw).view hu) fun _ _ h => h.elim id id)).mono ?_
    rintro e w' ⟨x, S', h1, h2, h3, h4, h5, h6, h7⟩
    exact ⟨_, h1, ⟨x, rfl, h2, h6.now⟩, h3.up fun _ _ h => h⟩
  · obtain ⟨x, rfl, hok, _⟩ := hv
    intro a F ha hF
    refine hn x hok (hE.cons hok) a F (by rw [denE, RV.sv_den]; exact ha) fun y hy w hw => ?_
    rcases List.mem_cons.1 hy with rfl | hy
    · obtain ⟨z, e, _, h3⟩ := hF _ List.mem_cons_self w hw
      exact ⟨z, e, h3⟩
    · exact hF y (List.mem_cons_of_mem _ hy) w hw
theorem h_callS {F' : World → Prop} {f : FuncId} {xs : Array Operand} {ats : Array TypeId} {svs : List SV} {r : RV} [Pst F'] (hst : StW b G S L R F M w0) (args : List Value) (hf : farP i Fa = true) (hg : o.guard = none) (hd : o.dst = some k) (hk : Nat.blt k N = true) (how : Own f) (ho : o.op = .call { callee := .value (.func f), args := xs, argTypes := ats }) (hx : evSs E xs.toList = some svs)
    (ha : (∀ x ∈ L, ∀ g, x.g = some g → G x.j = g) → svs.map (SV.den G) = args) (hr : r.sv.Ok) (hs : Spec f args [] F' (one r)) (hF : ∀ G S w, View G S L R F M w → F' w)
    (hn : hS Tryd.prog ops Q N T' G w0 rest ((k, r.sv) :: E) Fa) : hS Tryd.prog ops Q N T' G w0 ((i, o) :: rest) E Fa :=
  h_call hst args hf hg hd hk how ho hx ha hr (fun w hv _ => (hs w (fun _ => False) (fun _ => False) (fun _ h => h) (fun _ h => h.elim) (Stb.of_pst (hF _ _ _ hv) fun _ _ h => h.elim id id)).mono fun _ _ ⟨_, _, h1, _, h2, _⟩ => ⟨h1, h2.up fun _ _ h => h⟩) hn
end
end Go.Proofs.YtoecohpcnojokaaDoor
/-
  STEPS: 'clear(b)' of a slice of bytes; bytes of which the first are others; calls of closures.
-/
namespace Go.Proofs.YtoecohpcnojokaaDoor
open Go.RowKit Go.IntWalk

theorem setRow_same {w : World} {g t : Nat} {cs : Array Value} (h : Blk w g t cs) : w.setRow g cs = w := setRow_self w g cs t (0, 0) h

/-- The bytes from place o on are noughts. -/
def clr (z : List UInt8) (o : Nat) : List UInt8 := z.take o ++ List.replicate (z.length - o) 0
theorem clr_len {z : List UInt8} {o : Nat} (h : o ≤ z.length) : (clr z o).length = z.length := by
  simp [clr]
  omega
theorem wpl_clear {ops : Array Oper} {rest : List Oper} {op : Oper} {a : Act} {w : World} {Q : Exit → Act → World → Prop} (x : Operand) (hgd : op.guard = none) (ho : op.op = .call { callee := .builtin .clear, args := #[x], argTypes := #[35] })
    (g o n c : Nat) (A : Option Addr) (hx : a.eval x = .slice A n c) (hA : 0 < n → A = some ⟨g, o, none⟩) (z : List UInt8) (t : Nat) (hz : Blk w g t (By z).toArray) (hn : o + n = z.length)
    (z' : List UInt8) (hz' : Hid (clr z o = z')) (h : wpList Tryd.prog ops Q rest (a.put op.dst (.tuple #[])) (w.setRow g (By z').toArray)) : wpList Tryd.prog ops Q (op :: rest) a w := by
  rw [← hz'.out] at h
  refine wpList_plain hgd fun K hK => ?_
  have hrun : (Builtin.clear_ #[35] op.type #[.slice A n c]).run Tryd.prog w = .ok (.tuple #[]) (w.setRow g (By (clr z o)).toArray) := by
    by_cases h0 : n = 0
    · subst h0
      have e : clr z o = z := by
        unfold clr
        rw [← hn, Nat.add_zero, Nat.sub_self, List.replicate_zero, List.append_nil, List.take_of_length_le (by omega)]
      rw [e, setRow_same hz]
      have hu := Tryd.underlying35
      cases A <;> simp [Builtin.clear_, run_underlying hu]
    · obtain rfl := hA (by omega)
      have hst := run_storeCells_at (P := Tryd.prog) g o t (List.replicate n (.int .u8 0)) 0 (By z).toArray w hz (by rw [List.length_replicate, List.size_toArray, By_len]; omega) (by intro v hv; rw [List.eq_of_mem_replicate hv]; rfl)
      have e : ((By z).toArray.toList.take (o + 0) ++ List.replicate n (.int .u8 0) ++ (By z).toArray.toList.drop (o + 0 + (List.replicate n (Value.int .u8 0)).length)) = By (clr z o) := by
        have hd : (By z).drop (o + n) = [] := List.drop_eq_nil_of_le (by rw [By_len]; omega)
        simp only [List.length_replicate, Nat.add_zero, hd, List.append_nil]
        unfold clr
        rw [By_app, ← hn, Nat.add_sub_cancel_left]
        simp [By]
      rw [e] at hst
      have hzc : (Builtin.zeroCells #[.int .u8 0] n).toList = List.replicate n (.int .u8 0) := by
        simp [Builtin.zeroCells]
        apply List.ext_getElem
        · simp
        · intro i h1 h2
          simp [Nat.mod_one]
      obtain ⟨m, rfl⟩ : ∃ m, n = m + 1 := ⟨n - 1, by omega⟩
      have hu := Tryd.underlying35
      simp [Builtin.clear_, run_underlying hu, Value.cells, hzc, hst]
  unfold Oper.wp
  simp [execOp, ho, resolve, invoke, builtin, hx, hrun, Result.andThen]
  exact hK _ _ h
end Go.Proofs.YtoecohpcnojokaaDoor
/-
  THE DIGESTS: what a full block does (the function that Sum512 hands over), and the message's end.
-/
namespace Go.Proofs.YtoecohpcnojokaaDoor
open Go.RowKit Go.IntWalk Nums

theorem Ts.belowB {B : Nat} {w w' : World} (h : Ts w) (hb : Below B w w') (hB : 1 < B) : Ts w' :=
  ⟨fun i hi => (hb.cell (p := ⟨1, i, none⟩) hB).trans (h.cell i hi), Nat.lt_of_lt_of_le h.lt hb.size⟩

/-! ### The message's end -/
theorem be64_len (v : Nat) : (be64 v).length = 8 := by
  unfold be64
  rw [List.length_reverse, bytes_len]
theorem be64_mod (v : Nat) : be64 (v % 18446744073709551616) = be64 v := by
  unfold be64
  congr 1
  refine le_inj (by rw [bytes_len, bytes_len]) ?_
  rw [le_bytes, le_bytes]
  exact Nat.mod_mod _ _
theorem be64_get {v i : Nat} (h : i < 8) : ((be64 v)[7 - i]!).toNat = v / 256 ^ i % 256 := by
  have hl : (Nums.bytes 8 v).length = 8 := bytes_len _ _
  have e : (be64 v)[7 - i]! = (Nums.bytes 8 v)[i]! := by
    unfold be64
    rw [getElem!_pos _ _ (by rw [List.length_reverse, hl]; omega), List.getElem_reverse, getElem!_pos _ i (by rw [hl]; exact h)]
    congr 1
    rw [hl]
    omega
  rw [e, bytes_get _ _ h]
/-- Of eight bytes the last i are there. -/
def eig (c e : List UInt8) (n i : Nat) : List UInt8 := c.take (n - i) ++ e.drop (8 - i)
theorem eig_len {c e : List UInt8} {n i : Nat} (hc : c.length = n) (he : e.length = 8) (hi : i ≤ 8) (hn : 8 ≤ n) : (eig c e n i).length = n := by
  unfold eig
  rw [List.length_append, List.length_take, List.length_drop]
  omega
theorem eig_zero {c e : List UInt8} {n : Nat} (hc : c.length = n) (he : e.length = 8) : eig c e n 0 = c := by
  unfold eig
  rw [List.take_of_length_le (by omega), List.drop_of_length_le (by omega), List.append_nil]
theorem eig_set {c e : List UInt8} {n i : Nat} (hc : c.length = n) (he : e.length = 8) (hi : i < 8) (hn : 8 ≤ n) : (eig c e n i).set (n - 1 - i) e[7 - i]! = eig c e n (i + 1) := by
  unfold eig
  have h1 : c.take (n - i) = c.take (n - (i + 1)) ++ [c[n - (i + 1)]!] := by
    rw [show n - i = n - (i + 1) + 1 by omega, List.take_succ_eq_append_getElem (by omega), getElem!_pos c _ (by omega)]
  have h2 : e.drop (8 - (i + 1)) = e[7 - i]! :: e.drop (8 - i) := by
    rw [List.drop_eq_getElem_cons (by omega), getElem!_pos e _ (by omega)]
    congr 1
    · congr 1
      omega
    · congr 1
      omega
  have hl : (c.take (n - (i + 1))).length = n - (i + 1) := by rw [List.length_take]; omega
  rw [h1, h2, List.append_assoc, List.set_append_right _ _ (by omega), hl, show n - 1 - i - (n - (i + 1)) = 0 by omega]
  rfl

/-- The last block when the message's bytes and the bit behind them are there. -/
theorem clr_set {b : List UInt8} {n r : Nat} (hb : b.length = n) (hr : r < n) : clr (b.set r 128) (r + 1) = b.take r ++ 128 :: List.replicate (n - 1 - r) 0 := by
  unfold clr
  rw [List.length_set, hb]
  have h1 : (b.set r 128).take (r + 1) = b.take r ++ [128] := by
    rw [List.take_succ_eq_append_getElem (by rw [List.length_set]; omega), List.getElem_set_self, List.take_set_of_le (Nat.le_refl r)]
  rw [h1, List.append_assoc, show n - (r + 1) = n - 1 - r by omega]
  rfl
theorem clr_all (c : List UInt8) : clr c 0 = List.replicate c.length 0 := by
  unfold clr
  simp
theorem end_one {s : Sha} {b : List UInt8} {n r v : Nat} {o : Oct} (hn : 64 ≤ n) (hb : b.length = n) (hr : r < n) (h : r + 1 ≤ n - n / 8) :
    turnw s o (eig (b.take r ++ 128 :: List.replicate (n - 1 - r) 0) (be64 v) n 8) = runw s n o (b.take r ++ tailw n r v) := by
  have h8 : n / 8 * 8 ≤ n := Nat.div_mul_le_self n 8
  have h9 : 2 ≤ n / 8 := by omega
  have e : eig (b.take r ++ 128 :: List.replicate (n - 1 - r) 0) (be64 v) n 8 = b.take r ++ tailw n r v := by
    unfold eig tailw
    have hl : (b.take r).length = r := by rw [List.length_take]; omega
    rw [if_pos h, List.take_append, hl, List.take_of_length_le (by omega), List.append_assoc, Nat.sub_self, List.drop_zero]
    congr 1
    rw [show n - 8 - r = (n - 9 - r) + 1 by omega, List.take_succ_cons, List.take_replicate, Nat.min_eq_left (by omega), List.cons_append]
  rw [e]
  have hl : (b.take r ++ tailw n r v).length = n := by
    rw [← e, eig_len (by rw [List.length_append, List.length_take, List.length_cons, List.length_replicate]; omega) (be64_len _) (Nat.le_refl _) (by omega)]
  have h0 := runw_block (s := s) (B := n) (o := o) (b := b.take r ++ tailw n r v) (l := []) (by omega) hl
  rw [List.append_nil] at h0
  rw [h0, runw_short (by simp only [List.length_nil]; omega)]
theorem end_two {s : Sha} {b : List UInt8} {n r v : Nat} {o : Oct} (hn : 64 ≤ n) (hb : b.length = n) (hr : r < n) (h : ¬ r + 1 ≤ n - n / 8) :
    turnw s (turnw s o (b.take r ++ 128 :: List.replicate (n - 1 - r) 0)) (eig (List.replicate n 0) (be64 v) n 8) = runw s n o (b.take r ++ tailw n r v) := by
  have hl1 : (b.take r ++ 128 :: List.replicate (n - 1 - r) 0).length = n := by
    rw [List.length_append, List.length_take, List.length_cons, List.length_replicate]
    omega
  have hl2 : (eig (List.replicate n 0) (be64 v) n 8).length = n := eig_len (List.length_replicate) (be64_len _) (Nat.le_refl _) (by omega)
  have e : b.take r ++ tailw n r v = (b.take r ++ 128 :: List.replicate (n - 1 - r) 0) ++ eig (List.replicate n 0) (be64 v) n 8 := by
    unfold tailw eig
    rw [if_neg h, List.append_assoc, List.cons_append, Nat.sub_self, List.drop_zero, List.take_replicate, Nat.min_eq_left (by omega), ← List.append_assoc (List.replicate _ 0), List.replicate_append_replicate]
    congr 4
    omega
  have h0 := runw_block (s := s) (B := n) (o := turnw s o (b.take r ++ 128 :: List.replicate (n - 1 - r) 0)) (b := eig (List.replicate n 0) (be64 v) n 8) (l := []) (by omega) hl2
  rw [List.append_nil] at h0
  rw [e, runw_block (by omega) hl1, h0, runw_short (by simp only [List.length_nil]; omega)]
end Go.Proofs.YtoecohpcnojokaaDoor
/-
  THE DIGESTS: end: the message's end.
-/
namespace Go.Proofs.YtoecohpcnojokaaDoor
open Go.RowKit Go.IntWalk Nums

end Go.Proofs.YtoecohpcnojokaaDoor
/-
  THE DIGESTS: fill: the parts' bytes, block by block; Sum512.
-/
namespace Nums
/-- More of the message, and the block isn't full. -/
theorem cop_take {t r b : List UInt8} {n : Nat} (ht : b.take t.length = t) : (Go.Proofs.YtoecohpcnojokaaDoor.cop b t.length (r.take (n - t.length))).take (t.length + min r.length (n - t.length)) = t ++ r.take (n - t.length) := by
  unfold Go.Proofs.YtoecohpcnojokaaDoor.cop
  rw [ht, ← List.append_assoc]
  have hl : (t ++ r.take (n - t.length)).length = t.length + min r.length (n - t.length) := by
    rw [List.length_append, List.length_take, Nat.min_comm]
  rw [← hl, List.take_left]
/-- A block is full. -/
theorem run_full {s : Sha} {n k : Nat} {o : Oct} {a z : List UInt8} (hn : 0 < n) (ha : a.length = k * n) (hz : z.length = n) : turnw s (runw s n o a) z = runw s n o (a ++ z) := by
  rw [runw_append hn k ha]
  have h := runw_block (s := s) (B := n) (o := runw s n o a) (b := z) (l := []) hn hz
  rw [List.append_nil] at h
  have h2 := runw_short (s := s) (B := n) (o := turnw s (runw s n o a) z) (l := []) (by simpa using hn)
  rw [h, h2]
/-- The end. -/
theorem run_end {s : Sha} {n k : Nat} {o : Oct} {a t x : List UInt8} (hn : 0 < n) (ha : a.length = k * n) : runw s n (runw s n o a) (t ++ x) = runw s n o ((a ++ t) ++ x) := by
  rw [List.append_assoc, runw_append hn k ha]
theorem tailw_mod (n r v : Nat) : tailw n r (8 * (v % 18446744073709551616)) = tailw n r (8 * v) := by
  unfold tailw
  have e : be64 (8 * (v % 18446744073709551616)) = be64 (8 * v) := by
    have h1 := Go.Proofs.YtoecohpcnojokaaDoor.be64_mod (8 * (v % 18446744073709551616))
    have h2 := Go.Proofs.YtoecohpcnojokaaDoor.be64_mod (8 * v)
    rw [← h1, ← h2]
    congr 1
    omega
  rw [e]
end Nums
namespace Go.Proofs.YtoecohpcnojokaaDoor
open Go.RowKit Go.IntWalk Nums

def lenv : Value → Nat
  | .slice _ n _ => n
  | _ => 0

theorem flat_take (ls : List (List UInt8)) (k : Nat) (h : k < ls.length) : (ls.take (k + 1)).flatten = (ls.take k).flatten ++ ls[k] := by
  rw [List.take_succ_eq_append_getElem h, List.flatten_append, List.flatten_cons, List.flatten_nil, List.append_nil]

end Go.Proofs.YtoecohpcnojokaaDoor
/-
  THE DIGESTS: Sum512.
-/
namespace Go.Proofs.YtoecohpcnojokaaDoor
open Go.RowKit Go.IntWalk Nums

/-- Both tables lie where they lay. -/
structure Tsh (w : World) : Prop where
  steps : Ts w
  cell : ∀ i, i < 8 → w.cell? ⟨0, i, none⟩ = some (.int .u64 (sqs[i]! : Nat))
  lt : 0 < w.heap.size
theorem Tsh.below {w w' : World} (h : Tsh w) (hb : Below w.heap.size w w') : Tsh w' :=
  ⟨h.steps.below hb, fun i hi => (hb.cell (p := ⟨0, i, none⟩) h.lt).trans (h.cell i hi), Nat.lt_of_lt_of_le h.lt hb.size⟩
end Go.Proofs.YtoecohpcnojokaaDoor
/-
  THE DIGESTS: the library's RotateLeft32, by a negative number.
-/
namespace Go.Proofs.YtoecohpcnojokaaDoor
open Go.RowKit Go.IntWalk Nums

theorem u32_or (a b : Nat) (ha : a < 4294967296) (hb : b < 4294967296) : bits .or .u32 (a : Int) (b : Int) = ((a ||| b : Nat) : Int) := u32_or_nat a b ha hb
set_option maxRecDepth 100000 in
set_option maxHeartbeats 1000000 in
theorem rot32_f (x n : Nat) (hx : x < 4294967296) (h0 : 0 < n) (hn : n < 32) (w : World) :
    Calls Tryd.prog 77 #[.int .u32 (x : Int), .int .i64 (-(n : Int))] w fun e w' => e = .returned (.int .u32 ((rotw 32 n x : Nat) : Int)) ∧ w' = w := by
  have q1 : IntKind.u64.wrap (-(n : Int)) = ((18446744073709551616 - n : Nat) : Int) := by
    rw [IntKind.wrap_u64]
    omega
  have q2 : bits .and .u64 ((18446744073709551616 - n : Nat) : Int) 31 = ((32 - n : Nat) : Int) := by
    have h := u64_and_nat (18446744073709551616 - n) 31 (by omega) (by omega)
    have e : (18446744073709551616 - n) &&& 31 = (18446744073709551616 - n) % 32 := Nat.and_two_pow_sub_one_eq_mod _ 5
    rw [e] at h
    have e2 : (18446744073709551616 - n) % 32 = 32 - n := by omega
    rw [e2] at h
    exact h
  obtain ⟨e1, e2⟩ := rot_or 32 n x (by omega) hx
  have q3 : IntKind.u32.wrap ((x : Int) * 2 ^ (32 - n)) = ((x % 2 ^ n * 2 ^ (32 - n) : Nat) : Int) := by
    rw [← e1, IntKind.wrap_u32]
    simp
  have q4 : IntKind.u64.wrap (32 - ((32 - n : Nat) : Int)) = (n : Int) := by
    rw [IntKind.wrap_u64]
    omega
  have f1 : ((x : Int) / 2 ^ n) = ((x / 2 ^ n : Nat) : Int) := by simp
  have hm : x % 2 ^ n * 2 ^ (32 - n) < 4294967296 := by
    rw [← e1]
    exact Nat.mod_lt _ (by decide)
  have hd : x / 2 ^ n < 4294967296 := Nat.lt_of_le_of_lt (Nat.div_le_self _ _) hx
  have q5 : bits .or .u32 ((x % 2 ^ n * 2 ^ (32 - n) : Nat) : Int) ((x / 2 ^ n : Nat) : Int) = ((rotw 32 n x : Nat) : Int) := by
    rw [u32_or _ _ hm hd, nat_join (32 - n) _ _ (Nat.mul_mod_left _ _) e2]
    unfold rotw
    rw [Nat.add_comm]
  have g1 : ((32 - n : Nat) : Int) ≤ 32 := by omega
  have g2 : (n : Int) ≤ 32 := by omega
  clear e1 e2 hm hd
  generalize rotw 32 n x = r at *
  generalize x % 2 ^ n * 2 ^ (32 - n) = m at *
  generalize x / 2 ^ n = d at *
  generalize hs : 32 - n = s at *
  generalize 18446744073709551616 - n = u at *
  clear hs
  go_enter Tryd.func77, Tryd.ntmps77
  go_wp2
  go_ret
  exact ⟨rfl, rfl⟩
end Go.Proofs.YtoecohpcnojokaaDoor
/-
  WORDS OF 32 BITS: rows of words.
-/
namespace Go.Proofs.YtoecohpcnojokaaDoor
open Go.RowKit Go.IntWalk Nums

/-- Words of 32 bits as the cells of a row. -/
def Uw (l : List Nat) : List Value := l.map fun x : Nat => .int .u32 (x : Int)
theorem Uw_len (l : List Nat) : (Uw l).length = l.length := by simp [Uw]
theorem Uw_one (l : List Nat) : ∀ u ∈ Uw l, u.oneCell' = true := by
  intro u hu
  obtain ⟨x, _, rfl⟩ := List.mem_map.1 hu
  rfl
theorem Uw_at {l : List Nat} {j : Nat} (h : j < l.length) : (Uw l).toArray[j]? = some (.int .u32 (l[j]! : Nat)) := by
  simp [Uw, h]
theorem Uw_set (l : List Nat) (k x : Nat) : (Uw l).toArray.setIfInBounds k (.int .u32 (x : Int)) = (Uw (l.set k x)).toArray := by
  simp [Uw, List.map_set]
theorem orV (i x y : Nat) (hx : x % 2 ^ i = 0) (hy : y < 2 ^ i) (h1 : x < 4294967296) (h2 : y < 4294967296) : bits .or .u32 (x : Int) (y : Int) = ((x + y : Nat) : Int) := by
  rw [u32_or_nat x y h1 h2, nat_join i x y hx hy]
theorem not32 {e : Nat} (he : e < 4294967296) : bits .xor .u32 (if IntKind.u32.signed = true then -1 else IntKind.u32.max) (e : Int) = ((2 ^ 32 - 1 - e : Nat) : Int) := by
  have h := u32_xor_nat 4294967295 e (by omega) he
  have h2 : 4294967295 ^^^ e = 2 ^ 32 - 1 - e := by
    apply Nat.eq_of_testBit_eq
    intro i
    rw [show 2 ^ 32 - 1 - e = 2 ^ 32 - (e + 1) by omega, Nat.testBit_two_pow_sub_succ he, Nat.testBit_xor, show 4294967295 = 2 ^ 32 - 1 from rfl, Nat.testBit_two_pow_sub_one]
    by_cases hi : i < 32
    · simp [hi]
    · have h3 : e.testBit i = false := Nat.testBit_lt_two_pow (Nat.lt_of_lt_of_le he (Nat.pow_le_pow_right (n := 2) (by decide) (show 32 ≤ i by omega)))
      simp [hi, h3]
  rw [h2] at h
  exact h
end Go.Proofs.YtoecohpcnojokaaDoor
/-
  THE DIGESTS: long256: a block's words, and those that are made of them.
-/
namespace Go.Proofs.YtoecohpcnojokaaDoor
open Go.RowKit Go.IntWalk Nums

theorem size_x64 (cs : Array Value) (h : cs.size = 64) : (Tryd.prog.info? 149).map (·.size) = some cs.size := by
  rw [h]
  kernel_rfl
def z64w : List Nat := List.replicate 64 0
theorem z64w_len : z64w.length = 64 := by decide
theorem z64w_get (k : Nat) : z64w[k]! = 0 := by
  unfold z64w
  by_cases h : k < 64
  · rw [getElem!_pos _ k (by rw [List.length_replicate]; exact h), List.getElem_replicate]
  · rw [getElem!_neg _ k (by rw [List.length_replicate]; exact h)]
    rfl
theorem zx64 : (Tryd.prog.info? 149).bind (fun i => i.zero.map (·.cells)) = some (Uw z64w).toArray := by kernel_rfl
theorem set_zero2 {F : Nat → Nat} {k : Nat} : (mxl F z64w k).set k 0 = mxl F z64w k := by
  apply List.ext_getElem (by simp)
  intro i h1 h2
  rw [List.getElem_set]
  by_cases h : k = i
  · subst h
    have h3 : k < 64 := by simpa [mxl_len, z64w_len] using h2
    rw [if_pos rfl]
    have := mxl_get F z64w (k := k) (by rw [z64w_len]; exact h3)
    rw [getElem!_pos _ k h2, z64w_get] at this
    exact this.symm
  · rw [if_neg h]

/-- What long256's rows lie in. -/
structure LS2 (w wr : World) (b : List UInt8) (l : List Nat) : Prop where
  b0 : Blk wr w.heap.size 142 (By b).toArray
  b1 : Blk wr (w.heap.size + 1) 149 (Uw z64w).toArray
  b2 : Blk wr (w.heap.size + 1 + 1) 149 (Uw l).toArray
  be : Below w.heap.size w wr
theorem LS2.set {w wr : World} {b : List UInt8} {l : List Nat} (h : LS2 w wr b l) (k x : Nat) : LS2 w (wr.setCell ⟨w.heap.size + 1 + 1, k, none⟩ (.int .u32 (x : Int))) b (l.set k x) where
  b0 := h.b0.far (by show w.heap.size ≠ w.heap.size + 1 + 1; omega) _
  b1 := h.b1.far (by show w.heap.size + 1 ≠ w.heap.size + 1 + 1; omega) _
  b2 := by
    have h4 := h.b2.set k (.int .u32 (x : Int))
    rw [Uw_set] at h4
    exact h4
  be := h.be.setCell (by show w.heap.size ≤ w.heap.size + 1 + 1; omega) _
theorem LS2.drew {w wr : World} {b : List UInt8} {l : List Nat} (h : LS2 w wr b l) : LS2 w wr.drew b l := ⟨h.b0, h.b1, h.b2, h.be.drew⟩

set_option maxRecDepth 100000 in
set_option maxHeartbeats 4000000 in
theorem long256_f {b : List UInt8} (hb : b.length = 64) (w : World) :
    Calls Tryd.prog 76 #[.agg (By b).toArray] w fun e w' => e = .returned (.agg (Uw (mxl (sx s256 b) z64w 64)).toArray) ∧ Below w.heap.size w w' := by
  have hlt := sx_lt s256 b (by decide)
  have h16 : ∀ t, t < 16 → sx s256 b t = ben (fun k => (b[4 * t + k]!).toNat) 4 := fun t ht => by
    rw [sx, dif_pos ht]
    unfold bword
    rw [Nat.mul_comm t]
    rfl
  have hrec : ∀ t, 16 ≤ t → sx s256 b t = (loww 32 (17, 19, 10) (sx s256 b (t - 2)) + sx s256 b (t - 7) + loww 32 (7, 18, 3) (sx s256 b (t - 15)) + sx s256 b (t - 16)) % 4294967296 := fun t ht => by
    rw [sx, dif_neg (by omega)]
    rfl
  have hl0 := mxl_zero (sx s256 b) z64w
  generalize sx s256 b = F at *
  go_enter Tryd.func76, Tryd.ntmps76
  refine wp_seq_k fun K hK => ?_
  refine wp_region_lit ?_
  refine wpl_box (By b).toArray rfl rfl rfl ?_
  refine wpl_alloc (zs := (Uw z64w).toArray) rfl rfl zx64 ?_
  refine wpl_nil ?_
  go_simp
  refine hK _ _ ?_
  clear hK K
  refine wp_seq_k fun K hK => ?_
  refine wp_region_lit ?_
  refine wpl_alloc (zs := (Uw z64w).toArray) rfl rfl zx64 ?_
  refine wpl_nil ?_
  go_simp
  refine hK _ _ ?_
  clear hK K
  refine wp_at (fun W => LS2 w W b z64w) ⟨blk3_0 w _ _ _ _, blk3_1 w _ _ _ _, blk3_2 w _ _ _ _, (((Below.refl _ _).alloc (Nat.le_refl _) _).alloc (by simp) _).alloc (by simp; omega) _⟩ ?_
  intro W hW
  have HW := Lib.hid hW
  clear hW
  go_wp2
  go_loopw [11] (fun i wr => ∃ t : Nat, t ≤ 16 ∧ i = .int .i64 t ∧ LS2 w wr b (mxl F z64w t)) (fun i _ => 16 - (intOf i).toNat)
  case atStart =>
    refine ⟨0, by omega, rfl, ?_⟩
    rw [hl0]
    exact HW.out
  case round =>
    clear HW
    obtain ⟨t, ht, rfl, hS⟩ := hrel
    by_cases htl : t < 16
    · have hF := h16 t htl
      have hset := mxl_set F z64w (k := t)
      have hz := set_zero2 (F := F) (k := t)
      have qA : IntKind.i64.wrap (4 * (t : Int)) = ((4 * t : Nat) : Int) := by rw [i64_left, wrap64_in _ (by omega)]; omega
      have qB : IntKind.i64.wrap (((4 * t : Nat) : Int) + 4) = ((4 * t + 4 : Nat) : Int) := by rw [i64_left, wrap64_in _ (by omega)]; omega
      have g1 : ((4 * t + 4 : Nat) : Int) ≤ 64 := by omega
      have g2 : ((4 * t : Nat) : Int) ≤ ((4 * t + 4 : Nat) : Int) := by omega
      have g3 : (0 : Int) ≤ ((4 * t : Nat) : Int) := by omega
      have g4 : (0 : Int) ≤ (t : Int) := by omega
      have hN := hS.set t (F t)
      rw [hset] at hN
      have hd : 4 * t + 4 - 4 * t = 4 := by omega
      have hA60 : 4 * t ≤ 60 := by omega
      generalize hA8 : 4 * t + 4 = A8 at *
      generalize hA : 4 * t = A at *
      have c0 := (hS.drew.b0.cell A).trans (By_get (by omega))
      have c1 := (hS.drew.b0.cell (A + 1)).trans (By_get (by omega))
      have c2 := (hS.drew.b0.cell (A + 2)).trans (By_get (by omega))
      have c3 := (hS.drew.b0.cell (A + 3)).trans (By_get (by omega))
      have f1 := (hS.drew.b2.cell t).trans (Uw_at (by rw [mxl_len, z64w_len]; omega))
      have f2 := hS.drew.b2.free t
      have hF2 : F t = (b[A]!).toNat * 16777216 + (b[A + 1]!).toNat * 65536 + (b[A + 2]!).toNat * 256 + (b[A + 3]!).toNat := by
        rw [hF]
        show ((((0 * 256 + (b[A + 0]!).toNat) * 256 + (b[A + 1]!).toNat) * 256 + (b[A + 2]!).toNat) * 256 + (b[A + 3]!).toNat) = _
        rw [Nat.add_zero]
        omega
      have l0 := (b[A]!).toNat_lt
      have l1 := (b[A + 1]!).toNat_lt
      have l2 := (b[A + 2]!).toNat_lt
      have l3 := (b[A + 3]!).toNat_lt
      generalize (b[A]!).toNat = x0 at *
      generalize (b[A + 1]!).toNat = x1 at *
      generalize (b[A + 2]!).toNat = x2 at *
      generalize (b[A + 3]!).toNat = x3 at *
      obtain ⟨y0, hy0⟩ : ∃ y, y = x0 * 16777216 := ⟨_, rfl⟩
      obtain ⟨y1, hy1⟩ : ∃ y, y = x1 * 65536 := ⟨_, rfl⟩
      obtain ⟨y4, hy4⟩ : ∃ y, y = x2 * 256 := ⟨_, rfl⟩
      obtain ⟨y2, hy2⟩ : ∃ y, y = y0 + y1 := ⟨_, rfl⟩
      obtain ⟨y3, hy3⟩ : ∃ y, y = y2 + y4 := ⟨_, rfl⟩
      have w0 : IntKind.u32.wrap ((x0 : Int) * 16777216) = (y0 : Int) := by rw [IntKind.wrap_u32]; omega
      have w1 : IntKind.u32.wrap ((x1 : Int) * 65536) = (y1 : Int) := by rw [IntKind.wrap_u32]; omega
      have w2 : IntKind.u32.wrap ((x2 : Int) * 256) = (y4 : Int) := by rw [IntKind.wrap_u32]; omega
      have w3 : IntKind.u32.wrap (x0 : Int) = (x0 : Int) := by rw [IntKind.wrap_u32]; omega
      have w4 : IntKind.u32.wrap (x1 : Int) = (x1 : Int) := by rw [IntKind.wrap_u32]; omega
      have w5 : IntKind.u32.wrap (x2 : Int) = (x2 : Int) := by rw [IntKind.wrap_u32]; omega
      have w6 : IntKind.u32.wrap (x3 : Int) = (x3 : Int) := by rw [IntKind.wrap_u32]; omega
      have o1 := orV 24 y0 y1 (by omega) (by omega) (by omega) (by omega)
      have o2 := orV 16 y2 y4 (by omega) (by omega) (by omega) (by omega)
      have o3 := orV 8 y3 x3 (by omega) (by omega) (by omega) (by omega)
      have hF3 : F t = y3 + x3 := by omega
      rw [← hF3] at o3
      rw [← hy2] at o1
      rw [← hy3] at o2
      have HN := Lib.hid hN
      clear hS hN hA8 h16 hrec hF hset hz hF2 hF3 hy0 hy1 hy2 hy3 hy4
      generalize F t = z at *
      generalize (mxl F z64w t)[t]! = old at *
      go_wp2
      go_region
      go_wp2
      go_roundw
      case rel => exact ⟨t + 1, by omega, by go_num, HN.out.drew⟩
      case measure => simp [intOf]; omega
    · obtain rfl : t = 16 := by omega
      have HS := Lib.hid hS
      clear hS
      rw [show ((16 : Nat) : Int) = (16 : Int) from rfl]
      go_wp2
      go_loopw [6] (fun i wr => ∃ t : Nat, 16 ≤ t ∧ t ≤ 64 ∧ i = .int .i64 t ∧ LS2 w wr b (mxl F z64w t)) (fun i _ => 64 - (intOf i).toNat)
      case atStart => exact ⟨16, by omega, by omega, rfl, HS.out⟩
      case round =>
        clear HS
        obtain ⟨t, h16t, ht, rfl, hS⟩ := hrel
        by_cases htl : t < 64
        · have hF := hrec t h16t
          have hN := hS.drew.set t (F t)
          rw [mxl_set] at hN
          have k2 := (hS.b2.cell (t - 2)).trans (Uw_at (by rw [mxl_len, z64w_len]; omega))
          have k7 := (hS.drew.drew.b2.cell (t - 7)).trans (Uw_at (by rw [mxl_len, z64w_len]; omega))
          have k15 := (hS.b2.cell (t - 15)).trans (Uw_at (by rw [mxl_len, z64w_len]; omega))
          have k16 := (hS.drew.drew.b2.cell (t - 16)).trans (Uw_at (by rw [mxl_len, z64w_len]; omega))
          rw [mxl_in (by omega) (by rw [z64w_len]; omega)] at k2 k7 k15 k16
          have kf := hS.drew.drew.b2.free t
          have kt := (hS.drew.drew.b2.cell t).trans (Uw_at (by rw [mxl_len, z64w_len]; omega))
          have x2 : F (t - 2) < 4294967296 := hlt (t - 2)
          have x7 : F (t - 7) < 4294967296 := hlt (t - 7)
          have x15 : F (t - 15) < 4294967296 := hlt (t - 15)
          have x16 : F (t - 16) < 4294967296 := hlt (t - 16)
          have i2 : IntKind.i64.wrap ((t : Int) - 2) = ((t - 2 : Nat) : Int) := by rw [i64_left, wrap64_in _ (by omega)]; omega
          have i7 : IntKind.i64.wrap ((t : Int) - 7) = ((t - 7 : Nat) : Int) := by rw [i64_left, wrap64_in _ (by omega)]; omega
          have i15 : IntKind.i64.wrap ((t : Int) - 15) = ((t - 15 : Nat) : Int) := by rw [i64_left, wrap64_in _ (by omega)]; omega
          have i16 : IntKind.i64.wrap ((t : Int) - 16) = ((t - 16 : Nat) : Int) := by rw [i64_left, wrap64_in _ (by omega)]; omega
          have j2 : ((t - 2 : Nat) : Int) < 64 := by omega
          have j7 : ((t - 7 : Nat) : Int) < 64 := by omega
          have j15 : ((t - 15 : Nat) : Int) < 64 := by omega
          have j16 : ((t - 16 : Nat) : Int) < 64 := by omega
          generalize (mxl F z64w t)[t]! = old at *
          generalize F (t - 2) = x at *
          generalize F (t - 7) = p at *
          generalize F (t - 15) = y at *
          generalize F (t - 16) = q at *
          generalize t - 2 = a2 at *
          generalize t - 7 = a7 at *
          generalize t - 15 = a15 at *
          generalize t - 16 = a16 at *
          have b1 := rotw_lt (w := 32) (n := 17) (x := x) (by decide) x2
          have b2 := rotw_lt (w := 32) (n := 19) (x := x) (by decide) x2
          have b3 := rotw_lt (w := 32) (n := 7) (x := y) (by decide) x15
          have b4 := rotw_lt (w := 32) (n := 18) (x := y) (by decide) x15
          have R1 := fun w1 => Lib.hid (rot32_f x 17 x2 (by decide) (by decide) w1)
          have R2 := fun w1 => Lib.hid (rot32_f x 19 x2 (by decide) (by decide) w1)
          have R3 := fun w1 => Lib.hid (rot32_f y 7 x15 (by decide) (by decide) w1)
          have R4 := fun w1 => Lib.hid (rot32_f y 18 x15 (by decide) (by decide) w1)
          have s1 : loww 32 (17, 19, 10) x = rotw 32 17 x ^^^ rotw 32 19 x ^^^ x / 1024 := rfl
          have s0 : loww 32 (7, 18, 3) y = rotw 32 7 y ^^^ rotw 32 18 y ^^^ y / 8 := rfl
          rw [s1, s0] at hF
          generalize rotw 32 17 x = r1 at *
          generalize rotw 32 19 x = r2 at *
          generalize rotw 32 7 y = r3 at *
          generalize rotw 32 18 y = r4 at *
          have d6 : (x : Int) / 1024 = ((x / 1024 : Nat) : Int) := by omega
          have d7 : (y : Int) / 8 = ((y / 8 : Nat) : Int) := by omega
          have hd6 : x / 1024 < 4294967296 := by omega
          have hd7 : y / 8 < 4294967296 := by omega
          generalize x / 1024 = u6 at *
          generalize y / 8 = u7 at *
          have o1 := u32_xor_nat r1 r2 b1 b2
          have o2 := u32_xor_nat (r1 ^^^ r2) u6 (xor_lt b1 b2) hd6
          have o3 := u32_xor_nat r3 r4 b3 b4
          have o4 := u32_xor_nat (r3 ^^^ r4) u7 (xor_lt b3 b4) hd7
          have c1 := xor_lt (xor_lt b1 b2) hd6
          have c0 := xor_lt (xor_lt b3 b4) hd7
          generalize r1 ^^^ r2 ^^^ u6 = v1 at *
          generalize r3 ^^^ r4 ^^^ u7 = v0 at *
          generalize r1 ^^^ r2 = v2 at *
          generalize r3 ^^^ r4 = v3 at *
          have w1 : IntKind.u32.wrap ((v1 : Int) + (p : Int)) = (((v1 + p) % 4294967296 : Nat) : Int) := by rw [IntKind.wrap_u32]; omega
          have w2 : IntKind.u32.wrap ((((v1 + p) % 4294967296 : Nat) : Int) + (v0 : Int)) = ((((v1 + p) % 4294967296 + v0) % 4294967296 : Nat) : Int) := by rw [IntKind.wrap_u32]; omega
          have w3 : IntKind.u32.wrap (((((v1 + p) % 4294967296 + v0) % 4294967296 : Nat) : Int) + (q : Int)) = ((F t : Nat) : Int) := by rw [hF, IntKind.wrap_u32]; omega
          have HN := Lib.hid hN
          clear hS hN hF s1 s0 b1 b2 b3 b4 hd6 hd7 c1 c0
          generalize ((v1 + p) % 4294967296 + v0) % 4294967296 = v5 at *
          generalize (v1 + p) % 4294967296 = v4 at *
          generalize F t = z at *
          go_wp2
          go_region
          clear k2 k15
          generalize wr.drew = W2 at *
          go_wp2_with (fail)
          refine (R1 _).out.mono ?_
          rintro e w4 ⟨rfl, rfl⟩
          go_wp2_with (fail)
          refine (R2 _).out.mono ?_
          rintro e w4 ⟨rfl, rfl⟩
          go_wp2_with (fail)
          refine (R3 _).out.mono ?_
          rintro e w4 ⟨rfl, rfl⟩
          go_wp2_with (fail)
          refine (R4 _).out.mono ?_
          rintro e w4 ⟨rfl, rfl⟩
          go_wp2_with (fail)
          go_still_tail 15, (by kernel_rfl)
          go_wp2
          go_roundw
          case rel => exact ⟨t + 1, by omega, by omega, by go_num, HN.out.drew⟩
          case measure => simp [intOf]; omega
        · obtain rfl : t = 64 := by omega
          obtain ⟨b0, b1, b2, be⟩ := hS
          have hz : (Uw (mxl F z64w 64)).toArray.size = 64 := by rw [List.size_toArray, Uw_len, mxl_len, z64w_len]
          clear b0
          go_wp2_with (first
            | (refine wpList_load_row rfl 149 _ rfl (w.heap.size + 1 + 1) rfl 149 (Uw (mxl F z64w 64)).toArray (0, 0) _ b2 Tryd.underlying149 rfl (size_x64 _ hz) ?_)
            | (refine wpList_store_row rfl 149 _ _ rfl (w.heap.size + 1) rfl (Uw (mxl F z64w 64)).toArray rfl 149 _ b1 (size_x64 _ hz) (by rw [hz, List.size_toArray, Uw_len, z64w_len]) (Uw_one _) ?_))
          refine bodyPost_ret (results_cell_row rfl _ _ (w.heap.size + 1) 149 (Uw (mxl F z64w 64)).toArray (0, 0) _ rfl (b1.row _) Tryd.underlying149 rfl (size_x64 _ hz)) rfl ⟨rfl, ?_⟩
          exact below_setRow be (by omega) _
end Go.Proofs.YtoecohpcnojokaaDoor
/-
  THE DIGESTS: turn256: the eight words turned by a block.
-/
namespace Go.Proofs.YtoecohpcnojokaaDoor
open Go.RowKit Go.IntWalk Nums

theorem own_long256 : Own 76 := fun _ _ => by go_simp
theorem size_v8 (cs : Array Value) (h : cs.size = 8) : (Tryd.prog.info? 140).map (·.size) = some cs.size := by
  rw [h]
  kernel_rfl
theorem len_b64 {l : List UInt8} (h : l.length = 64) : (By l).toArray.size = 64 := by rw [List.size_toArray, By_len, h]
def z8v : Array Value := (Uw [0, 0, 0, 0, 0, 0, 0, 0]).toArray

section
variable {ops : Array Oper} {C0 : World → Prop} {Q : Act → Prop} {a : Act} {o : Oper} {rest : List Oper}
theorem b_by64 {l : List UInt8} (g : Nat) (hl : l.length = 64) (x : Operand) (hg : Region.wanted o (yielded ops a.tmps) = true) (ho : o.op = .load 142 x) (hx : a.eval x = .pointer (some ⟨g, 0, none⟩))
    (hc : ∀ w, C0 w → Blk w g 142 (By l).toArray) (hk : wpB Tryd.prog ops C0 Q rest (a.put o.dst (.agg (By l).toArray))) : wpB Tryd.prog ops C0 Q (o :: rest) a :=
  b_mid hg 142 x ho g 0 hx (By l) _ (fun w h => (hc w h).range) Tryd.underlying142 rfl (size_b64 (By l).toArray (len_b64 hl)) hk
theorem b_idx8v {x : Operand} (g k : Nat) (hk8 : k < 8) (hg : Region.wanted o (yielded ops a.tmps) = true) (ho : o.op = .indexAddr 140 x (.const (.int .i64 (k : Int)))) (hx : a.eval x = .pointer (some ⟨g, 0, none⟩))
    (hk : wpB Tryd.prog ops C0 Q rest (a.put o.dst (.pointer (some ⟨g, k, none⟩)))) : wpB Tryd.prog ops C0 Q (o :: rest) a :=
  b_val hg (fun w _ => by
    have h1 : (k : Int) < 8 := by omega
    have h2 : (0 : Int) ≤ (k : Int) := by omega
    unfold execOp
    simp only [ho, hx]
    go_simp) hk
theorem b_cellV {x : Operand} (g k v : Nat) (hg : Region.wanted o (yielded ops a.tmps) = true) (ho : o.op = .load 139 x) (hx : a.eval x = .pointer (some ⟨g, k, none⟩)) (hc : ∀ w, C0 w → w.cell? ⟨g, k, none⟩ = some (.int .u32 (v : Int)))
    (hk : wpB Tryd.prog ops C0 Q rest (a.put o.dst (.int .u32 (v : Int)))) : wpB Tryd.prog ops C0 Q (o :: rest) a :=
  b_val hg (fun w hw => by
    have h1 := hc w hw
    unfold execOp
    simp only [ho, hx]
    go_simp) hk
end

/-- What turn256's rows lie in. -/
structure TS2 (w wr : World) (o : Oct) (gx : Nat) (l : List Nat) : Prop where
  b0 : Blk wr w.heap.size 140 (Uw o.list).toArray
  b2 : Blk wr (w.heap.size + 1 + 1) 140 z8v
  bx : Blk wr gx 149 (Uw l).toArray
  tw : Ts wr
  be : Below w.heap.size w wr
theorem TS2.up {w wr w1 : World} {o : Oct} {gx : Nat} {l : List Nat} (h : TS2 w wr o gx l) (k : Up wr w1) : TS2 w w1 o gx l := ⟨k.blk h.b0, k.blk h.b2, k.blk h.bx, h.tw.below k, below_up h.be k⟩
theorem TS2.drew {w wr : World} {o : Oct} {gx : Nat} {l : List Nat} (h : TS2 w wr o gx l) : TS2 w wr.drew o gx l := ⟨h.b0, h.b2, h.bx, h.tw.drew, h.be.drew⟩

set_option maxRecDepth 100000 in
set_option maxHeartbeats 8000000 in
theorem turn256_f {o : Oct} (ho : OB 32 o) {b : List UInt8} (hb : b.length = 64) (w : World) (hT : Ts w) :
    Calls Tryd.prog 72 #[.agg (Uw o.list).toArray, .agg (By b).toArray] w fun e w' => e = .returned (.agg (Uw (turnw s256 o b).list).toArray) ∧ Below w.heap.size w w' := by
  have HL := fun w1 => long256_f hb w1
  have hxl : ∀ t, t < 64 → (mxl (sx s256 b) z64w 64)[t]! = sx s256 b t := fun t h => mxl_in h (by rw [z64w_len]; exact h)
  have hxb := sx_lt s256 b (by decide)
  have hxn : (mxl (sx s256 b) z64w 64).length = 64 := by rw [mxl_len, z64w_len]
  have hO := fun t => OB.rnds (s := s256) (b := b) ho t
  have hstep : ∀ t, rnds s256 b o (t + 1) = rnd s256 (cbs[t]! / 4294967296) (sx s256 b t) (rnds s256 b o t) := fun t => rfl
  have h0 : rnds s256 b o 0 = o := rfl
  have hend : turnw s256 o b = add8 32 o (rnds s256 b o 64) := rfl
  rw [hend]
  clear hend
  have hzx : (Uw (mxl (sx s256 b) z64w 64)).toArray.size = 64 := by rw [List.size_toArray, Uw_len, hxn]
  generalize mxl (sx s256 b) z64w 64 = l at *
  generalize sx s256 b = F at *
  generalize rnds s256 b o = R at *
  go_enter Tryd.func72, Tryd.ntmps72
  refine wp_seq_k fun K hK => ?_
  refine wp_region_lit ?_
  refine wpl_box (Uw o.list).toArray rfl rfl rfl ?_
  refine wpl_box (By b).toArray rfl rfl rfl ?_
  refine wpl_alloc (zs := z8v) rfl rfl (by kernel_rfl) ?_
  refine wpl_nil ?_
  go_simp
  refine hK _ _ ?_
  clear hK K
  refine wp_at (fun W => Blk W w.heap.size 140 (Uw o.list).toArray ∧ Blk W (w.heap.size + 1) 142 (By b).toArray ∧ Blk W (w.heap.size + 1 + 1) 140 z8v ∧ Ts W ∧ Below w.heap.size w W) ⟨blk3_0 w _ _ _ _, blk3_1 w _ _ _ _, blk3_2 w _ _ _ _, hT.below ((((Below.refl _ _).alloc (Nat.le_refl _) _).alloc (by simp) _).alloc (by simp; omega) _), (((Below.refl _ _).alloc (Nat.le_refl _) _).alloc (by simp) _).alloc (by simp; omega) _⟩ ?_
  rintro W ⟨k0, k1, k2, hTW, hbe⟩
  refine wp_seq_k fun K hK => ?_
  refine reg_varF 2 5 149 (.tmp 20) (Uw z64w).toArray rfl rfl rfl rfl rfl rfl rfl (exec_alloc rfl zx64) ?_
  simp only [List.take_succ_cons, List.take_zero]
  refine b_by64 (w.heap.size + 1) hb _ rfl rfl rfl (fun _ h => h.blk k1) ?_
  simp only [Act.put, List.setIfInBounds_toArray, List.set_cons_zero, List.set_cons_succ]
  refine b_one rfl own_long256 (fun w1 => HL w1) rfl rfl ?_
  simp only [Act.put, List.setIfInBounds_toArray, List.set_cons_zero, List.set_cons_succ]
  refine wpB_nil ⟨(Uw l).toArray, fun _ => rfl, fun _ => rfl, by rw [hzx, List.size_toArray, Uw_len, z64w_len], size_x64 _ hzx, Uw_one _, fun gx W3 hgx hw1 hbx => ?_⟩
  simp only [Exit.then, Act.put, List.setIfInBounds_toArray, List.set_cons_zero, List.set_cons_succ]
  refine hK _ _ ?_
  clear hK K
  have hS : TS2 w W3 o gx l := ⟨hw1.blk k0, hw1.blk k2, hbx, hTW.below hw1, below_up hbe hw1⟩
  clear k0 k1 k2 hTW hbe hw1 hbx HL hT
  have hb0 := hS.b0
  have HS := Lib.hid (And.intro hS h0)
  clear hS h0
  refine wp_seq_k fun K hK => ?_
  refine reg_q (by kernel_rfl) (tail_ok (by kernel_rfl)) (fun _ _ d _ _ h => by cases d <;> exact h) ?_
  refine b_idx8v w.heap.size 0 (by decide) rfl rfl rfl ?_
  simp only [Act.put, List.setIfInBounds_toArray, List.set_cons_zero, List.set_cons_succ]
  refine b_cellV w.heap.size 0 o.a rfl rfl rfl (fun _ h => (h.blk hb0).cell 0) ?_
  simp only [Act.put, List.setIfInBounds_toArray, List.set_cons_zero, List.set_cons_succ]
  refine b_idx8v w.heap.size 1 (by decide) rfl rfl rfl ?_
  simp only [Act.put, List.setIfInBounds_toArray, List.set_cons_zero, List.set_cons_succ]
  refine b_cellV w.heap.size 1 o.b rfl rfl rfl (fun _ h => (h.blk hb0).cell 1) ?_
  simp only [Act.put, List.setIfInBounds_toArray, List.set_cons_zero, List.set_cons_succ]
  refine b_idx8v w.heap.size 2 (by decide) rfl rfl rfl ?_
  simp only [Act.put, List.setIfInBounds_toArray, List.set_cons_zero, List.set_cons_succ]
  refine b_cellV w.heap.size 2 o.c rfl rfl rfl (fun _ h => (h.blk hb0).cell 2) ?_
  simp only [Act.put, List.setIfInBounds_toArray, List.set_cons_zero, List.set_cons_succ]
  refine b_idx8v w.heap.size 3 (by decide) rfl rfl rfl ?_
  simp only [Act.put, List.setIfInBounds_toArray, List.set_cons_zero, List.set_cons_succ]
  refine b_cellV w.heap.size 3 o.d rfl rfl rfl (fun _ h => (h.blk hb0).cell 3) ?_
  simp only [Act.put, List.setIfInBounds_toArray, List.set_cons_zero, List.set_cons_succ]
  refine b_idx8v w.heap.size 4 (by decide) rfl rfl rfl ?_
  simp only [Act.put, List.setIfInBounds_toArray, List.set_cons_zero, List.set_cons_succ]
  refine b_cellV w.heap.size 4 o.e rfl rfl rfl (fun _ h => (h.blk hb0).cell 4) ?_
  simp only [Act.put, List.setIfInBounds_toArray, List.set_cons_zero, List.set_cons_succ]
  refine b_idx8v w.heap.size 5 (by decide) rfl rfl rfl ?_
  simp only [Act.put, List.setIfInBounds_toArray, List.set_cons_zero, List.set_cons_succ]
  refine b_cellV w.heap.size 5 o.f rfl rfl rfl (fun _ h => (h.blk hb0).cell 5) ?_
  simp only [Act.put, List.setIfInBounds_toArray, List.set_cons_zero, List.set_cons_succ]
  refine b_idx8v w.heap.size 6 (by decide) rfl rfl rfl ?_
  simp only [Act.put, List.setIfInBounds_toArray, List.set_cons_zero, List.set_cons_succ]
  refine b_cellV w.heap.size 6 o.g rfl rfl rfl (fun _ h => (h.blk hb0).cell 6) ?_
  simp only [Act.put, List.setIfInBounds_toArray, List.set_cons_zero, List.set_cons_succ]
  refine b_idx8v w.heap.size 7 (by decide) rfl rfl rfl ?_
  simp only [Act.put, List.setIfInBounds_toArray, List.set_cons_zero, List.set_cons_succ]
  refine b_cellV w.heap.size 7 o.h rfl rfl rfl (fun _ h => (h.blk hb0).cell 7) ?_
  simp only [Act.put, List.setIfInBounds_toArray, List.set_cons_zero, List.set_cons_succ]
  refine b_assignV (.int .u32 (o.a : Int)) rfl rfl rfl ?_
  simp only [Act.put, List.setIfInBounds_toArray, List.set_cons_zero, List.set_cons_succ]
  refine b_assignV (.int .u32 (o.b : Int)) rfl rfl rfl ?_
  simp only [Act.put, List.setIfInBounds_toArray, List.set_cons_zero, List.set_cons_succ]
  refine b_assignV (.int .u32 (o.c : Int)) rfl rfl rfl ?_
  simp only [Act.put, List.setIfInBounds_toArray, List.set_cons_zero, List.set_cons_succ]
  refine b_assignV (.int .u32 (o.d : Int)) rfl rfl rfl ?_
  simp only [Act.put, List.setIfInBounds_toArray, List.set_cons_zero, List.set_cons_succ]
  refine b_assignV (.int .u32 (o.e : Int)) rfl rfl rfl ?_
  simp only [Act.put, List.setIfInBounds_toArray, List.set_cons_zero, List.set_cons_succ]
  refine b_assignV (.int .u32 (o.f : Int)) rfl rfl rfl ?_
  simp only [Act.put, List.setIfInBounds_toArray, List.set_cons_zero, List.set_cons_succ]
  refine b_assignV (.int .u32 (o.g : Int)) rfl rfl rfl ?_
  simp only [Act.put, List.setIfInBounds_toArray, List.set_cons_zero, List.set_cons_succ]
  refine b_assignV (.int .u32 (o.h : Int)) rfl rfl rfl ?_
  simp only [Act.put, List.setIfInBounds_toArray, List.set_cons_zero, List.set_cons_succ]
  refine wpB_nil ?_
  intro W4 hw1
  simp only [Exit.then]
  refine hK _ _ ?_
  clear hK K hb0
  have HS := Lib.hid (And.intro (HS.out.1.up hw1) HS.out.2)
  clear hw1
  go_wp2
  go_loopw [37, 6, 7, 8, 9, 10, 11, 12, 13] (fun i va vb vc vd ve vf vg vh wr => ∃ t : Nat, t ≤ 64 ∧ i = .int .i64 t ∧ va = .int .u32 (R t).a ∧ vb = .int .u32 (R t).b ∧ vc = .int .u32 (R t).c ∧ vd = .int .u32 (R t).d ∧ ve = .int .u32 (R t).e ∧ vf = .int .u32 (R t).f ∧ vg = .int .u32 (R t).g ∧ vh = .int .u32 (R t).h ∧ TS2 w wr o gx l) (fun i _ _ _ _ _ _ _ _ _ => 64 - (intOf i).toNat)
  case atStart =>
    obtain ⟨hS, h0⟩ := HS.out
    refine ⟨0, by omega, rfl, ?_⟩
    rw [h0]
    exact ⟨rfl, rfl, rfl, rfl, rfl, rfl, rfl, rfl, hS⟩
  case round =>
    clear HS
    obtain ⟨t, ht, rfl, rfl, rfl, rfl, rfl, rfl, rfl, rfl, rfl, hS⟩ := hrel
    by_cases htl : t < 64
    · have hs := hstep t
      obtain ⟨ba, bb, bc, bd, be, bf, bg, bh⟩ := hO t
      have hX : F t < 4294967296 := hxb t
      have hC := cbs_lt (show t < 80 by omega)
      have hKt : cbs[t]! / 4294967296 < 4294967296 := by omega
      have qk : ((cbs[t]! : Nat) : Int) / 4294967296 = ((cbs[t]! / 4294967296 : Nat) : Int) := by omega
      have cx := (hS.drew.bx.cell t).trans (Uw_at (by omega))
      rw [hxl t htl] at cx
      have ck := hS.drew.tw.cell t (by omega)
      generalize R t = q at *
      obtain ⟨a, b', c, d, e, f, g, h⟩ := q
      generalize F t = X at *
      generalize cbs[t]! / 4294967296 = Kt at *
      generalize cbs[t]! = Ct at *
      have qw : IntKind.u32.wrap (Kt : Int) = (Kt : Int) := by rw [IntKind.wrap_u32]; omega
      dsimp only at ba bb bc bd be bf bg bh ⊢
      have e1 : bigw 32 (6, 11, 25) e = rotw 32 6 e ^^^ rotw 32 11 e ^^^ rotw 32 25 e := rfl
      have e0 : bigw 32 (2, 13, 22) a = rotw 32 2 a ^^^ rotw 32 13 a ^^^ rotw 32 22 a := rfl
      have r1 := rotw_lt (w := 32) (n := 6) (x := e) (by decide) be
      have r2 := rotw_lt (w := 32) (n := 11) (x := e) (by decide) be
      have r3 := rotw_lt (w := 32) (n := 25) (x := e) (by decide) be
      have r4 := rotw_lt (w := 32) (n := 2) (x := a) (by decide) ba
      have r5 := rotw_lt (w := 32) (n := 13) (x := a) (by decide) ba
      have r6 := rotw_lt (w := 32) (n := 22) (x := a) (by decide) ba
      have R1 := fun w1 => Lib.hid (rot32_f e 6 be (by decide) (by decide) w1)
      have R2 := fun w1 => Lib.hid (rot32_f e 11 be (by decide) (by decide) w1)
      have R3 := fun w1 => Lib.hid (rot32_f e 25 be (by decide) (by decide) w1)
      have R4 := fun w1 => Lib.hid (rot32_f a 2 ba (by decide) (by decide) w1)
      have R5 := fun w1 => Lib.hid (rot32_f a 13 ba (by decide) (by decide) w1)
      have R6 := fun w1 => Lib.hid (rot32_f a 22 ba (by decide) (by decide) w1)
      have hnew : rnd s256 Kt X ⟨a, b', c, d, e, f, g, h⟩ = ⟨(h + bigw 32 (6, 11, 25) e + chw 32 e f g + Kt + X + (bigw 32 (2, 13, 22) a + maw a b' c)) % 4294967296, a, b', c, (d + (h + bigw 32 (6, 11, 25) e + chw 32 e f g + Kt + X)) % 4294967296, e, f, g⟩ := rfl
      rw [hnew] at hs
      clear hnew
      have u1 := bigw_lt (w := 32) (t := (6, 11, 25)) (x := e) (by decide) be
      have u0 := bigw_lt (w := 32) (t := (2, 13, 22)) (x := a) (by decide) ba
      have uc := chw_lt (w := 32) (e := e) (f := f) (g := g) be
      have um := maw_lt (w := 32) (a := a) (b := b') (c := c) ba bb
      have x1 := u32_xor_nat _ _ r1 r2
      have x2 := u32_xor_nat _ _ (xor_lt r1 r2) r3
      have x3 := u32_xor_nat _ _ r4 r5
      have x4 := u32_xor_nat _ _ (xor_lt r4 r5) r6
      rw [← e1] at x2
      rw [← e0] at x4
      generalize bigw 32 (6, 11, 25) e = s1 at *
      generalize bigw 32 (2, 13, 22) a = s0 at *
      generalize rotw 32 6 e ^^^ rotw 32 11 e = y1 at *
      generalize rotw 32 2 a ^^^ rotw 32 13 a = y0 at *
      generalize rotw 32 6 e = p1 at *
      generalize rotw 32 11 e = p2 at *
      generalize rotw 32 25 e = p3 at *
      generalize rotw 32 2 a = p4 at *
      generalize rotw 32 13 a = p5 at *
      generalize rotw 32 22 a = p6 at *
      have n1 := u32_and_nat e f be bf
      have n2 := u32_and_nat (2 ^ 32 - 1 - e) g (by omega) bg
      have n3 : bits .xor .u32 ((e &&& f : Nat) : Int) (((2 ^ 32 - 1 - e) &&& g : Nat) : Int) = ((chw 32 e f g : Nat) : Int) := u32_xor_nat _ _ (and_lt (w := 32) be) (and_lt (w := 32) (Nat.lt_of_le_of_lt (Nat.sub_le (2 ^ 32 - 1) e) (by decide)))
      have n4 := u32_and_nat a b' ba bb
      have n5 := u32_and_nat a c ba bc
      have n6 := u32_and_nat b' c bb bc
      have n7 := u32_xor_nat (a &&& b') (a &&& c) (and_lt ba) (and_lt ba)
      have n8 : bits .xor .u32 (((a &&& b') ^^^ (a &&& c) : Nat) : Int) ((b' &&& c : Nat) : Int) = ((maw a b' c : Nat) : Int) := u32_xor_nat _ _ (xor_lt (and_lt ba) (and_lt ba)) (and_lt bb)
      generalize chw 32 e f g = ch at *
      generalize maw a b' c = ma at *
      generalize (a &&& b') ^^^ (a &&& c) = m4 at *
      generalize a &&& b' = m1 at *
      generalize a &&& c = m2 at *
      generalize b' &&& c = m3 at *
      generalize e &&& f = m5 at *
      generalize (2 ^ 32 - 1 - e) &&& g = m6 at *
      have nn := not32 be
      generalize 2 ^ 32 - 1 - e = ne at *
      obtain ⟨q1, hq1⟩ : ∃ z, z = (h + s1) % 4294967296 := ⟨_, rfl⟩
      obtain ⟨q2, hq2⟩ : ∃ z, z = (q1 + ch) % 4294967296 := ⟨_, rfl⟩
      obtain ⟨q3, hq3⟩ : ∃ z, z = (q2 + Kt) % 4294967296 := ⟨_, rfl⟩
      obtain ⟨q4, hq4⟩ : ∃ z, z = (q3 + X) % 4294967296 := ⟨_, rfl⟩
      obtain ⟨q5, hq5⟩ : ∃ z, z = (s0 + ma) % 4294967296 := ⟨_, rfl⟩
      obtain ⟨q6, hq6⟩ : ∃ z, z = (d + q4) % 4294967296 := ⟨_, rfl⟩
      obtain ⟨q7, hq7⟩ : ∃ z, z = (q4 + q5) % 4294967296 := ⟨_, rfl⟩
      have t1 : IntKind.u32.wrap ((h : Int) + (s1 : Int)) = (q1 : Int) := by rw [IntKind.wrap_u32]; omega
      have t2 : IntKind.u32.wrap ((q1 : Int) + (ch : Int)) = (q2 : Int) := by rw [IntKind.wrap_u32]; omega
      have t3 : IntKind.u32.wrap ((q2 : Int) + (Kt : Int)) = (q3 : Int) := by rw [IntKind.wrap_u32]; omega
      have t4 : IntKind.u32.wrap ((q3 : Int) + (X : Int)) = (q4 : Int) := by rw [IntKind.wrap_u32]; omega
      have t5 : IntKind.u32.wrap ((s0 : Int) + (ma : Int)) = (q5 : Int) := by rw [IntKind.wrap_u32]; omega
      have t6 : IntKind.u32.wrap ((d : Int) + (q4 : Int)) = (q6 : Int) := by rw [IntKind.wrap_u32]; omega
      have t7 : IntKind.u32.wrap ((q4 : Int) + (q5 : Int)) = (q7 : Int) := by rw [IntKind.wrap_u32]; omega
      have h6 : (d + (h + s1 + ch + Kt + X)) % 4294967296 = q6 := by omega
      have h7 : (h + s1 + ch + Kt + X + (s0 + ma)) % 4294967296 = q7 := by omega
      rw [h6, h7] at hs
      clear hq1 hq2 hq3 hq4 hq5 hq6 hq7 h6 h7
      have HN := Lib.hid (And.intro hs hS.drew)
      clear hs hS e1 e0 r1 r2 r3 r4 r5 r6
      go_wp2_with (fail)
      refine (R1 _).out.mono ?_
      rintro z w4 ⟨rfl, rfl⟩
      go_wp2_with (fail)
      refine (R2 _).out.mono ?_
      rintro z w4 ⟨rfl, rfl⟩
      go_wp2_with (fail)
      refine (R3 _).out.mono ?_
      rintro z w4 ⟨rfl, rfl⟩
      go_wp2_with (fail)
      refine (R4 _).out.mono ?_
      rintro z w4 ⟨rfl, rfl⟩
      go_wp2_with (fail)
      refine (R5 _).out.mono ?_
      rintro z w4 ⟨rfl, rfl⟩
      go_wp2_with (fail)
      refine (R6 _).out.mono ?_
      rintro z w4 ⟨rfl, rfl⟩
      go_wp2_with (fail)
      go_region
      go_wp2
      go_roundw
      case rel =>
        obtain ⟨hs, hS⟩ := HN.out
        refine ⟨t + 1, by omega, by go_num, ?_⟩
        rw [hs]
        exact ⟨rfl, rfl, rfl, rfl, rfl, rfl, rfl, rfl, hS⟩
      case measure => simp [intOf]; omega
    · obtain rfl : t = 64 := by omega
      obtain ⟨ba, bb, bc, bd, be, bf, bg, bh⟩ := hO 64
      obtain ⟨ha, hb', hc, hd, he, hf, hg, hh⟩ := ho
      generalize hq : R 64 = q at *
      obtain ⟨a, b', c, d, e, f, g, h⟩ := q
      have HQ := Lib.hid hq
      clear hq
      dsimp only at ba bb bc bd be bf bg bh ⊢
      obtain ⟨k0, k2, kx, kt, kb⟩ := hS
      have c0 : wr.cell? ⟨w.heap.size, 0, none⟩ = some (.int .u32 (o.a : Int)) := k0.cell 0
      have c1 : wr.cell? ⟨w.heap.size, 1, none⟩ = some (.int .u32 (o.b : Int)) := k0.cell 1
      have c2 : wr.cell? ⟨w.heap.size, 2, none⟩ = some (.int .u32 (o.c : Int)) := k0.cell 2
      have c3 : wr.cell? ⟨w.heap.size, 3, none⟩ = some (.int .u32 (o.d : Int)) := k0.cell 3
      have c4 : wr.cell? ⟨w.heap.size, 4, none⟩ = some (.int .u32 (o.e : Int)) := k0.cell 4
      have c5 : wr.cell? ⟨w.heap.size, 5, none⟩ = some (.int .u32 (o.f : Int)) := k0.cell 5
      have c6 : wr.cell? ⟨w.heap.size, 6, none⟩ = some (.int .u32 (o.g : Int)) := k0.cell 6
      have c7 : wr.cell? ⟨w.heap.size, 7, none⟩ = some (.int .u32 (o.h : Int)) := k0.cell 7
      have w0 : IntKind.u32.wrap ((o.a : Int) + (a : Int)) = (((o.a + a) % 4294967296 : Nat) : Int) := by rw [IntKind.wrap_u32]; omega
      have w1 : IntKind.u32.wrap ((o.b : Int) + (b' : Int)) = (((o.b + b') % 4294967296 : Nat) : Int) := by rw [IntKind.wrap_u32]; omega
      have w2 : IntKind.u32.wrap ((o.c : Int) + (c : Int)) = (((o.c + c) % 4294967296 : Nat) : Int) := by rw [IntKind.wrap_u32]; omega
      have w3 : IntKind.u32.wrap ((o.d : Int) + (d : Int)) = (((o.d + d) % 4294967296 : Nat) : Int) := by rw [IntKind.wrap_u32]; omega
      have w4 : IntKind.u32.wrap ((o.e : Int) + (e : Int)) = (((o.e + e) % 4294967296 : Nat) : Int) := by rw [IntKind.wrap_u32]; omega
      have w5 : IntKind.u32.wrap ((o.f : Int) + (f : Int)) = (((o.f + f) % 4294967296 : Nat) : Int) := by rw [IntKind.wrap_u32]; omega
      have w6 : IntKind.u32.wrap ((o.g : Int) + (g : Int)) = (((o.g + g) % 4294967296 : Nat) : Int) := by rw [IntKind.wrap_u32]; omega
      have w7 : IntKind.u32.wrap ((o.h : Int) + (h : Int)) = (((o.h + h) % 4294967296 : Nat) : Int) := by rw [IntKind.wrap_u32]; omega
      have hres : add8 32 o ⟨a, b', c, d, e, f, g, h⟩ = ⟨(o.a + a) % 4294967296, (o.b + b') % 4294967296, (o.c + c) % 4294967296, (o.d + d) % 4294967296, (o.e + e) % 4294967296, (o.f + f) % 4294967296, (o.g + g) % 4294967296, (o.h + h) % 4294967296⟩ := rfl
      generalize (o.a + a) % 4294967296 = z0 at *
      generalize (o.b + b') % 4294967296 = z1 at *
      generalize (o.c + c) % 4294967296 = z2 at *
      generalize (o.d + d) % 4294967296 = z3 at *
      generalize (o.e + e) % 4294967296 = z4 at *
      generalize (o.f + f) % 4294967296 = z5 at *
      generalize (o.g + g) % 4294967296 = z6 at *
      generalize (o.h + h) % 4294967296 = z7 at *
      have HR := Lib.hid hres
      clear hres ba bb bc bd be bf bg bh ha hb' hc hd he hf hg hh k0 kx kt
      have HK := Lib.hid (And.intro k2 kb)
      clear k2 kb
      have hz : (Uw [z0, z1, z2, z3, z4, z5, z6, z7]).toArray.size = 8 := rfl
      have k2 := HK.out.1
      go_wp2_with (refine wpList_store_row rfl 140 _ _ rfl (w.heap.size + 1 + 1) rfl (Uw [z0, z1, z2, z3, z4, z5, z6, z7]).toArray rfl 140 _ k2 (size_v8 _ hz) (by rw [hz]; rfl) (Uw_one _) ?_)
      refine bodyPost_ret (results_cell_row rfl _ _ (w.heap.size + 1 + 1) 140 (Uw [z0, z1, z2, z3, z4, z5, z6, z7]).toArray (0, 0) _ rfl (k2.row _) Tryd.underlying140 rfl (size_v8 _ hz)) rfl ⟨by rw [HQ.out, HR.out]; rfl, ?_⟩
      exact below_setRow HK.out.2 (by omega) _
end Go.Proofs.YtoecohpcnojokaaDoor
