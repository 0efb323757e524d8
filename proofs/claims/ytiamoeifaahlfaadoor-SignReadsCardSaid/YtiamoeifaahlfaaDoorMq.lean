/-
  SEVERAL TEXTS IN ONE: SgOne, LawSg, LawSgF, LawSgR, LawSgM, Law6.
-/
import Derived.Test.YtiamoeifaahlfaaDoorMp
import Derived.Lib.SlBytesConst
import Derived.Test.YtiamoeifaahlfaaDoorMb
import Derived.Test.YtiamoeifaahlfaaDoorCards
import Derived.Test.YtiamoeifaahlfaaDoorTie
import Derived.LaidMore
import Derived.SevenTiedAt
import Derived.Stop.Joined
/-
  PLAIN NUMBERS: the signature of 'a' by the seed 1, reckoned.
-/
namespace Go.Proofs.YtiamoeifaahlfaaDoor
open Nums

theorem d_one : sgD oneB = [206, 12, 38, 94, 204, 130, 221, 140, 238, 110, 86, 206, 68, 228, 93, 175, 215, 160, 197, 117, 13, 249, 20, 178, 83, 161, 251, 122, 138, 246, 109, 219, 153, 118, 54, 7, 240, 168, 93, 11, 212, 54, 105, 25, 74, 58, 64, 87, 122, 82, 138, 243, 149, 244, 241, 126, 6, 241, 222, 252, 198, 222, 178, 165] := by
 unfold sgD
 rw [digest_eq 1 _ (by decide) (by decide) (by decide +kernel)]
 decide +kernel
theorem ab_one : sgAB oneB = [200, 12, 38, 94, 204, 130, 221, 140, 238, 110, 86, 206, 68, 228, 93, 175, 215, 160, 197, 117, 13, 249, 20, 178, 83, 161, 251, 122, 138, 246, 109, 91] := by
 rw [sgAB, d_one]
 decide +kernel
theorem a_one : le (sgAB oneB) = 41354757114163650016304086911142683682198188400503391378057401993857692208328 := by
 rw [ab_one]
 decide +kernel
theorem key_one : sgKey oneB = [206, 204, 21, 7, 220, 29, 221, 114, 149, 149, 28, 41, 8, 136, 240, 149, 173, 185, 4, 77, 27, 115, 214, 150, 230, 223, 6, 93, 104, 59, 212, 252] := by
 rw [sgKey, a_one];exact enc_mul _ 32737897441611558381963852900261925463262532777030881128296994126400953990578 _ (by decide) (by decide +kernel) (by decide +kernel)
theorem pre_one : sgPre oneB = [153, 118, 54, 7, 240, 168, 93, 11, 212, 54, 105, 25, 74, 58, 64, 87, 122, 82, 138, 243, 149, 244, 241, 126, 6, 241, 222, 252, 198, 222, 178, 165] := by
 rw [sgPre, d_one]
 decide +kernel
theorem r_one : sgR oneB [97] = 3074186201944897198078527609885529445307900368435549988070374619371579677415 := by
 rw [sgR, pre_one];rw [digest_eq 1 _ (by decide) (by decide) (by decide +kernel)]
 decide +kernel
theorem rb_one : sgRB oneB [97] = [222, 230, 150, 190, 162, 57, 102, 46, 103, 239, 222, 218, 202, 143, 82, 47, 127, 122, 238, 17, 43, 215, 179, 107, 123, 33, 250, 35, 237, 226, 2, 31] := by
 rw [sgRB, r_one];exact enc_mul _ 48853289196050390018626512990030386311778699772629295210228896671331256438033 _ (by decide) (by decide +kernel) (by decide +kernel)
theorem ka_one : sgK [222, 230, 150, 190, 162, 57, 102, 46, 103, 239, 222, 218, 202, 143, 82, 47, 127, 122, 238, 17, 43, 215, 179, 107, 123, 33, 250, 35, 237, 226, 2, 31] [206, 204, 21, 7, 220, 29, 221, 114, 149, 149, 28, 41, 8, 136, 240, 149, 173, 185, 4, 77, 27, 115, 214, 150, 230, 223, 6, 93, 104, 59, 212, 252] [97] = 6285308940129792820454355301134625136493137520830403794332846006747471739295 := by
 have e : [222, 230, 150, 190, 162, 57, 102, 46, 103, 239, 222, 218, 202, 143, 82, 47, 127, 122, 238, 17, 43, 215, 179, 107, 123, 33, 250, 35, 237, 226, 2, 31] ++ ([206, 204, 21, 7, 220, 29, 221, 114, 149, 149, 28, 41, 8, 136, 240, 149, 173, 185, 4, 77, 27, 115, 214, 150, 230, 223, 6, 93, 104, 59, 212, 252] ++ [97]) = ([222, 230, 150, 190, 162, 57, 102, 46, 103, 239, 222, 218, 202, 143, 82, 47, 127, 122, 238, 17, 43, 215, 179, 107, 123, 33, 250, 35, 237, 226, 2, 31, 206, 204, 21, 7, 220, 29, 221, 114, 149, 149, 28, 41, 8, 136, 240, 149, 173, 185, 4, 77, 27, 115, 214, 150, 230, 223, 6, 93, 104, 59, 212, 252, 97] : List UInt8) := by decide +kernel
 rw [sgK, e];clear e;rw [digest_eq 1 _ (by decide) (by decide) (by decide +kernel)]
 decide +kernel
theorem kb_one : sgK [222, 230, 150, 190, 162, 57, 102, 46, 103, 239, 222, 218, 202, 143, 82, 47, 127, 122, 238, 17, 43, 215, 179, 107, 123, 33, 250, 35, 237, 226, 2, 31] [206, 204, 21, 7, 220, 29, 221, 114, 149, 149, 28, 41, 8, 136, 240, 149, 173, 185, 4, 77, 27, 115, 214, 150, 230, 223, 6, 93, 104, 59, 212, 252] [98] = 262307218321006939220002667173930045618374775600874168278653889227109580481 := by
 have e : [222, 230, 150, 190, 162, 57, 102, 46, 103, 239, 222, 218, 202, 143, 82, 47, 127, 122, 238, 17, 43, 215, 179, 107, 123, 33, 250, 35, 237, 226, 2, 31] ++ ([206, 204, 21, 7, 220, 29, 221, 114, 149, 149, 28, 41, 8, 136, 240, 149, 173, 185, 4, 77, 27, 115, 214, 150, 230, 223, 6, 93, 104, 59, 212, 252] ++ [98]) = ([222, 230, 150, 190, 162, 57, 102, 46, 103, 239, 222, 218, 202, 143, 82, 47, 127, 122, 238, 17, 43, 215, 179, 107, 123, 33, 250, 35, 237, 226, 2, 31, 206, 204, 21, 7, 220, 29, 221, 114, 149, 149, 28, 41, 8, 136, 240, 149, 173, 185, 4, 77, 27, 115, 214, 150, 230, 223, 6, 93, 104, 59, 212, 252, 98] : List UInt8) := by decide +kernel
 rw [sgK, e];clear e;rw [digest_eq 1 _ (by decide) (by decide) (by decide +kernel)]
 decide +kernel
theorem not_b : ¬ Right (sgKey oneB) (sgSig oneB [97]) [98] := fun h => by
 have h1 := right_msg (right_own oneB [97]) h;rw [sgSig_take, key_one, rb_one, ka_one, kb_one] at h1;exact absurd h1 (by decide)
theorem not_bit {seed m : List UInt8} {y : UInt8} (h : y ≠ (sgSig seed m)[40]!) : ¬ Right (sgKey seed) ((sgSig seed m).set 40 y) m := fun hr => by
 have hl := sgSig_len seed m;have ho := right_own seed m
 have ht : ((sgSig seed m).set 40 y).take 32 = (sgSig seed m).take 32 := by rw [List.take_set, List.set_eq_of_length_le (by rw [List.length_take, hl]; decide)]
 have h1 := right_one ho hr ht.symm;have h2 := le_inj (by rw [List.length_drop, List.length_drop, List.length_set]) h1;have h3 := congrArg (fun l => l[8]!) h2;rw [getElem!_pos _ 8 (by rw [List.length_drop, hl]; decide), getElem!_pos _ 8 (by rw [List.length_drop, List.length_set, hl]; decide), List.getElem_drop, List.getElem_drop, List.getElem_set_self] at h3;exact h (by rw [getElem!_pos _ 40 (by omega)]; exact h3.symm)
end Go.Proofs.YtiamoeifaahlfaaDoor
/-
  STEPS OF THE SIGNATURES' LAWS: slices of bytes, new ones and parts; lengths; '==' of signatures.
-/
namespace Go.Proofs.YtiamoeifaahlfaaDoor
open Go.RowKit Go.IntWalk Nums

section
variable {ops : Array Oper} {C0 : World → Prop} {Q : Act → Prop} {N : Nat} {E : List (Nat × Value)} {o : Oper} {rest : List Oper} {k : Nat}
theorem f_xorB {x y : Operand} {t : TypeId} (m n r : Int) (hg : o.guard = none) (hd : o.dst = some k) (hk : Nat.blt k N = true) (ho : o.op = .binOp .xor 5 x y t) (hx : ev E x = some (.int .u8 m)) (hy : ev E y = some (.int .u8 n))
  (hr : bits .xor .u8 m n = r) (hn : bF Tryd.prog ops C0 Q rest N ((k, .int .u8 r) :: E)) : bF Tryd.prog ops C0 Q (o :: rest) N E :=
 f_val _ hg hd hk (fun a ha w _ => by
  have h1 := ha.eval hx;have h2 := ha.eval hy
  unfold execOp
  simp only [ho, h1, h2]
  go_simp) hn
theorem f_minI {x y : Operand} (p q : Nat) (hg : o.guard = none) (hd : o.dst = some k) (hk : Nat.blt k N = true) (ho : o.op = .call { callee := .builtin .min, args := #[x, y], argTypes := #[3, 3] }) (hx : ev E x = some (.int .i64 (p : Int))) (hy : ev E y = some (.int .i64 (q : Int)))
  (hn : bF Tryd.prog ops C0 Q rest N ((k, .int .i64 ((min p q : Nat) : Int)) :: E)) : bF Tryd.prog ops C0 Q (o :: rest) N E :=
 f_val _ hg hd hk (fun a ha w _ => by
  have h1 := ha.eval hx;have h2 := ha.eval hy
  unfold execOp
  simp only [ho];generalize a.eval = ρ at *
  go_simp
  split <;> omega) hn
theorem f_cutHi {x y : Operand} (A : Option Addr) (n c j : Nat) (hj : j ≤ c) (hA : A = none → c = 0) (hg : o.guard = none) (hd : o.dst = some k) (hk : Nat.blt k N = true) (ho : o.op = .slice 23 x none (some y) none) (hx : ev E x = some (.slice A n c)) (hy : ev E y = some (.int .i64 (j : Int)))
  (hn : bF Tryd.prog ops C0 Q rest N ((k, .slice A j c) :: E)) : bF Tryd.prog ops C0 Q (o :: rest) N E :=
 f_val _ hg hd hk (fun a ha w _ => by
  have h1 := ha.eval hx;have h2 := ha.eval hy
  have h3 : (j : Int) ≤ (c : Int) := by omega
  have h4 : (0 : Int) ≤ (j : Int) := by omega
  unfold execOp
  simp only [ho];generalize a.eval = ρ at *;simp only [Option.map, h1, h2]
  cases A with
  | none =>
   have := hA rfl;obtain rfl : c = 0 := this
   obtain rfl : j = 0 := by omega
   go_simp
  | some ad => go_simp) hn
end

/-! ### Regions whose order is forced -/
section
variable {P : Program} {ops : Array Oper} {Q : Exit → Act → World → Prop} {N : Nat} {E : List (Nat × Value)} {w : World} {o : Oper} {rest l : List Oper} {k : Nat}
theorem l_ops (m : Nat) (h : bF P ops (Up w) (fun a' => ∀ w', Up w w' → wpList P ops Q (l.drop m) a' w') (l.take m) N E) : lF P ops Q l N E w := fun a ha => by
 have h1 := wpList_of_B (Q := Q) (T := l.drop m) (l.take m) a w w (Up.refl w) (h a ha)
 rwa [List.take_append_drop] at h1
def WG (ops : Array Oper) (N : Nat) (E : List (Nat × Value)) (o : Oper) : Prop := o.guard = none ∨ ∃ j b t, o.guard = some (j, b) ∧ (ops[j]?).bind (·.dst) = some t ∧ Nat.blt t N = true ∧ look E t = some (.bool b)
theorem WG.wanted {a : Act} (h : WG ops N E o) (ha : Fr N E a) : Region.wanted o (yielded ops a.tmps) = true := by
 rcases h with h | ⟨j, b, t, hgd, hj, hN, ht⟩
 ·simp [Region.wanted, h]
 ·have htN : t < a.tmps.size := by rw [ha.size]; simpa using hN
  have h2 := ha.get t _ ht
  have h3 : a.tmps[t]? = some (.bool b) := by
   simp only [Act.eval, Array.getD_eq_getD_getElem?] at h2;rw [Array.getElem?_eq_getElem htN] at h2 ⊢
   simpa using h2
  unfold Region.wanted
  rw [hgd]
  simp [yielded, hj, h3]
theorem l_guard (hw : WG ops N E o) (h : lF P ops Q ({ o with guard := none } :: rest) N E w) : lF P ops Q (o :: rest) N E w := fun a ha => by
 have h1 := h a ha;obtain ⟨dst, op, ty, pos, af, gd⟩ := o
 unfold wpList at h1 ⊢
 rw [if_pos (hw.wanted ha)];rw [if_pos (by rfl)] at h1;exact h1
theorem l_valW (v : Value) (w' : World) (hw : WG ops N E o) (hd : o.dst = some k) (hk : Nat.blt k N = true) (h : ∀ a, Fr N E a → (execOp a.eval o).run P w = .ok (.value v) w') (hn : lF P ops Q rest N ((k, v) :: E) w') : lF P ops Q (o :: rest) N E w := fun a ha => by
 have h1 := h a ha;have h2 := hn _ (ha.put hk v)
 unfold wpList
 rw [if_pos (hw.wanted ha)];refine .inl ?_
 unfold Oper.wp
 rw [h1];simp only [Oper.upon, hd];exact h2
end
section
variable {ops : Array Oper} {Q : Exit → Act → World → Prop} {N : Nat} {E : List (Nat × Value)} {w : World} {o o2 : Oper} {rest : List Oper} {k k2 : Nat}
theorem l_lit1 {x : Operand} (y : UInt8) (hw : WG ops N E o) (hd : o.dst = some k) (hk : Nat.blt k N = true) (ho : o.op = .buildSlice 23 1 #[(0, x)]) (hx : ev E x = some (.int .u8 (y.toNat : Int)))
  (hw2 : ∀ v, WG ops N ((k, v) :: E) o2) (hd2 : o2.dst = some k2) (hk2 : Nat.blt k2 N = true) (ho2 : o2.op = .convert 23 23 (.tmp k))
  (hn : ∀ W g, Up w W → SB W (.slice (some ⟨g, 0, none⟩) 1 1) [y] → lF Tryd.prog ops Q rest N ((k2, .slice (some ⟨g, 0, none⟩) 1 1) :: (k, .slice (some ⟨g, 0, none⟩) 1 1) :: E) W) : lF Tryd.prog ops Q (o :: o2 :: rest) N E w := by
 refine l_valW (.slice (some ⟨w.heap.size, 0, none⟩) 1 1) (w.alloc (.cells (By [y]).toArray 5)) hw hd hk (fun a ha => ?_) ?_
 ·have h1 := ha.eval hx
  have hr := run_slice1B (y.toNat : Int) w
  unfold execOp
  simp only [ho, List.map_toArray, List.map_cons, List.map_nil, h1, Sem.run_bind, hr, Result.andThen_ok, Sem.run_pure]
  rfl
 ·refine l_valW (.slice (some ⟨w.heap.size, 0, none⟩) 1 1) (w.alloc (.cells (By [y]).toArray 5 (1, 2))) (hw2 _) hd2 hk2 (fun a ha => ?_) (hn _ w.heap.size ((Up.refl w).alloc _) ?_)
  ·have h1 : a.eval (.tmp k) = .slice (some ⟨w.heap.size, 0, none⟩) 1 1 := ha.get k _ (by rw [look_cons, if_pos rfl])
   have hr := Lib.run_convert_bytes_const (P := Tryd.prog) w 23 5 (By [y]).toArray 1 1 Tryd.underlying23 Tryd.underlying5
   unfold execOp
   simp only [ho2, h1, Sem.run_bind, hr, Result.andThen_ok, Sem.run_pure]
   rfl
  ·have hc : (w.alloc (.cells (By [y]).toArray 5 (1, 2))).heap[w.heap.size]? = some (.cells (By [y]).toArray 5 (1, 2)) := heap_alloc_new w _
   have hsz : (w.alloc (.cells (By [y]).toArray 5 (1, 2))).heap.size = w.heap.size + 1 := World.size_alloc _ _;refine ⟨some ⟨w.heap.size, 0, none⟩, 1, rfl, Nat.le_refl _, by decide, fun h => (by cases h), fun _ => ⟨_, rfl, Nat.zero_le _, by rw [hsz]; exact Nat.lt_succ_self _, fun j u hu => ?_⟩⟩
   cases j with
   | zero =>
    simp only [List.getElem?_cons_zero, Option.some.injEq] at hu;subst hu;rw [Addr.add_mid, cell_of_row _ _ _ _ _ _ hc]
    rfl
   | succ j => simp at hu
theorem l_slices {n : Nat} {parts : Array (Nat × Operand)} (vs : List Value) (ls : List (List UInt8)) (hw : WG ops N E o) (hd : o.dst = some k) (hk : Nat.blt k N = true) (ho : o.op = .buildSlice 48 n parts)
  (hv : parts.toList.map (fun p => (p.1, ev E p.2)) = (vs.zipIdx 0).map fun x => (x.2, some x.1)) (hn : vs.length = n) (h0 : 0 < n) (h24 : n ≤ 16777216) (hA : All2 w vs ls)
  (hk2 : ∀ W g, Up w W → PT W (some ⟨g, 0, none⟩) ls → lF Tryd.prog ops Q rest N ((k, .slice (some ⟨g, 0, none⟩) n n) :: E) W) : lF Tryd.prog ops Q (o :: rest) N E w := by
 have hal := (Below.refl w.heap.size w).alloc (Nat.le_refl _) (.cells vs.toArray 23);have hN : NewS w.heap.size vs ls w.heap.size (w.alloc (.cells vs.toArray 23)) := ⟨Nat.le_refl _, Blk.new w _ _, All2.later hal hA⟩;refine l_valW (.slice (some ⟨w.heap.size, 0, none⟩) n n) (w.alloc (.cells vs.toArray 23)) hw hd hk (fun a ha => ?_) (hk2 _ w.heap.size hal hN.pt)
 have hm : ∀ (l : List (Nat × Operand)) (m : List (Value × Nat)), l.map (fun p => (p.1, ev E p.2)) = m.map (fun x => (x.2, some x.1)) → l.map (fun (i, x) => (i, a.eval x)) = m.map fun x => (x.2, x.1) := by
  intro l
  induction l with
  | nil => intro m h; cases m with
   | nil => rfl
   | cons => cases h
  | cons p l ih => intro m h; cases m with
   | nil => cases h
   | cons u m =>
    simp only [List.map_cons, List.cons.injEq, Prod.mk.injEq] at h ⊢;exact ⟨⟨h.1.1, ha.eval h.1.2⟩, ih m h.2⟩
 have hr := run_slices vs n (parts.map fun (i, x) => (i, a.eval x)) (by rw [Array.toList_map]; exact hm _ _ hv) hn h0 h24 (fun v hv => (hA.one v hv).1) w
 unfold execOp
 simp only [ho, Sem.run_bind, hr, Result.andThen_ok, Sem.run_pure]
end
theorem xor1 (m : Nat) (h : m < 256) : bits .xor .u8 (m : Int) 1 = ((if m % 2 = 0 then m + 1 else m - 1 : Nat) : Int) := by
 have key : ∀ m : Nat, m < 256 → bits .xor .u8 (m : Int) 1 = ((if m % 2 = 0 then m + 1 else m - 1 : Nat) : Int) := by decide +kernel
 exact key m h
end Go.Proofs.YtiamoeifaahlfaaDoor
/-
  THE SIGNATURES' LAWS: first.
-/
namespace Go.Proofs.YtiamoeifaahlfaaDoor
open Go.RowKit Go.IntWalk Nums

theorem own_lfirst6 : Own 5 := fun _ _ => by go_simp
open Classical in
set_option maxRecDepth 100000 in
set_option maxHeartbeats 2000000 in
theorem lfirst6_f (w : World) (hT : Ta w) :
  Calls Tryd.prog 5 #[] w fun e w' => e = .returned (.bool true) ∧ Below w.heap.size w w' := by
 refine calls_F (vs := []) 40 Tryd.func5 rfl (by rw [Tryd.ntmps5]; rfl) ?_;have hU := Up.refl w;have hv1 : rightB (sgKey oneB) (sgSig oneB [97]) [97] = true := decide_eq_true (right_own _ _);have hv2 : rightB (sgKey oneB) (sgSig oneB [97]) [98] = false := decide_eq_false not_b;refine c_seq fun K hK => ?_;refine c_lit ?_;refine l_ops 1 ?_;refine f_assign (.bool false) rfl rfl rfl rfl rfl ?_;refine f_tail fun W1 hw1 => ?_;replace hU := hU.step hw1;clear hw1;refine l_nil ?_;refine hK _ _ ?_;clear hK K;refine c_seq fun K hK => ?_;refine c_lit ?_;refine l_ops 1 ?_;refine f_build [(0, .int .u8 1)] (By oneB).toArray rfl rfl rfl rfl rfl builtOne ?_;refine f_tail fun W2 hw2 => ?_;replace hU := hU.step hw2;clear hw2;refine l_ops 1 ?_;refine f_call #[.agg (By oneB).toArray] (.agg (By (sgKey oneB)).toArray) rfl rfl rfl own_public (fun w1 h1 => public_f (rfl : oneB.length = 32) w1 (hT.below (hU.step h1))) rfl rfl ?_;refine f_tail fun W3 hw3 => ?_;replace hU := hU.step hw3;clear hw3;refine l_allocA z32 rfl rfl rfl rfl (by kernel_rfl) fun W4 g4 hw4 hg4 b4 => ?_
 have q4 : w.heap.size ≤ g4 := by rw [hg4]; exact hU.size
 replace hU := hU.step hw4;clear hw4 hg4;refine l_set g4 _ ((By (sgKey oneB)).toArray) rfl rfl rfl rfl rfl b4 (size_H ((sgKey_len _))) (by rw [len_by ((sgKey_len _))]; rfl) (By_oneA _) ?_;replace b4 := b4.row ((By (sgKey oneB)).toArray);replace hU := up_row hU q4 ((By (sgKey oneB)).toArray);generalize World.setRow _ g4 ((By (sgKey oneB)).toArray) = W5 at *;refine l_nil ?_;refine hK _ _ ?_;clear hK K;refine c_seq fun K hK => ?_;refine c_lit ?_;refine l_ops 1 ?_;refine f_build [(0, .int .u8 1)] (By oneB).toArray rfl rfl rfl rfl rfl builtOne ?_;refine f_tail fun W6 hw6 => ?_;replace b4 := b4.later hw6;replace hU := hU.step hw6;clear hw6;refine l_lit1 97 (.inl rfl) rfl rfl rfl rfl (fun _ => (.inl rfl)) rfl rfl rfl fun W7 gl7 hw7 hb7 => ?_;replace b4 := b4.later hw7;replace hU := hU.step hw7;clear hw7;refine l_slices [.slice (some ⟨gl7, 0, none⟩) 1 1] [[97]] (.inl rfl) rfl rfl rfl rfl rfl (by decide) (by decide) ⟨hb7, trivial⟩ fun W8 gs8 hw8 hp8 => ?_;replace b4 := b4.later hw8;replace hb7 := hb7.later hw8;replace hU := hU.step hw8;clear hw8;refine l_ops 1 ?_
 refine f_call #[.agg (By oneB).toArray, .slice (some ⟨gs8, 0, none⟩) 1 1] (.agg (By (sgSig oneB [97])).toArray) rfl rfl rfl own_sign (fun w1 h1 => by
   have := sign_f (seed := oneB) (P := some ⟨gs8, 0, none⟩) (ls := [[97]]) (pc := 1) (rfl : oneB.length = 32) w1 (hT.below (hU.step h1)) (hp8.later h1) (fun e => by cases e) (by simp)
   rwa [show ([[97]] : List (List UInt8)).flatten = [97] from rfl] at this) rfl rfl ?_
 refine f_tail fun W9 hw9 => ?_;replace b4 := b4.later hw9;replace hb7 := hb7.later hw9;replace hp8 := hp8.later hw9;replace hU := hU.step hw9;clear hw9;refine l_allocA ((By z64).toArray) rfl rfl rfl rfl zero64 fun W10 g10 hw10 hg10 b10 => ?_
 have n4_10 : g4 ≠ g10 := by have := b4.lt; omega
 have q10 : w.heap.size ≤ g10 := by rw [hg10]; exact hU.size
 replace b4 := b4.later hw10;replace hb7 := hb7.later hw10;replace hp8 := hp8.later hw10;replace hU := hU.step hw10;clear hw10 hg10;refine l_set g10 _ ((By (sgSig oneB [97])).toArray) rfl rfl rfl rfl rfl b10 (size_64 ((sgSig_len _ _))) (by rw [List.size_toArray, List.size_toArray, By_len, By_len, ((sgSig_len _ _))]; rfl) (By_oneA _) ?_;replace b4 := b4.rowFar n4_10 ((By (sgSig oneB [97])).toArray);replace b10 := b10.row ((By (sgSig oneB [97])).toArray);replace hU := up_row hU q10 ((By (sgSig oneB [97])).toArray);generalize World.setRow _ g10 ((By (sgSig oneB [97])).toArray) = W11 at *;refine l_nil ?_;clear hb7;clear hp8;refine hK _ _ ?_;clear hK K;refine c_seq fun K hK => ?_;refine c_lit ?_;refine l_ops 1 ?_;refine f_b64 g10 ((sgSig_len _ _)) rfl rfl rfl rfl rfl (fun _ h1 => (h1.blk b10).range) ?_;refine f_tail fun W12 hw12 => ?_;replace b4 := b4.later hw12;replace b10 := b10.later hw12;replace hU := hU.step hw12;clear hw12;refine l_allocA ((By z64).toArray) rfl rfl rfl rfl zero64 fun W13 g13 hw13 hg13 b13 => ?_
 have n4_13 : g4 ≠ g13 := by have := b4.lt; omega
 have n10_13 : g10 ≠ g13 := by have := b10.lt; omega
 have q13 : w.heap.size ≤ g13 := by rw [hg13]; exact hU.size
 replace b4 := b4.later hw13;replace b10 := b10.later hw13;replace hU := hU.step hw13;clear hw13 hg13;refine l_set g13 _ ((By (sgSig oneB [97])).toArray) rfl rfl rfl rfl rfl b13 (size_64 ((sgSig_len _ _))) (by rw [List.size_toArray, List.size_toArray, By_len, By_len, ((sgSig_len _ _))]; rfl) (By_oneA _) ?_;replace b4 := b4.rowFar n4_13 ((By (sgSig oneB [97])).toArray);replace b10 := b10.rowFar n10_13 ((By (sgSig oneB [97])).toArray);replace b13 := b13.row ((By (sgSig oneB [97])).toArray);replace hU := up_row hU q13 ((By (sgSig oneB [97])).toArray);generalize World.setRow _ g13 ((By (sgSig oneB [97])).toArray) = W14 at *;refine l_nil ?_;refine hK _ _ ?_;clear hK K;obtain ⟨s, hs⟩ : ∃ s, s = sgSig oneB [97] := ⟨_, rfl⟩
 have hsl : s.length = 64 := by rw [hs]; exact sgSig_len _ _
 have x0 := (s[40]!).toNat_lt;rw [← hs] at b13;have c0 := (b13.cell 40).trans (By_get (l := s) (j := 40) (by omega));obtain ⟨r, hr⟩ : ∃ r, r = (if (s[40]!).toNat % 2 = 0 then (s[40]!).toNat + 1 else (s[40]!).toNat - 1) := ⟨_, rfl⟩
 have hr2 : r < 256 ∧ r ≠ (s[40]!).toNat := by rw [hr]; split <;> omega
 have hx := xor1 _ x0;rw [← hr] at hx
 have e0 : ((UInt8.ofNat r).toNat : Int) = (r : Int) := by rw [ofNat_toNat hr2.1]
 have hv3 : rightB (sgKey oneB) (s.set 40 (UInt8.ofNat r)) [97] = false := by
  rw [hs] at hr2 ⊢;exact decide_eq_false (not_bit fun h => hr2.2 (by rw [← h, ofNat_toNat hr2.1]))
 have hl2 : (s.set 40 (UInt8.ofNat r)).length = 64 := by rw [List.length_set, hsl]
 refine c_seq fun K hK => ?_;refine c_tF 4 ?_;refine f_ix _ 40 ⟨g13, 40, none⟩ rfl rfl rfl rfl rfl rfl (ix64 _ 40 (by decide)) ?_;refine f_load ⟨g13, 40, none⟩ (.int .u8 ((s[40]!).toNat : Int)) (by decide) rfl rfl rfl rfl rfl (fun _ h1 => (h1.cell b13.lt).trans c0) ?_;refine f_xorB _ 1 (r : Int) rfl rfl rfl rfl rfl rfl hx ?_;refine f_ix _ 40 ⟨g13, 40, none⟩ rfl rfl rfl rfl rfl rfl (ix64 _ 40 (by decide)) ?_;refine f_store ⟨g13, 40, none⟩ (r : Int) _ (.inr ⟨rfl, rfl⟩) rfl rfl rfl rfl rfl c0 (b13.free 40) b13.lt fun w15 hw15 => ?_;replace b4 := (b4.later hw15).far (p := ⟨g13, 40, none⟩) n4_13 (.int .u8 (r : Int));replace b10 := (b10.later hw15).far (p := ⟨g13, 40, none⟩) n10_13 (.int .u8 (r : Int));replace b13 := (b13.later hw15).set 40 (.int .u8 (r : Int));replace hU : Up w _ := (hU.step hw15).setCell (p := ⟨g13, 40, none⟩) q13 (.int .u8 (r : Int));rw [← e0, By_set] at b13;rw [← e0] at b4 b10 hU ⊢;generalize World.setCell _ ⟨g13, 40, none⟩ (.int .u8 ((UInt8.ofNat r).toNat : Int)) = W15 at *;generalize s.set 40 (UInt8.ofNat r) = t at *;refine k_sub (E' := [(1, .pointer (some ⟨g4, 0, none⟩)), (2, .pointer (some ⟨g10, 0, none⟩)), (3, .pointer (some ⟨g13, 0, none⟩))]) ⟨rfl, rfl, rfl, trivial⟩ ?_;refine hK _ _ ?_;clear hK K hw15 c0 hx e0 hr2 hr x0 hsl hs s r;refine c_seq fun K hK => ?_;refine c_lit ?_;refine l_ops 1 ?_;refine f_by g4 0 ((sgKey_len _)) rfl rfl rfl rfl rfl (fun _ h1 => (h1.blk b4).range) ?_;refine f_tail fun W16 hw16 => ?_;replace b4 := b4.later hw16;replace b10 := b10.later hw16;replace b13 := b13.later hw16;replace hU := hU.step hw16;clear hw16;refine l_ops 1 ?_;refine f_b64 g10 ((sgSig_len _ _)) rfl rfl rfl rfl rfl (fun _ h1 => (h1.blk b10).range) ?_;refine f_tail fun W17 hw17 => ?_;replace b4 := b4.later hw17;replace b10 := b10.later hw17;replace b13 := b13.later hw17;replace hU := hU.step hw17;clear hw17;refine l_lit1 97 (.inl rfl) rfl rfl rfl rfl (fun _ => (.inl rfl)) rfl rfl rfl fun W18 gl18 hw18 hb18 => ?_;replace b4 := b4.later hw18;replace b10 := b10.later hw18;replace b13 := b13.later hw18;replace hU := hU.step hw18;clear hw18;refine l_slices [.slice (some ⟨gl18, 0, none⟩) 1 1] [[97]] (.inl rfl) rfl rfl rfl rfl rfl (by decide) (by decide) ⟨hb18, trivial⟩ fun W19 gs19 hw19 hp19 => ?_;replace b4 := b4.later hw19;replace b10 := b10.later hw19;replace b13 := b13.later hw19;replace hb18 := hb18.later hw19;replace hU := hU.step hw19;clear hw19;refine l_ops 1 ?_
 refine f_call #[.agg (By (sgKey oneB)).toArray, .agg (By (sgSig oneB [97])).toArray, .slice (some ⟨gs19, 0, none⟩) 1 1] (.bool true) rfl rfl rfl own_verify (fun w1 h1 => by
   have := verify_f (key := sgKey oneB) (sig := sgSig oneB [97]) (P := some ⟨gs19, 0, none⟩) (ls := [[97]]) (pc := 1) (sgKey_len _) (sgSig_len _ _) w1 (hT.below (hU.step h1)) (hp19.later h1) (fun e => by cases e) (by simp)
   rwa [show ([[97]] : List (List UInt8)).flatten = [97] from rfl, hv1] at this) rfl rfl ?_
 refine f_tail fun W20 hw20 => ?_;replace b4 := b4.later hw20;replace b10 := b10.later hw20;replace b13 := b13.later hw20;replace hb18 := hb18.later hw20;replace hp19 := hp19.later hw20;replace hU := hU.step hw20;clear hw20;refine l_ops 1 ?_;refine f_move (.bool true) rfl rfl rfl rfl rfl ?_;refine f_tail fun W21 hw21 => ?_;replace b4 := b4.later hw21;replace b10 := b10.later hw21;replace b13 := b13.later hw21;replace hb18 := hb18.later hw21;replace hp19 := hp19.later hw21;replace hU := hU.step hw21;clear hw21;refine l_guard (.inr ⟨6, true, 22, rfl, rfl, rfl, rfl⟩) ?_;refine l_ops 1 ?_;refine f_by g4 0 ((sgKey_len _)) rfl rfl rfl rfl rfl (fun _ h1 => (h1.blk b4).range) ?_;refine f_tail fun W22 hw22 => ?_;replace b4 := b4.later hw22;replace b10 := b10.later hw22;replace b13 := b13.later hw22;replace hb18 := hb18.later hw22;replace hp19 := hp19.later hw22;replace hU := hU.step hw22;clear hw22;refine l_guard (.inr ⟨6, true, 22, rfl, rfl, rfl, rfl⟩) ?_;refine l_ops 1 ?_;refine f_b64 g10 ((sgSig_len _ _)) rfl rfl rfl rfl rfl (fun _ h1 => (h1.blk b10).range) ?_;refine f_tail fun W23 hw23 => ?_;replace b4 := b4.later hw23;replace b13 := b13.later hw23;replace hb18 := hb18.later hw23;replace hp19 := hp19.later hw23;replace hU := hU.step hw23;clear hw23;refine l_lit1 98 (.inr ⟨6, true, 22, rfl, rfl, rfl, rfl⟩) rfl rfl rfl rfl (fun _ => (.inr ⟨6, true, 22, rfl, rfl, rfl, rfl⟩)) rfl rfl rfl fun W24 gl24 hw24 hb24 => ?_;replace b4 := b4.later hw24;replace b13 := b13.later hw24;replace hb18 := hb18.later hw24;replace hp19 := hp19.later hw24;replace hU := hU.step hw24;clear hw24;refine l_slices [.slice (some ⟨gl24, 0, none⟩) 1 1] [[98]] (.inr ⟨6, true, 22, rfl, rfl, rfl, rfl⟩) rfl rfl rfl rfl rfl (by decide) (by decide) ⟨hb24, trivial⟩ fun W25 gs25 hw25 hp25 => ?_;replace b4 := b4.later hw25;replace b13 := b13.later hw25;replace hb18 := hb18.later hw25;replace hp19 := hp19.later hw25;replace hb24 := hb24.later hw25;replace hU := hU.step hw25;clear hw25;refine l_guard (.inr ⟨6, true, 22, rfl, rfl, rfl, rfl⟩) ?_;refine l_ops 1 ?_
 refine f_call #[.agg (By (sgKey oneB)).toArray, .agg (By (sgSig oneB [97])).toArray, .slice (some ⟨gs25, 0, none⟩) 1 1] (.bool false) rfl rfl rfl own_verify (fun w1 h1 => by
   have := verify_f (key := sgKey oneB) (sig := sgSig oneB [97]) (P := some ⟨gs25, 0, none⟩) (ls := [[98]]) (pc := 1) (sgKey_len _) (sgSig_len _ _) w1 (hT.below (hU.step h1)) (hp25.later h1) (fun e => by cases e) (by simp)
   rwa [show ([[98]] : List (List UInt8)).flatten = [98] from rfl, hv2] at this) rfl rfl ?_
 refine f_tail fun W26 hw26 => ?_;replace b4 := b4.later hw26;replace b13 := b13.later hw26;replace hb18 := hb18.later hw26;replace hp19 := hp19.later hw26;replace hb24 := hb24.later hw26;replace hp25 := hp25.later hw26;replace hU := hU.step hw26;clear hw26;refine l_guard (.inr ⟨6, true, 22, rfl, rfl, rfl, rfl⟩) ?_;refine l_ops 1 ?_;refine f_not false true rfl rfl rfl rfl rfl rfl ?_;refine f_tail fun W27 hw27 => ?_;replace b4 := b4.later hw27;replace b13 := b13.later hw27;replace hb18 := hb18.later hw27;replace hp19 := hp19.later hw27;replace hb24 := hb24.later hw27;replace hp25 := hp25.later hw27;replace hU := hU.step hw27;clear hw27;refine l_ops 1 ?_;refine f_pick (.bool true) rfl rfl rfl rfl rfl rfl ?_;refine f_tail fun W28 hw28 => ?_;replace b4 := b4.later hw28;replace b13 := b13.later hw28;replace hb18 := hb18.later hw28;replace hp19 := hp19.later hw28;replace hb24 := hb24.later hw28;replace hp25 := hp25.later hw28;replace hU := hU.step hw28;clear hw28;refine l_ops 1 ?_;refine f_move (.bool true) rfl rfl rfl rfl rfl ?_;refine f_tail fun W29 hw29 => ?_;replace b4 := b4.later hw29;replace b13 := b13.later hw29;replace hb18 := hb18.later hw29;replace hp19 := hp19.later hw29;replace hb24 := hb24.later hw29;replace hp25 := hp25.later hw29;replace hU := hU.step hw29;clear hw29;refine l_guard (.inr ⟨15, true, 31, rfl, rfl, rfl, rfl⟩) ?_;refine l_ops 1 ?_;refine f_by g4 0 ((sgKey_len _)) rfl rfl rfl rfl rfl (fun _ h1 => (h1.blk b4).range) ?_;refine f_tail fun W30 hw30 => ?_;replace b13 := b13.later hw30;replace hb18 := hb18.later hw30;replace hp19 := hp19.later hw30;replace hb24 := hb24.later hw30;replace hp25 := hp25.later hw30;replace hU := hU.step hw30;clear hw30;refine l_guard (.inr ⟨15, true, 31, rfl, rfl, rfl, rfl⟩) ?_;refine l_ops 1 ?_;refine f_b64 g13 hl2 rfl rfl rfl rfl rfl (fun _ h1 => (h1.blk b13).range) ?_;refine f_tail fun W31 hw31 => ?_;replace hb18 := hb18.later hw31;replace hp19 := hp19.later hw31;replace hb24 := hb24.later hw31;replace hp25 := hp25.later hw31;replace hU := hU.step hw31;clear hw31;refine l_lit1 97 (.inr ⟨15, true, 31, rfl, rfl, rfl, rfl⟩) rfl rfl rfl rfl (fun _ => (.inr ⟨15, true, 31, rfl, rfl, rfl, rfl⟩)) rfl rfl rfl fun W32 gl32 hw32 hb32 => ?_;replace hb18 := hb18.later hw32;replace hp19 := hp19.later hw32;replace hb24 := hb24.later hw32;replace hp25 := hp25.later hw32;replace hU := hU.step hw32;clear hw32;refine l_slices [.slice (some ⟨gl32, 0, none⟩) 1 1] [[97]] (.inr ⟨15, true, 31, rfl, rfl, rfl, rfl⟩) rfl rfl rfl rfl rfl (by decide) (by decide) ⟨hb32, trivial⟩ fun W33 gs33 hw33 hp33 => ?_;replace hb18 := hb18.later hw33;replace hp19 := hp19.later hw33;replace hb24 := hb24.later hw33;replace hp25 := hp25.later hw33;replace hb32 := hb32.later hw33;replace hU := hU.step hw33;clear hw33;refine l_guard (.inr ⟨15, true, 31, rfl, rfl, rfl, rfl⟩) ?_;refine l_ops 1 ?_
 refine f_call #[.agg (By (sgKey oneB)).toArray, .agg (By t).toArray, .slice (some ⟨gs33, 0, none⟩) 1 1] (.bool false) rfl rfl rfl own_verify (fun w1 h1 => by
   have := verify_f (key := sgKey oneB) (sig := t) (P := some ⟨gs33, 0, none⟩) (ls := [[97]]) (pc := 1) (sgKey_len _) hl2 w1 (hT.below (hU.step h1)) (hp33.later h1) (fun e => by cases e) (by simp)
   rwa [show ([[97]] : List (List UInt8)).flatten = [97] from rfl, hv3] at this) rfl rfl ?_
 refine f_tail fun W34 hw34 => ?_;replace hb18 := hb18.later hw34;replace hp19 := hp19.later hw34;replace hb24 := hb24.later hw34;replace hp25 := hp25.later hw34;replace hb32 := hb32.later hw34;replace hp33 := hp33.later hw34;replace hU := hU.step hw34;clear hw34;refine l_guard (.inr ⟨15, true, 31, rfl, rfl, rfl, rfl⟩) ?_;refine l_ops 1 ?_;refine f_not false true rfl rfl rfl rfl rfl rfl ?_;refine f_tail fun W35 hw35 => ?_;replace hb18 := hb18.later hw35;replace hp19 := hp19.later hw35;replace hb24 := hb24.later hw35;replace hp25 := hp25.later hw35;replace hb32 := hb32.later hw35;replace hp33 := hp33.later hw35;replace hU := hU.step hw35;clear hw35;refine l_ops 1 ?_;refine f_pick (.bool true) rfl rfl rfl rfl rfl rfl ?_;refine f_tail fun W36 hw36 => ?_;replace hb18 := hb18.later hw36;replace hp19 := hp19.later hw36;replace hb24 := hb24.later hw36;replace hp25 := hp25.later hw36;replace hb32 := hb32.later hw36;replace hp33 := hp33.later hw36;replace hU := hU.step hw36;clear hw36;refine l_ops 1 ?_;refine f_assign (.bool true) rfl rfl rfl rfl rfl ?_;refine f_tail fun W37 hw37 => ?_;replace hb18 := hb18.later hw37;replace hp19 := hp19.later hw37;replace hb24 := hb24.later hw37;replace hp25 := hp25.later hw37;replace hb32 := hb32.later hw37;replace hp33 := hp33.later hw37;replace hU := hU.step hw37;clear hw37;refine l_nil ?_;clear hb18;clear hp19;clear hb24;clear hp25;clear hb32;clear hp33;refine hK _ _ ?_;clear hK K;exact c_ret (fun a ha => bodyPost_ret (results_tmp rfl _ _ _) ha.defers ⟨congrArg Ending.returned (ha.get 0 _ rfl), hU⟩)
end Go.Proofs.YtiamoeifaahlfaaDoor
/-
  THE SIGNATURES' LAWS: the walk of SignReads.
-/
namespace Go.Proofs.YtiamoeifaahlfaaDoor
open Go.RowKit Go.IntWalk Nums

theorem sb_all {w : World} {A : Option Addr} {l : List UInt8} {c : Nat} (h : SL w 0 w.heap.size A l c) : SB w (.slice A l.length c) l := ⟨A, c, rfl, h⟩
set_option maxRecDepth 100000 in
set_option maxHeartbeats 2000000 in
theorem signReads_walk {key sig m : List UInt8} {A : Option Addr} {c : Nat} (hk : key.length = 32) (hs : sig.length = 64) (w : World) (hT : Ta w) (hS : SL w 0 w.heap.size A m c) :
  Calls Tryd.prog 4 #[.agg (By key).toArray, .agg (By sig).toArray, .slice A m.length c] w fun e w' => e = .returned (.bool true) ∧ Below w.heap.size w w' := by
 refine calls_F (vs := [.agg (By key).toArray, .agg (By sig).toArray, .slice A m.length c]) 26 Tryd.func4 rfl (by rw [Tryd.ntmps4]; rfl) ?_;have hU := Up.refl w;have hA0 : A = none → c = 0 := hS.2.2.1;have hmc := hS.1;refine c_seq fun K hK => ?_;refine c_lit ?_;refine l_boxA ((By key).toArray) rfl rfl rfl rfl rfl fun W1 g1 hw1 hg1 b1 => ?_;replace hU := hU.step hw1;clear hw1 hg1;refine l_boxA ((By sig).toArray) rfl rfl rfl rfl rfl fun W2 g2 hw2 hg2 b2 => ?_;replace b1 := b1.later hw2;replace hU := hU.step hw2;clear hw2 hg2;refine l_assign (.bool false) rfl rfl rfl rfl rfl ?_;refine l_nil ?_;refine hK _ _ ?_;clear hK K;refine c_seq fun K0 hK0 => ?_;refine c_seq fun K hK => ?_;refine c_gF 2 ?_;refine g_op rfl ?_;refine f_call #[] (.bool true) rfl rfl rfl own_lfirst6 (fun w1 h1 => lfirst6_f w1 (hT.below (hU.step h1.1))) rfl rfl ?_;refine g_go ?_;refine g_op rfl ?_;refine f_not true false rfl rfl rfl rfl rfl rfl ?_;refine g_go ?_;refine g_end fun W3 hw3 hF3 => ?_;clear hF3;replace b1 := b1.later hw3;replace b2 := b2.later hw3;replace hU := hU.step hw3;clear hw3;refine l_nil ?_;refine hK _ _ ?_;clear hK K;refine c_cond false rfl ?_;rw [if_neg (by decide)];refine c_skip ?_;refine hK0 _ _ ?_;clear hK0 K0;refine c_seq fun K hK => ?_;refine c_gF 6 ?_;refine g_op rfl ?_;refine f_move (.slice A m.length c) rfl rfl rfl rfl rfl ?_;refine g_go ?_;refine g_op rfl ?_;refine f_move (.slice A m.length c) rfl rfl rfl rfl rfl ?_;refine g_go ?_;refine g_op rfl ?_;refine f_len A (m.length) c (.inr rfl) rfl rfl rfl rfl rfl ?_;refine g_go ?_;refine g_op rfl ?_;refine f_minI (m.length) 2000 rfl rfl rfl rfl rfl rfl ?_;refine g_go ?_;refine g_op rfl ?_;refine f_cutHi A (m.length) c (min m.length 2000) (by omega) hA0 rfl rfl rfl rfl rfl rfl ?_;refine g_go ?_;refine g_op rfl ?_;refine f_assign (.slice A (min m.length 2000) c) rfl rfl rfl rfl rfl ?_;refine g_go ?_;refine g_end fun W4 hw4 hF4 => ?_;clear hF4;replace b1 := b1.later hw4;replace b2 := b2.later hw4;replace hU := hU.step hw4;clear hw4;refine l_nil ?_;refine k_sub (E' := [(3, .pointer (some ⟨g1, 0, none⟩)), (4, .pointer (some ⟨g2, 0, none⟩)), (7, .slice A (min m.length 2000) c)]) ⟨rfl, rfl, rfl, trivial⟩ ?_;refine hK _ _ ?_;clear hK K;obtain ⟨b, hb⟩ : ∃ b, b = m.take (min m.length 2000) := ⟨_, rfl⟩
 have hbl : min m.length 2000 = b.length := by rw [hb, List.length_take]; omega
 have hb0 : SL w 0 w.heap.size A b c := by rw [hb]; exact hS.take _
 have hb1 : b.length ≤ 2000 := by omega
 have hbc := hb0.1;rw [hbl];clear hb hbl;refine c_seq fun K hK => ?_;refine c_g 12 (by decide) (by kernel_rfl) (by kernel_rfl) ?_;refine g_op rfl ?_;refine f_by g1 0 hk rfl rfl rfl rfl rfl (fun _ h1 => (h1.1.blk b1).range) ?_;refine g_go ?_;refine g_op rfl ?_;refine f_b64 g2 hs rfl rfl rfl rfl rfl (fun _ h1 => (h1.1.blk b2).range) ?_;refine g_go ?_;refine g_op rfl ?_;refine f_move (.slice A b.length c) rfl rfl rfl rfl rfl ?_;refine g_go ?_;refine g_slices [.slice A b.length c] [b] (W4).heap.size rfl rfl rfl rfl rfl rfl rfl (by decide) (by decide) (fun _ h => h.size) (fun _ h hu => ⟨(sb_all hb0).later (hU.step h), trivial⟩) fun gs5 _ _ _ => ?_;refine g_op rfl ?_
 refine f_call #[.agg (By key).toArray, .agg (By sig).toArray, .slice (some ⟨gs5, 0, none⟩) 1 1] (.bool ((rightB key sig b))) rfl rfl rfl own_verify (fun w1 h1 => by
   have := verify_f (key := key) (sig := sig) (P := some ⟨gs5, 0, none⟩) (ls := [b]) (pc := 1) hk hs w1 (hT.below (hU.step h1.1)) (h1.2 3 _ rfl (by kernel_rfl) : NewS _ _ _ _ _).pt (fun e => by cases e) (by simp only [List.length_cons, List.length_nil]; omega)
   rwa [show [b].flatten = b from by simp] at this) rfl rfl ?_
 refine g_go ?_;refine g_op rfl ?_;refine f_cur #[] rfl rfl rfl own_rnew (fun w1 h1 => rnew_f w1) rfl rfl fun r20 v20 => ?_;refine g_go ?_;refine g_op rfl ?_;refine f_by g1 0 hk rfl rfl rfl rfl rfl (fun _ h1 => (h1.1.blk b1).range) ?_;refine g_go ?_;refine g_op rfl ?_;refine f_b64 g2 hs rfl rfl rfl rfl rfl (fun _ h1 => (h1.1.blk b2).range) ?_;refine g_go ?_;refine g_op rfl ?_;refine f_move (.slice A b.length c) rfl rfl rfl rfl rfl ?_;refine g_go ?_;refine g_op rfl ?_;refine f_call #[.agg (Is r20).toArray, .agg (By key).toArray, .agg (By sig).toArray, .slice A b.length c] (.bool (rightB key sig b)) rfl rfl rfl own_rright6 (fun w1 h1 => rright6_f v20 hk hs (by omega) w1 ((sb_all hb0).later (hU.step h1.1))) rfl rfl ?_;refine g_go ?_;refine g_op rfl ?_;refine f_eqb (rightB key sig b) (rightB key sig b) true rfl rfl rfl rfl rfl rfl (beq_self_eq_true _) ?_;refine g_go ?_;refine g_op rfl ?_;refine f_assign (.bool true) rfl rfl rfl rfl rfl ?_;refine g_go ?_;refine g_end fun W6 hw6 hF6 => ?_;clear hF6;replace hU := hU.step hw6;clear hw6;refine l_nil ?_;refine hK _ _ ?_;clear hK K;exact c_ret (fun a ha => bodyPost_ret (results_tmp rfl _ _ _) ha.defers ⟨congrArg Ending.returned (ha.get 6 _ rfl), hU⟩)
end Go.Proofs.YtiamoeifaahlfaaDoor
/-
  THE SIGNATURES' LAWS: the walk of SignMakes.
-/
namespace Go.Proofs.YtiamoeifaahlfaaDoor
open Go.RowKit Go.IntWalk Nums

end Go.Proofs.YtiamoeifaahlfaaDoor
/-
  FROM A WALK TO A LAW'S ROW: the three tables' cells, from what the row lists.
-/
namespace Go.Proofs.YtiamoeifaahlfaaDoor
open Go.ChangeShapes Go.WideShapes Go.ChangeAt Go.RowKit Nums

def laid3 : List (String × DataW Unit) := [("witan/field.twice", Rows.laid_witan_field_twice), ("witan/sha.starts", Rows.laid_witan_sha_starts), ("witan/sha.steps", Rows.laid_witan_sha_steps)]
theorem cells64 : Tryd.prog.cellsOf 41 = 1 := by kernel_rfl
theorem door_met (os : Os) (args : Array Value) : laidMetH Tryd.prog laid3 ((World.doorLaid Tryd.prog 400 os).forCall (fun _ _ => 0) ⟨#[], args, []⟩).memory :=
 laidMetH_of_parts3 (fuel := 8) (laidMet_of_run' 8 (by kernel_rfl) (by kernel_rfl)) (by kernel_rfl) (by kernel_rfl)
set_option maxRecDepth 20000 in
theorem table_cells {W : World} {nm : String} {g g0 t0 tid n fuel : Nat} {l : List Nat} {datum : DataW Unit} {cs : List Value} {p : List MemPlace} (hg : Tryd.prog.globalNamed nm = some g) (ht : (Tryd.prog.globals[g]?).map (·.type) = some tid) (hu : Tryd.prog.underlying tid = some (.array n 41))
  (hd : datum = .agg (l.map fun (x : Nat) => .lit (.int .u64 (x : Int)))) (hg0 : Tryd.prog.globalNamed nm = some g0) (ht0 : (Tryd.prog.globals[g0]?).map (·.type) = some t0) (hv0 : W.var? Tryd.prog nm = some cs.toArray) (hd0 : DataW.trod (fun _ => ()) Tryd.prog W 0 (fun _ => true) false fuel t0 cs = some (datum, p)) :
  ∀ i, i < n → W.cell? ⟨g, i, none⟩ = some (.int .u64 (l[i]! : Nat)) := by
 obtain rfl := Option.some.inj (hg.symm.trans hg0);obtain rfl := Option.some.inj (ht.symm.trans ht0);obtain ⟨xs, m1, rfl, hx1, hlen, hn5, hel⟩ := DataW.trod_array hu hd0;have hx2 := congrArg Prod.fst hx1;rw [hd] at hx2
 injection hx2 with hx2
 intro i hi
 have h0 := hel i hi;rw [cells64] at h0;obtain ⟨x, hxi⟩ : ∃ x, xs[i]? = some x := ⟨xs[i]'(by omega), List.getElem?_eq_getElem (by omega)⟩;rw [hxi] at h0;obtain ⟨n', e1, e2, _⟩ := DataW.trod_int Tryd.underlying41 h0
 have hll : l.length = n := by
  have := congrArg List.length hx2;simp only [List.length_map] at this
  omega
 have h3 : (l.map fun (x : Nat) => (DataW.lit (.int .u64 (x : Int)) : DataW Unit))[i]? = (xs.map (·.1))[i]? := by rw [hx2]
 rw [List.getElem?_map, List.getElem?_map, hxi, List.getElem?_eq_getElem (by omega)] at h3;simp only [Option.map_some, Option.some.injEq] at h3;rw [e2] at h3
 have hn : n' = ((l[i]! : Nat) : Int) := by
  rw [getElem!_pos l i (by omega)]
  injection h3 with h3
  injection h3 with _ h3
  exact h3.symm
 subst hn;have hcell := World.var?_cell hg hv0 i;rw [hcell];have := one_of e1
 simpa using this
set_option maxRecDepth 20000 in
theorem of_laid {W : World} (h : laidMetH Tryd.prog laid3 W) : Ta W := by
 rw [MakeChecks.laidMetH_plain _ _ _ (by kernel_rfl)] at h;obtain ⟨ps, ⟨g0, t0, cs0, f0, p0, q0, hg0, ht0, hv0, hd0, ⟨g1, t1, cs1, f1, p1, q1, hg1, ht1, hv1, hd1, ⟨g2, t2, cs2, f2, p2, q2, hg2, ht2, hv2, hd2, _, _⟩, _⟩, _⟩, _, _⟩ := h;have c0 := table_cells (l := twl) (n := 5) (g := 1) (tid := 60) (by kernel_rfl) (by kernel_rfl) Tryd.underlying60 (by kernel_rfl) hg0 ht0 hv0 hd0;have c1 := table_cells (l := sqs) (n := 8) (g := 0) (tid := 115) (by kernel_rfl) (by kernel_rfl) Tryd.underlying115 (by kernel_rfl) hg1 ht1 hv1 hd1;have c2 := table_cells (l := cbs) (n := 80) (g := 2) (tid := 142) (by kernel_rfl) (by kernel_rfl) Tryd.underlying142 (by kernel_rfl) hg2 ht2 hv2 hd2;exact ⟨⟨c0, World.block_lt_of_cell? W ⟨1, 0, none⟩ (c0 0 (by omega))⟩, ⟨⟨c2, World.block_lt_of_cell? W ⟨2, 0, none⟩ (c2 0 (by omega))⟩, c1, World.block_lt_of_cell? W ⟨0, 0, none⟩ (c1 0 (by omega))⟩⟩
end Go.Proofs.YtiamoeifaahlfaaDoor
