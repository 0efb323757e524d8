/-
  SEVERAL TEXTS IN ONE: DigO, DigF, Digest, RLong, Ref32, DigS32, DigR32, DigW32, DigM32.
-/
import Derived.Test.YtlaikmpnijlcbaaDoorMi
import Derived.Test.YtlaikmpnijlcbaaDoorMj
import Derived.Laws.OwnMore
import Derived.Test.YtlaikmpnijlcbaaDoorMd
/-
  THE DOCUMENT'S OWN DIGESTS: Digest with words of 64 bits: the first words, and the words as bytes.
-/
namespace Go.Proofs.YtlaikmpnijlcbaaDoor
open Go.RowKit Go.IntWalk Nums

def z8 : List Nat := List.replicate 8 0
theorem z8_len : z8.length = 8 := rfl
def first512 : Oct := ⟨s512.start[0]!, s512.start[1]!, s512.start[2]!, s512.start[3]!, s512.start[4]!, s512.start[5]!, s512.start[6]!, s512.start[7]!⟩
theorem first512_ok : OB 64 first512 := by
  constructor <;> decide
theorem first512_list : mxl (fun i => sqs[i]!) z8 8 = first512.list := by
  show mxl _ [0, 0, 0, 0, 0, 0, 0, 0] 8 = _
  rw [mxl8]
  rfl
theorem BS.setH {W0 w : World} {gm gn gh : Nat} {m : List UInt8} {h : List Nat} (d : BS W0 w gm gn gh m h) (k v : Nat) : BS W0 (w.setCell ⟨gh, k, none⟩ (.int .u64 (v : Int))) gm gn gh m (h.set k v) :=
  ⟨d.mm.far d.ne.1 _, d.nn.far d.ne.2 _, by rw [← Us_put]; exact d.hh.set k _, d.be.setCell d.le _, d.ne, d.le⟩

section
variable {W0 : World} {gm gn gh : Nat} {m : List UInt8} {Q : Exit → Act → World → Prop}
def FH (lm cm gm gn gh i : Nat) : List (Nat × Value) :=
  [(83, .int .i64 (i : Int)), (82, .int .i64 8), (12, .slice (some ⟨gh, 0, none⟩) 8 8), (1, .int .u64 64), (5, .slice (some ⟨gn, 0, none⟩) 12 12), (6, .int .i64 80), (7, .int .i64 8), (8, .slice (some ⟨gm, 0, none⟩) lm cm)]
set_option maxRecDepth 100000 in
set_option maxHeartbeats 4000000 in
theorem firsts64 {w : World} (lm cm : Nat) (h0 : BS W0 w gm gn gh m z8)
    (hend : ∀ w', BS W0 w' gm gn gh m first512.list → kF (Q .normal) 359 (FH lm cm gm gn gh 8) w') :
    cF Tryd.prog (.loop (dl 2)) (Exit.inBlock 4 Q) 359 (FH lm cm gm gn gh 0) w := by
  refine c_loop (m := fun i : Nat => 8 - i) (F := FH lm cm gm gn gh) (R := fun i w => i ≤ 8 ∧ BS W0 w gm gn gh m (mxl (fun i => sqs[i]!) z8 i)) ?_ 0 ⟨by omega, by rw [mxl_zero]; exact h0⟩
  rintro i w ⟨hi, hS⟩
  conv => arg 2; whnf
  refine c_seq fun K1 hK1 => ?_
  refine c_qF ?_
  by_cases hil : i < 8
  · refine f_lssI (i : Int) 8 true rfl rfl rfl rfl rfl rfl (decide_eq_true (by omega)) ?_
    refine f_end fun w1 hw1 => hK1 _ _ ?_
    refine c_seq fun K2 hK2 => ?_
    refine c_cond true rfl ?_
    refine c_skip ?_
    refine hK2 _ _ ?_
    refine c_seq fun K3 hK3 => ?_
    refine c_block ?_
    refine c_seq fun K4 hK4 => ?_
    refine c_qF ?_
    refine f_move (.int .i64 (i : Int)) rfl rfl rfl rfl rfl ?_
    refine f_assign (.int .i64 (i : Int)) rfl rfl rfl rfl rfl ?_
    refine f_end fun w2 hw2 => hK4 _ _ ?_
    have hS := (hS.up hw1).up hw2
    have hlm : (mxl (fun i => sqs[i]!) z8 i).length = 8 := by rw [mxl_len, z8_len]
    have ch := hS.hh.word (j := i) (by omega)
    have cf := hS.hh.free i (by rw [Us_len]; omega)
    have hset := mxl_set (fun i => sqs[i]!) z8 (k := i)
    have RS := fun w1 => rsquare_f i hil w1
    generalize (mxl (fun i => sqs[i]!) z8 i)[i]! = old at *
    refine c_tF 8 ?_
    simp only [List.take_succ_cons, List.take_zero]
    refine f_move (.slice (some ⟨gh, 0, none⟩) 8 8) rfl rfl rfl rfl rfl ?_
    refine f_move (.int .i64 (i : Int)) rfl rfl rfl rfl rfl ?_
    refine f_move (.int .i64 (i : Int)) rfl rfl rfl rfl rfl ?_
    refine f_call #[.int .i64 (i : Int)] (.int .u64 (sqs[i]! : Nat)) rfl rfl rfl own_rsquare (fun w _ => RS w) rfl rfl ?_
    refine f_move (.int .u64 64) rfl rfl rfl rfl rfl ?_
    refine f_subV 64 64 0 rfl rfl rfl rfl rfl rfl (by decide) ?_
    refine f_shrU (sqs[i]! : Nat) 0 (sqs[i]! : Nat) (by omega) rfl rfl rfl rfl rfl rfl (by simp) ?_
    refine f_idx0 gh 8 8 i hil (by decide) rfl rfl rfl rfl rfl rfl ?_
    refine f_store ⟨gh, i, none⟩ ((sqs[i]! : Nat) : Int) _ (.inl ⟨rfl, rfl⟩) rfl rfl rfl rfl rfl ch cf hS.hh.lt fun w3 hw3 => ?_
    refine hK3 _ _ ?_
    refine c_qF ?_
    refine f_addI (i : Int) 1 ((i + 1 : Nat) : Int) rfl rfl rfl rfl rfl rfl (by rw [i64_left, wrap64_in _ (by omega)]; omega) ?_
    refine f_move (.int .i64 ((i + 1 : Nat) : Int)) rfl rfl rfl rfl rfl ?_
    refine f_end fun w4 hw4 => k_round (i + 1) ⟨rfl, rfl, rfl, rfl, rfl, rfl, rfl, rfl, trivial⟩ ⟨by omega, ?_⟩ (by omega)
    rw [← hset]
    exact ((hS.up hw3).setH i (sqs[i]!)).up hw4
  · refine f_lssI (i : Int) 8 false rfl rfl rfl rfl rfl rfl (decide_eq_false (by omega)) ?_
    refine f_end fun w1 hw1 => hK1 _ _ ?_
    refine c_seq fun K2 hK2 => ?_
    refine c_cond false rfl ?_
    refine c_exit ?_
    refine k_exit (id := 4) (Q := Q) ?_
    obtain rfl : i = 8 := by omega
    have hS := hS.up hw1
    rw [first512_list] at hS
    exact k_sub (E' := FH lm cm gm gn gh 8) ⟨rfl, rfl, rfl, rfl, rfl, rfl, rfl, rfl, trivial⟩ (hend _ hS)
end

/-! ### The words as bytes -/
def rw8 (y : Nat) : List UInt8 := (Nums.bytes 8 y).reverse
theorem rw8_len (y : Nat) : (rw8 y).length = 8 := by
  unfold rw8
  rw [List.length_reverse, bytes_len]
theorem rw8_get (y i : Nat) (h : i < 8) : ((rw8 y)[i]!).toNat = y / 256 ^ (7 - i) % 256 := by
  rw [← bytes_get 8 y (m := 7 - i) (by omega), getElem!_pos (rw8 y) i (by rw [rw8_len]; exact h), getElem!_pos (Nums.bytes 8 y) (7 - i) (by rw [bytes_len]; omega)]
  unfold rw8
  rw [List.getElem_reverse]
  simp only [bytes_len]
theorem take_more {R : List UInt8} {n : Nat} (h : n < R.length) : R.take n ++ [R[n]!] = R.take (n + 1) := by
  rw [getElem!_pos R n h, List.take_add_one, List.getElem?_eq_getElem h]
  rfl

section
variable {wO : World} {gh : Nat} {Q : Exit → Act → World → Prop}
def FO (gh : Nat) (A : Option Addr) (n c i : Nat) : List (Nat × Value) :=
  [(338, .int .i64 (i : Int)), (337, .int .i64 8), (336, .slice (some ⟨gh, 0, none⟩) 8 8), (26, .slice A n c), (7, .int .i64 8)]
def FI (gh : Nat) (A : Option Addr) (n c i y : Nat) (k : Int) : List (Nat × Value) := (29, .int .i64 k) :: (28, .int .u64 (y : Int)) :: FO gh A n c i
set_option maxRecDepth 100000 in
set_option maxHeartbeats 4000000 in
theorem word64 {w : World} (i y : Nat) (A : Option Addr) (c : Nat) (xs : List UInt8) (hxs : xs.length ≤ 64) (hU : Up wO w) (hG : GS w wO.heap.size 5 A c (By xs))
    (hend : ∀ w' A' c', Up wO w' → GS w' wO.heap.size 5 A' c' (By (xs ++ rw8 y)) → kF (Q .normal) 359 (FI gh A' (By (xs ++ rw8 y)).length c' i y (-1)) w') :
    cF Tryd.prog (.loop (dl 10)) (Exit.inBlock 20 Q) 359 (FI gh A (By xs).length c i y 7) w := by
  have hstart : cF Tryd.prog (.loop (dl 10)) (Exit.inBlock 20 Q) 359 ((fun s : Nat × Option Addr × Nat => FI gh s.2.1 (By (xs ++ (rw8 y).take (8 - s.1))).length s.2.2 i y ((s.1 : Int) - 1)) (8, A, c)) w := by
    refine c_loop (m := fun s : Nat × Option Addr × Nat => s.1) (F := fun s : Nat × Option Addr × Nat => FI gh s.2.1 (By (xs ++ (rw8 y).take (8 - s.1))).length s.2.2 i y ((s.1 : Int) - 1)) (R := fun s w => s.1 ≤ 8 ∧ Up wO w ∧ GS w wO.heap.size 5 s.2.1 s.2.2 (By (xs ++ (rw8 y).take (8 - s.1)))) ?_ (8, A, c) ⟨Nat.le_refl _, hU, by rw [show 8 - (8, A, c).1 = 0 from rfl, List.take_zero, List.append_nil]; exact hG⟩
    rintro ⟨k, A, c⟩ w ⟨hk, hU, hG⟩
    dsimp only at hk hU hG ⊢
    conv => arg 2; whnf
    cases k with
    | zero =>
      rw [show 8 - 0 = 8 from rfl, List.take_of_length_le (by rw [rw8_len]; exact Nat.le_refl _), show (((0 : Nat) : Int) - 1) = -1 from rfl]
      rw [show 8 - 0 = 8 from rfl, List.take_of_length_le (by rw [rw8_len]; exact Nat.le_refl _)] at hG
      refine c_seq fun K1 hK1 => ?_
      refine c_seq fun K2 hK2 => ?_
      refine c_qF ?_
      refine f_move (.int .i64 (-1)) rfl rfl rfl rfl rfl ?_
      refine f_geqI (-1) 0 false rfl rfl rfl rfl rfl rfl (by decide) ?_
      refine f_end fun w1 hw1 => hK2 _ _ ?_
      refine c_cond false rfl ?_
      refine c_exit ?_
      refine k_exit (id := 20) (Q := Q) ?_
      exact k_sub (E' := FI gh A (By (xs ++ rw8 y)).length c i y (-1)) ⟨rfl, rfl, rfl, rfl, rfl, rfl, rfl, trivial⟩ (hend w1 A c (below_up hU hw1) (hG.up hw1))
    | succ k =>
      rw [show (((k + 1 : Nat) : Int) - 1) = (k : Int) by omega]
      have hb := rw8_get y (7 - k) (by omega)
      rw [show 7 - (7 - k) = k by omega] at hb
      have hp : y / 256 ^ k = y / 2 ^ (8 * k) := by rw [Nat.pow_mul]
      have hnx : By (xs ++ (rw8 y).take (8 - (k + 1))) ++ [.int .u8 (((rw8 y)[7 - k]!).toNat : Int)] = By (xs ++ (rw8 y).take (8 - k)) := by
        have h1 := take_more (R := rw8 y) (n := 7 - k) (by rw [rw8_len]; omega)
        rw [show 8 - k = 7 - k + 1 by omega, ← h1, show 8 - (k + 1) = 7 - k by omega, ← List.append_assoc, By_app (xs ++ (rw8 y).take (7 - k))]
        rfl
      have hzl : (By (xs ++ (rw8 y).take (8 - (k + 1)))).length ≤ 72 := by
        rw [By_len, List.length_append, List.length_take, rw8_len]
        omega
      rw [hp] at hb
      generalize hzs : xs ++ (rw8 y).take (8 - (k + 1)) = zs at *
      generalize hzs2 : xs ++ (rw8 y).take (8 - k) = zs2 at *
      generalize hbt : (rw8 y)[7 - k]! = bt at *
      refine c_seq fun K1 hK1 => ?_
      refine c_seq fun K2 hK2 => ?_
      refine c_qF ?_
      refine f_move (.int .i64 (k : Int)) rfl rfl rfl rfl rfl ?_
      refine f_geqI (k : Int) 0 true rfl rfl rfl rfl rfl rfl (decide_eq_true (by omega)) ?_
      refine f_end fun w1 hw1 => hK2 _ _ ?_
      refine c_cond true rfl ?_
      refine c_skip ?_
      refine hK1 _ _ ?_
      have hG := hG.up hw1
      have hU1 : Up wO w1 := below_up hU hw1
      refine c_seq fun K3 hK3 => ?_
      refine c_block ?_
      refine c_tF 7 ?_
      simp only [List.take_succ_cons, List.take_zero]
      refine f_move (.slice A (By zs).length c) rfl rfl rfl rfl rfl ?_
      refine f_move (.int .u64 (y : Int)) rfl rfl rfl rfl rfl ?_
      refine f_move (.int .i64 (k : Int)) rfl rfl rfl rfl rfl ?_
      refine f_mulI 8 (k : Int) ((8 * k : Nat) : Int) rfl rfl rfl rfl rfl rfl (by rw [i64_left, wrap64_in _ (by omega)]; omega) ?_
      refine f_uintI ((8 * k : Nat) : Int) ((8 * k : Nat) : Int) rfl rfl rfl rfl rfl (by rw [IntKind.wrap_u64]; omega) ?_
      refine f_shrU (y : Int) (8 * k) ((y / 2 ^ (8 * k) : Nat) : Int) (by omega) rfl rfl rfl rfl rfl rfl (by simp) ?_
      generalize y / 2 ^ (8 * k) = v at *
      refine f_byteU (v : Int) ((bt.toNat : Nat) : Int) rfl rfl rfl rfl rfl (by rw [IntKind.wrap_u8', hb]; omega) ?_
      refine f_tail fun w2 hw2 => ?_
      simp only [List.drop_succ_cons, List.drop_zero]
      have hG := hG.up hw2
      have hU2 : Up wO w2 := below_up hU1 hw2
      refine l_slice1B (bt.toNat : Int) rfl rfl rfl rfl rfl ?_
      have hU3 : Up w2 (w2.alloc (.cells #[.int .u8 (bt.toNat : Int)] 5)) := (Up.refl w2).alloc _
      have hV := VL.new w2 [.int .u8 (bt.toNat : Int)] 5
      have hG2 := hG.up hU3
      have hz := Nat.le_trans hU2.size hU3.size
      have hU4 : Up wO (w2.alloc (.cells #[.int .u8 (bt.toNat : Int)] 5)) := below_up hU2 hU3
      refine l_app (bytes := 1) (z := .int .u8 0) (news := [.int .u8 (bt.toNat : Int)]) (base := wO.heap.size) (e := 5) (xs := By zs) (A := A) (c := c) (ad := ⟨w2.heap.size, 0, none⟩) (m := 1) (d := 1) rfl rfl rfl rfl rfl rfl Tryd.underlying45 info_byte rfl hG2 rfl (fun j u hu => by rw [Addr.add_mid, Nat.zero_add]; exact hV.cell j u hu) (fun u hu => by rw [List.mem_singleton.1 hu]; rfl) (by omega) (by unfold maxLen; omega) hz ?_
      intro A' c' w3 hG3 hgr hat
      have hU5 : Up wO w3 := hG2.grew hU4 hgr hz
      rw [hnx] at hG3 ⊢
      refine l_assign (.slice A' (By zs2).length c') rfl rfl rfl rfl rfl ?_
      refine l_nil ?_
      refine hK3 _ _ ?_
      refine c_qF ?_
      refine f_move (.int .i64 (k : Int)) rfl rfl rfl rfl rfl ?_
      refine f_subI (k : Int) 1 ((k : Int) - 1) rfl rfl rfl rfl rfl rfl (by rw [i64_left, wrap64_in _ (by omega)]) ?_
      refine f_assign (.int .i64 ((k : Int) - 1)) rfl rfl rfl rfl rfl ?_
      refine f_end fun w5 hw5 => ?_
      subst hzs2
      exact k_round (F := fun s : Nat × Option Addr × Nat => FI gh s.2.1 (By (xs ++ (rw8 y).take (8 - s.1))).length s.2.2 i y ((s.1 : Int) - 1)) (m := fun s : Nat × Option Addr × Nat => s.1) (R := fun s w => s.1 ≤ 8 ∧ Up wO w ∧ GS w wO.heap.size 5 s.2.1 s.2.2 (By (xs ++ (rw8 y).take (8 - s.1)))) (s := (k + 1, A, c)) (k, A', c') ⟨rfl, rfl, rfl, rfl, rfl, rfl, rfl, trivial⟩ ⟨Nat.le_of_succ_le hk, below_up hU5 hw5, hG3.up hw5⟩ (Nat.lt_succ_self k)
  have e1 : (fun s : Nat × Option Addr × Nat => FI gh s.2.1 (By (xs ++ (rw8 y).take (8 - s.1))).length s.2.2 i y ((s.1 : Int) - 1)) (8, A, c) = FI gh A (By xs).length c i y 7 := by
    dsimp only
    rw [show 8 - 8 = 0 from rfl, List.take_zero, List.append_nil]
    rfl
  rw [e1] at hstart
  exact hstart
end
end Go.Proofs.YtlaikmpnijlcbaaDoor
/-
  THE DOCUMENT'S OWN DIGESTS: Digest with words of 64 bits, whole.
-/
namespace Go.Proofs.YtlaikmpnijlcbaaDoor
open Go.RowKit Go.IntWalk Nums

section
variable {ops : Array Oper} {C0 : World → Prop} {Q : Act → Prop} {N : Nat} {E : List (Nat × Value)} {o : Oper} {rest : List Oper} {k : Nat}
theorem f_eqlV {x y : Operand} {t : TypeId} (m n : Int) (q : Bool) (hg : o.guard = none) (hd : o.dst = some k) (hk : Nat.blt k N = true) (ho : o.op = .binOp .eql 41 x y t) (hx : ev E x = some (.int .u64 m)) (hy : ev E y = some (.int .u64 n))
    (hr : decide (m = n) = q) (hn : bF Tryd.prog ops C0 Q rest N ((k, .bool q) :: E)) : bF Tryd.prog ops C0 Q (o :: rest) N E :=
  f_val _ hg hd hk (fun a ha w _ => by
    have h1 := ha.eval hx
    have h2 := ha.eval hy
    subst hr
    unfold execOp
    simp only [ho, h1, h2]
    by_cases e : m = n <;> go_simp) hn
theorem f_quoV {x y : Operand} {t : TypeId} (m n r : Int) (hz : n ≠ 0) (hg : o.guard = none) (hd : o.dst = some k) (hk : Nat.blt k N = true) (ho : o.op = .binOp .quo 41 x y t) (hx : ev E x = some (.int .u64 m)) (hy : ev E y = some (.int .u64 n))
    (hr : IntKind.u64.wrap (m.tdiv n) = r) (hn : bF Tryd.prog ops C0 Q rest N ((k, .int .u64 r) :: E)) : bF Tryd.prog ops C0 Q (o :: rest) N E :=
  f_val _ hg hd hk (fun a ha w _ => by
    have h1 := ha.eval hx
    have h2 := ha.eval hy
    subst hr
    unfold execOp
    simp only [ho, h1, h2]
    go_simp) hn
theorem f_intV {x : Operand} (m r : Int) (hg : o.guard = none) (hd : o.dst = some k) (hk : Nat.blt k N = true) (ho : o.op = .convert 41 3 x) (hx : ev E x = some (.int .u64 m))
    (hr : IntKind.i64.wrap m = r) (hn : bF Tryd.prog ops C0 Q rest N ((k, .int .i64 r) :: E)) : bF Tryd.prog ops C0 Q (o :: rest) N E :=
  f_val _ hg hd hk (fun a ha w _ => by
    have h1 := ha.eval hx
    unfold execOp
    simp only [ho, h1]
    go_simp) hn
end
theorem run_slice12 (a b c d e f g h i j k l : Int) (w : World) :
    (Instr.buildSlice 95 12 #[(0, .int .u64 a), (1, .int .u64 b), (2, .int .u64 c), (3, .int .u64 d), (4, .int .u64 e), (5, .int .u64 f), (6, .int .u64 g), (7, .int .u64 h), (8, .int .u64 i), (9, .int .u64 j), (10, .int .u64 k), (11, .int .u64 l)]).run Tryd.prog w =
      .ok (.slice (some ⟨w.heap.size, 0, none⟩) 12 12) (w.alloc (.cells #[.int .u64 a, .int .u64 b, .int .u64 c, .int .u64 d, .int .u64 e, .int .u64 f, .int .u64 g, .int .u64 h, .int .u64 i, .int .u64 j, .int .u64 k, .int .u64 l] 41)) := by
  go_simp
section
variable {ops : Array Oper} {Q : Exit → Act → World → Prop} {N : Nat} {E : List (Nat × Value)} {w : World} {o : Oper} {rest : List Oper} {k : Nat}
theorem l_slice12 (a b c d e f g h i j k' l : Int) (hg : o.guard = none) (hd : o.dst = some k) (hk : Nat.blt k N = true)
    (ho : o.op = .buildSlice 95 12 #[(0, .const (.int .u64 a)), (1, .const (.int .u64 b)), (2, .const (.int .u64 c)), (3, .const (.int .u64 d)), (4, .const (.int .u64 e)), (5, .const (.int .u64 f)), (6, .const (.int .u64 g)), (7, .const (.int .u64 h)), (8, .const (.int .u64 i)), (9, .const (.int .u64 j)), (10, .const (.int .u64 k')), (11, .const (.int .u64 l))])
    (hn : lF Tryd.prog ops Q rest N ((k, .slice (some ⟨w.heap.size, 0, none⟩) 12 12) :: E) (w.alloc (.cells #[.int .u64 a, .int .u64 b, .int .u64 c, .int .u64 d, .int .u64 e, .int .u64 f, .int .u64 g, .int .u64 h, .int .u64 i, .int .u64 j, .int .u64 k', .int .u64 l] 41))) : lF Tryd.prog ops Q (o :: rest) N E w :=
  l_val _ hg hd hk (fun ac _ => by
    have hr := run_slice12 a b c d e f g h i j k' l w
    unfold execOp
    simp only [ho, List.map_toArray, List.map_cons, List.map_nil, Act.eval, Sem.run_bind, hr, Result.andThen_ok, Sem.run_pure]) hn
end

/-- The slice value '.slice A l.length d' reads the bytes l. -/
def RB (w : World) (A : Option Addr) (d : Nat) (l : List UInt8) : Prop := (A = none ∧ l = [] ∧ d = 0) ∨ ∃ ad, A = some ad ∧ ∀ j v, (By l)[j]? = some v → w.cell? (ad.add j) = some v
theorem RB.up {w w' : World} {A : Option Addr} {d : Nat} {l : List UInt8} (h : RB w A d l) (hu : Up w w') : RB w' A d l := by
  rcases h with h | ⟨ad, h1, h2⟩
  · exact .inl h
  · exact .inr ⟨ad, h1, fun j v hj => (hu.cell (World.block_lt_of_cell? w _ (h2 j v hj))).trans (h2 j v hj)⟩
section
variable {ops : Array Oper} {Q : Exit → Act → World → Prop} {N : Nat} {E : List (Nat × Value)} {w : World} {o : Oper} {rest : List Oper} {k : Nat}
/-- **append(s, b...)** of bytes, s the call's own, b any. -/
theorem l_appR {s x : Operand} {base c d : Nat} {A X : Option Addr} {xs l : List UInt8} (hg : o.guard = none) (hd : o.dst = some k) (hk : Nat.blt k N = true) (ho : o.op = .call { callee := .builtin .append, args := #[s, x], argTypes := #[45, 45] })
    (hs : ev E s = some (.slice A (By xs).length c)) (hx : ev E x = some (.slice X l.length d)) (hown : GS w base 5 A c (By xs)) (hR : RB w X d l) (hbytes : xs.length + l.length ≤ 140737488355328) (hbase : base ≤ w.heap.size)
    (hn : ∀ A' c' w', GS w' base 5 A' c' (By (xs ++ l)) → w.grownBy w' (A.map (·.block)) → lF Tryd.prog ops Q rest N ((k, .slice A' (By (xs ++ l)).length c') :: E) w') :
    lF Tryd.prog ops Q (o :: rest) N E w := by
  rcases hR with ⟨rfl, rfl, rfl⟩ | ⟨ad, rfl, h2⟩
  · obtain ⟨i, hi0, hz, hs0, hb⟩ := info_parts info_byte
    have hr := run_append_owned_none (P := Tryd.prog) w base 45 o.type 5 i 1 Tryd.underlying45 hi0 _ (By xs).length (By xs) hown
    have h1 := hn A c w (by rw [List.append_nil]; exact hown) (World.grownBy.refl _ _)
    rw [List.append_nil] at h1
    refine l_val _ hg hd hk (fun a ha => ?_) h1
    have h2 := ha.eval hs
    have h3 := ha.eval hx
    unfold execOp
    simp only [ho, resolve, invoke, builtin, Sem.run_bind, Sem.run_pure, Result.andThen_ok, List.map_toArray, List.map_cons, List.map_nil, h2, h3, List.length_nil, hr]
  · refine l_app (bytes := 1) (z := .int .u8 0) (news := By l) (base := base) (e := 5) (xs := By xs) (A := A) (c := c) (ad := ad) (m := l.length) (d := d) hg hd hk ho hs hx Tryd.underlying45 info_byte rfl hown (By_len l) h2 (By_one _) (by rw [By_len]; omega) (by rw [By_len]; unfold maxLen; omega) hbase ?_
    intro A' c' w' h3 h4 _
    rw [← By_app] at h3 ⊢
    exact hn A' c' w' h3 h4
end
end Go.Proofs.YtlaikmpnijlcbaaDoor
/-
  THE DOCUMENT'S OWN DIGESTS: Digest with words of 64 bits is SHA-512.
-/
namespace Go.Proofs.YtlaikmpnijlcbaaDoor
open Go.RowKit Go.IntWalk Nums

/-! ### The words as bytes -/
def outw (h : List Nat) (i : Nat) : List UInt8 := ((h.take i).map rw8).flatten
theorem outw_next {h : List Nat} {i : Nat} (hi : i < h.length) : outw h (i + 1) = outw h i ++ rw8 h[i]! := by
  unfold outw
  rw [List.take_add_one, List.getElem?_eq_getElem hi, getElem!_pos h i hi, List.map_append, List.flatten_append]
  simp only [Option.toList_some, List.map_cons, List.map_nil, List.flatten_cons, List.flatten_nil, List.append_nil]
theorem outw_len {h : List Nat} : ∀ {i : Nat}, i ≤ h.length → (outw h i).length = 8 * i
  | 0, _ => by simp [outw]
  | i + 1, hi => by
    rw [outw_next (by omega), List.length_append, rw8_len, outw_len (by omega)]
    omega
section
variable {wO : World} {gh : Nat} {Q : Exit → Act → World → Prop}
set_option maxRecDepth 100000 in
set_option maxHeartbeats 4000000 in
theorem outs64 {w : World} (h : List Nat) (hh : h.length = 8) (hV : VL wO gh (Us h)) (hU : Up wO w)
    (hend : ∀ w' A' c', Up wO w' → GS w' wO.heap.size 5 A' c' (By (outw h 8)) → kF (Q .normal) 359 (FO gh A' (By (outw h 8)).length c' 8) w') :
    cF Tryd.prog (.loop (dl 9)) (Exit.inBlock 18 Q) 359 (FO gh none 0 0 0) w := by
  have hstart : cF Tryd.prog (.loop (dl 9)) (Exit.inBlock 18 Q) 359 ((fun s : Nat × Option Addr × Nat => FO gh s.2.1 (By (outw h s.1)).length s.2.2 s.1) (0, none, 0)) w := by
    refine c_loop (m := fun s : Nat × Option Addr × Nat => 8 - s.1) (F := fun s : Nat × Option Addr × Nat => FO gh s.2.1 (By (outw h s.1)).length s.2.2 s.1) (R := fun s w => s.1 ≤ 8 ∧ Up wO w ∧ GS w wO.heap.size 5 s.2.1 s.2.2 (By (outw h s.1))) ?_ (0, none, 0) ⟨by omega, hU, GS.nil _ _ _⟩
    rintro ⟨i, A, c⟩ w ⟨hi, hU, hG⟩
    dsimp only at hi hU hG ⊢
    conv => arg 2; whnf
    refine c_seq fun K1 hK1 => ?_
    refine c_qF ?_
    by_cases hil : i < 8
    · refine f_lssI (i : Int) 8 true rfl rfl rfl rfl rfl rfl (decide_eq_true (by omega)) ?_
      refine f_end fun w1 hw1 => hK1 _ _ ?_
      refine c_seq fun K2 hK2 => ?_
      refine c_cond true rfl ?_
      refine c_skip ?_
      refine hK2 _ _ ?_
      refine c_seq fun K3 hK3 => ?_
      refine c_block ?_
      refine c_seq fun K4 hK4 => ?_
      refine c_qF ?_
      have hU1 : Up wO w1 := below_up hU hw1
      have hG := hG.up hw1
      have cy := (hV.up hU1).word (j := i) (by omega)
      have hx := outw_next (h := h) (i := i) (by omega)
      have hl := outw_len (h := h) (i := i) (by omega)
      generalize h[i]! = y at *
      refine f_idx0 gh 8 8 i hil (by decide) rfl rfl rfl rfl rfl rfl ?_
      refine f_load ⟨gh, i, none⟩ (.int .u64 (y : Int)) (by decide) rfl rfl rfl rfl rfl (fun _ k => (k.cell (Nat.lt_of_lt_of_le hV.lt hU1.size)).trans cy) ?_
      refine f_assign (.int .u64 (y : Int)) rfl rfl rfl rfl rfl ?_
      refine f_end fun w2 hw2 => hK4 _ _ ?_
      refine c_seq fun K5 hK5 => ?_
      refine c_qF ?_
      refine f_move (.int .i64 8) rfl rfl rfl rfl rfl ?_
      refine f_subI 8 1 7 rfl rfl rfl rfl rfl rfl (by decide) ?_
      refine f_assign (.int .i64 7) rfl rfl rfl rfl rfl ?_
      refine f_end fun w3 hw3 => ?_
      refine k_sub (E' := FI gh A (By (outw h i)).length c i y 7) ⟨rfl, rfl, rfl, rfl, rfl, rfl, rfl, trivial⟩ ?_
      refine hK5 _ _ ?_
      refine c_block ?_
      refine word64 i y A c (outw h i) (by omega) (below_up (below_up hU1 hw2) hw3) ((hG.up hw2).up hw3) fun w4 A' c' hU4 hG4 => ?_
      rw [← hx] at hG4 ⊢
      refine hK3 _ _ ?_
      refine c_qF ?_
      refine f_addI (i : Int) 1 ((i + 1 : Nat) : Int) rfl rfl rfl rfl rfl rfl (by rw [i64_left, wrap64_in _ (by omega)]; omega) ?_
      refine f_move (.int .i64 ((i + 1 : Nat) : Int)) rfl rfl rfl rfl rfl ?_
      refine f_end fun w5 hw5 => ?_
      exact k_round (F := fun s : Nat × Option Addr × Nat => FO gh s.2.1 (By (outw h s.1)).length s.2.2 s.1) (m := fun s : Nat × Option Addr × Nat => 8 - s.1) (R := fun s w => s.1 ≤ 8 ∧ Up wO w ∧ GS w wO.heap.size 5 s.2.1 s.2.2 (By (outw h s.1))) (s := (i, A, c)) (i + 1, A', c') ⟨rfl, rfl, rfl, rfl, rfl, trivial⟩ ⟨Nat.succ_le_of_lt hil, below_up hU4 hw5, hG4.up hw5⟩ (Nat.sub_lt_sub_left hil (Nat.lt_succ_self i))
    · refine f_lssI (i : Int) 8 false rfl rfl rfl rfl rfl rfl (decide_eq_false (by omega)) ?_
      refine f_end fun w1 hw1 => hK1 _ _ ?_
      refine c_seq fun K2 hK2 => ?_
      refine c_cond false rfl ?_
      refine c_exit ?_
      refine k_exit (id := 18) (Q := Q) ?_
      obtain rfl : i = 8 := by omega
      exact k_sub (E' := FO gh A (By (outw h 8)).length c 8) ⟨rfl, rfl, rfl, rfl, rfl, trivial⟩ (hend w1 A c (below_up hU hw1) (hG.up hw1))
  exact hstart
end

/-! ### The message's end -/
theorem bytes_add : ∀ (a b v : Nat), Nums.bytes (a + b) v = Nums.bytes a v ++ Nums.bytes b (v / 256 ^ a)
  | 0, b, v => by
    rw [Nat.zero_add, Nat.pow_zero, Nat.div_one]
    rfl
  | a + 1, b, v => by
    rw [show a + 1 + b = a + b + 1 by omega]
    show UInt8.ofNat v :: Nums.bytes (a + b) (v / 256) = UInt8.ofNat v :: (Nums.bytes a (v / 256) ++ Nums.bytes b (v / 256 ^ (a + 1)))
    rw [bytes_add a b, Nat.div_div_eq_div_mul, Nat.pow_succ, Nat.mul_comm 256]
theorem lr_eq {y : Nat} (hy : y < 18446744073709551616) : lr y = List.replicate 8 0 ++ be64 y := by
  unfold lr be64
  rw [bytes_add 8 8, Nat.div_eq_of_lt (show y < 256 ^ 8 from hy), List.reverse_append]
  rfl
theorem pad_tail (l : List UInt8) (Z : Nat) (hl : l.length ≤ 70368744177664) (hZ : Z < 128) (h : (l.length + 17 + Z) % 128 = 0) : pad l Z ++ lr (8 * l.length) = l ++ tailw 128 (l.length % 128) (8 * l.length) := by
  rw [lr_eq (by omega)]
  unfold pad tailw
  have e : (if l.length % 128 + 1 ≤ 128 - 128 / 8 then 128 else 2 * 128) - 9 - l.length % 128 = Z + 8 := by
    split <;> omega
  rw [e, ← List.replicate_append_replicate, List.append_assoc, List.cons_append, List.append_assoc]
theorem outw_digest (m : List UInt8) : outw (sumw s512 m).list 8 = digest s512 m := by
  unfold outw digest
  rw [List.take_of_length_le (Nat.le_refl 8)]
  rfl
theorem sumw_eq (m : List UInt8) : sumw s512 m = runw s512 128 first512 (m ++ tailw 128 (m.length % 128) (8 * m.length)) := rfl

/-- Bytes of some capacity, the call's own. -/
def MadeB (w : World) (l : List UInt8) (e : Ending) (w' : World) : Prop :=
  ∃ A c, e = .returned (.slice A (By l).length c) ∧ GS w' w.heap.size 5 A c (By l) ∧ Below w.heap.size w w'
theorem GS.less {w : World} {base base' e c : Nat} {A : Option Addr} {xs : List Value} (h : GS w base e A c xs) (hb : base' ≤ base) : GS w base' e A c xs := by
  refine ⟨h.1, ?_⟩
  rcases h.2 with h1 | ⟨g, cap, cur, hv, hg, hr⟩
  · exact .inl h1
  · exact .inr ⟨g, cap, cur, hv, Nat.le_trans hb hg, hr⟩

set_option maxRecDepth 100000 in
set_option maxHeartbeats 8000000 in
theorem digest64_f (A0 : Option Addr) (c0 : Nat) (l : List UInt8) (hl : l.length ≤ 70368744177664) (w : World) (hR : RB w A0 c0 l) :
    Calls Tryd.prog 40 #[.slice A0 l.length c0, .int .u64 64] w (MadeB w (digest s512 l)) := by
  refine calls_of_wp Tryd.func40 rfl ?_
  refine (?_ : cF Tryd.prog _ _ 359 [(0, .slice A0 l.length c0), (1, .int .u64 64)] w) _ (Fr.start (by rw [Tryd.ntmps40]; rfl) _ ?_)
  rotate_left
  · intro k v hk
    rw [look_cons] at hk
    split at hk
    · rename_i e
      subst e
      cases hk
      rfl
    · rw [look_cons] at hk
      split at hk
      · rename_i e
        subst e
        cases hk
        rfl
      · cases hk
  refine c_seq fun K0 hK0 => ?_
  refine c_qF ?_
  refine f_assign (.slice none 0 0) rfl rfl rfl rfl rfl ?_
  refine f_end fun w0 hw0 => hK0 _ _ ?_
  refine c_seq fun K1 hK1 => ?_
  refine c_lit ?_
  refine l_slice12 2 13 22 6 11 25 7 18 3 17 19 10 rfl rfl rfl rfl ?_
  have hU1 := hw0.alloc (.cells #[.int .u64 2, .int .u64 13, .int .u64 22, .int .u64 6, .int .u64 11, .int .u64 25, .int .u64 7, .int .u64 18, .int .u64 3, .int .u64 17, .int .u64 19, .int .u64 10] 41)
  generalize w0.alloc (.cells #[.int .u64 2, .int .u64 13, .int .u64 22, .int .u64 6, .int .u64 11, .int .u64 25, .int .u64 7, .int .u64 18, .int .u64 3, .int .u64 17, .int .u64 19, .int .u64 10] 41) = w1 at *
  refine l_assign (.slice (some ⟨w0.heap.size, 0, none⟩) 12 12) rfl rfl rfl rfl rfl ?_
  refine l_nil ?_
  refine hK1 _ _ ?_
  refine c_seq fun K2 hK2 => ?_
  refine c_qF ?_
  refine f_assign (.int .i64 64) rfl rfl rfl rfl rfl ?_
  refine f_end fun w2 hw2 => hK2 _ _ ?_
  refine c_seq fun K3 hK3 => ?_
  refine c_seq fun K4 hK4 => ?_
  refine c_qF ?_
  refine f_move (.int .u64 64) rfl rfl rfl rfl rfl ?_
  refine f_eqlV 64 64 true rfl rfl rfl rfl rfl rfl (by decide) ?_
  refine f_end fun w3 hw3 => hK4 _ _ ?_
  refine c_cond true rfl ?_
  refine c_seq fun K5 hK5 => ?_
  refine c_lit ?_
  have hU3 : Up w w3 := below_up (below_up hU1 hw2) hw3
  refine l_slice12 28 34 39 14 18 41 1 8 7 19 61 6 rfl rfl rfl rfl ?_
  have hU4 := hU3.alloc (.cells (Us n64).toArray 41)
  have hN4 := VL.new w3 (Us n64) 41
  have hz4 : w.heap.size ≤ w3.heap.size := hU3.size
  refine l_assign (.slice (some ⟨w3.heap.size, 0, none⟩) 12 12) rfl rfl rfl rfl rfl ?_
  refine l_nil ?_
  refine hK5 _ _ ?_
  have hw4e : w3.alloc (.cells #[.int .u64 28, .int .u64 34, .int .u64 39, .int .u64 14, .int .u64 18, .int .u64 41, .int .u64 1, .int .u64 8, .int .u64 7, .int .u64 19, .int .u64 61, .int .u64 6] 41) = w3.alloc (.cells (Us n64).toArray 41) := rfl
  rw [hw4e]
  clear hw4e
  generalize w3.alloc (.cells (Us n64).toArray 41) = wN at *
  generalize hgn : w3.heap.size = gn at *
  refine c_qF ?_
  refine f_assign (.int .i64 80) rfl rfl rfl rfl rfl ?_
  refine f_end fun w5 hw5 => ?_
  refine hK3 _ _ ?_
  refine c_seq fun K6 hK6 => ?_
  refine c_qF ?_
  refine f_move (.int .u64 64) rfl rfl rfl rfl rfl ?_
  refine f_quoV 64 8 8 (by decide) rfl rfl rfl rfl rfl rfl (by decide) ?_
  refine f_intV 8 8 rfl rfl rfl rfl rfl (by decide) ?_
  refine f_assign (.int .i64 8) rfl rfl rfl rfl rfl ?_
  refine f_end fun w6 hw6 => hK6 _ _ ?_
  have hU6 : Up wN w6 := hw5.step hw6
  refine c_seq fun K7 hK7 => ?_
  refine c_lit ?_
  refine l_slice0B rfl rfl rfl rfl ?_
  have hU7 : Up wN (w6.alloc (.cells #[] 5)) := hU6.alloc _
  have hG7 := GS.new w6 wN.heap.size 5 hU6.size
  generalize w6.alloc (.cells #[] 5) = w7 at *
  refine l_move (.slice A0 l.length c0) rfl rfl rfl rfl rfl ?_
  refine l_appR (xs := []) (l := l) (X := A0) (d := c0) (c := 0) (A := some ⟨w6.heap.size, 0, none⟩) (base := wN.heap.size) rfl rfl rfl rfl rfl rfl hG7 ((hR.up hU4).up hU7) (by rw [List.length_nil]; omega) hU7.size ?_
  intro A8 c8 w8 hG8 hgr8
  have hU8 : Up wN w8 := hG7.grew hU7 hgr8 hU7.size
  rw [List.nil_append] at hG8 ⊢
  refine l_assign (.slice A8 (By l).length c8) rfl rfl rfl rfl rfl ?_
  refine l_nil ?_
  refine hK7 _ _ ?_
  refine c_seq fun K8 hK8 => ?_
  refine c_lit ?_
  refine l_move (.slice A8 (By l).length c8) rfl rfl rfl rfl rfl ?_
  refine l_slice1B 128 rfl rfl rfl rfl rfl ?_
  have hU9 : Up wN (w8.alloc (.cells #[.int .u8 128] 5)) := hU8.alloc _
  have hV9 := VL.new w8 [.int .u8 128] 5
  have hG9 := hG8.up ((Up.refl w8).alloc (.cells #[.int .u8 128] 5))
  have e0 : By l ++ [.int .u8 128] = By (pad l 0) := by
    unfold pad
    rw [By_app]
    rfl
  refine l_app (bytes := 1) (z := .int .u8 0) (news := [.int .u8 128]) (base := wN.heap.size) (e := 5) (xs := By l) (A := A8) (c := c8) (ad := ⟨w8.heap.size, 0, none⟩) (m := 1) (d := 1) rfl rfl rfl rfl rfl rfl Tryd.underlying45 info_byte rfl hG9 rfl (fun j u hu => by rw [Addr.add_mid, Nat.zero_add]; exact hV9.cell j u hu) (fun u hu => by rw [List.mem_singleton.1 hu]; rfl) (by rw [By_len]; omega) (by rw [By_len]; unfold maxLen; omega) hU9.size ?_
  intro A10 c10 w10 hG10 hgr10 _
  have hU10 : Up wN w10 := hG9.grew hU9 hgr10 hU9.size
  rw [e0] at hG10 ⊢
  refine l_assign (.slice A10 (By (pad l 0)).length c10) rfl rfl rfl rfl rfl ?_
  refine l_nil ?_
  refine k_sub (E' := FP l.length c0 A0 gn A10 (By (pad l 0)).length c10) ⟨rfl, rfl, rfl, rfl, rfl, rfl, trivial⟩ ?_
  refine hK8 _ _ ?_
  refine c_seq fun K9 hK9 => ?_
  refine c_block ?_
  refine padding64 l hl A10 c10 hU10 hG10 fun w11 A11 c11 Z hU11 hZ hZ2 hG11 => ?_
  refine hK9 _ _ ?_
  refine c_seq fun K10 hK10 => ?_
  refine c_tF 2 ?_
  simp only [List.take_succ_cons, List.take_zero]
  refine f_move (.int .i64 8) rfl rfl rfl rfl rfl ?_
  refine f_mulI 2 8 16 rfl rfl rfl rfl rfl rfl (by decide) ?_
  refine f_tail fun w12 hw12 => ?_
  simp only [List.drop_succ_cons, List.drop_zero]
  have hU12 : Up wN w12 := hU11.step hw12
  have hG12 := hG11.up hw12
  refine l_make (K := .i64) (z := .int .u8 0) (bytes := 1) 16 rfl rfl rfl rfl rfl rfl Tryd.underlying45 info_byte rfl (by decide) (by decide) ?_
  have hU13 := hU12.alloc (.cells (By (List.replicate 16 0)).toArray 5)
  have hV13 := VL.new w12 (By (List.replicate 16 0)) 5
  have hG13 := hG12.up ((Up.refl w12).alloc (.cells (By (List.replicate 16 0)).toArray 5))
  have hne13 : A11.map (·.block) ≠ some w12.heap.size := fun h => Nat.lt_irrefl _ (hG12.lt _ h).2
  have hz13 : wN.heap.size ≤ w12.heap.size := hU12.size
  rw [show List.replicate 16 (Value.int .u8 0) = By (List.replicate 16 0) from rfl]
  generalize w12.alloc (.cells (By (List.replicate 16 0)).toArray 5) = w13 at *
  generalize w12.heap.size = gl at *
  refine l_assign (.slice (some ⟨gl, 0, none⟩) 16 16) rfl rfl rfl rfl rfl ?_
  refine l_nil ?_
  refine hK10 _ _ ?_
  refine c_seq fun K11 hK11 => ?_
  refine c_qF ?_
  refine f_move (.slice A0 l.length c0) rfl rfl rfl rfl rfl ?_
  refine f_len A0 l.length c0 (by decide) rfl rfl rfl rfl rfl ?_
  refine f_wordI (l.length : Int) (l.length : Int) rfl rfl rfl rfl rfl (by rw [IntKind.wrap_u64]; omega) ?_
  refine f_mulU (l.length : Int) 8 ((8 * l.length : Nat) : Int) rfl rfl rfl rfl rfl rfl (by rw [IntKind.wrap_u64]; omega) ?_
  refine f_assign (.int .u64 ((8 * l.length : Nat) : Int)) rfl rfl rfl rfl rfl ?_
  refine f_end fun w14 hw14 => hK11 _ _ ?_
  refine c_seq fun K12 hK12 => ?_
  refine c_seq fun K13 hK13 => ?_
  refine c_qF ?_
  refine f_move (.slice (some ⟨gl, 0, none⟩) 16 16) rfl rfl rfl rfl rfl ?_
  refine f_len (some ⟨gl, 0, none⟩) 16 16 (by decide) rfl rfl rfl rfl rfl ?_
  refine f_subI 16 1 15 rfl rfl rfl rfl rfl rfl (by decide) ?_
  refine f_assign (.int .i64 15) rfl rfl rfl rfl rfl ?_
  refine f_end fun w15 hw15 => ?_
  refine k_sub (E' := FL l.length c0 A0 gn A11 (By (pad l Z)).length c11 gl (8 * l.length) 15) ⟨rfl, rfl, rfl, rfl, rfl, rfl, rfl, rfl, rfl, trivial⟩ ?_
  refine hK13 _ _ ?_
  refine c_block ?_
  refine length64 A11 c11 gl (8 * l.length) (by omega) (pad l Z) ((hU13.step hw14).step hw15) hz13 hne13 ((hG13.up hw14).up hw15) ((hV13.up hw14).up hw15) fun w16 hU16 hG16 hV16 => ?_
  refine hK12 _ _ ?_
  refine c_seq fun K14 hK14 => ?_
  refine c_lit ?_
  refine l_move (.slice A11 (By (pad l Z)).length c11) rfl rfl rfl rfl rfl ?_
  refine l_move (.slice (some ⟨gl, 0, none⟩) 16 16) rfl rfl rfl rfl rfl ?_
  have hpl := pad_len l Z
  refine l_app (bytes := 1) (z := .int .u8 0) (news := By (lr (8 * l.length))) (base := wN.heap.size) (e := 5) (xs := By (pad l Z)) (A := A11) (c := c11) (ad := ⟨gl, 0, none⟩) (m := 16) (d := 16) rfl rfl rfl rfl rfl rfl Tryd.underlying45 info_byte rfl hG16 (by rw [By_len, lr_len]) (fun j u hu => by rw [Addr.add_mid, Nat.zero_add]; exact hV16.cell j u hu) (By_one _) (by rw [By_len]; omega) (by rw [By_len]; unfold maxLen; omega) hU16.size ?_
  intro A17 c17 w17 hG17 hgr17 _
  have hU17 : Up wN w17 := hG16.grew hU16 hgr17 hU16.size
  rw [← By_app, pad_tail l Z hl hZ hZ2] at hG17 ⊢
  have hML : (l ++ tailw 128 (l.length % 128) (8 * l.length)).length = l.length + 17 + Z := by
    rw [← pad_tail l Z hl hZ hZ2, List.length_append, lr_len, pad_len]
    omega
  have hsum := sumw_eq l
  generalize l ++ tailw 128 (l.length % 128) (8 * l.length) = m at *
  rcases hG17.cut with ⟨_, _, h1⟩ | ⟨gm, rfl, hgm, hV17⟩
  · have h2 := congrArg List.length h1
    rw [By_len, hML, List.length_nil] at h2
    omega
  refine l_assign (.slice (some ⟨gm, 0, none⟩) (By m).length c17) rfl rfl rfl rfl rfl ?_
  refine l_nil ?_
  refine hK14 _ _ ?_
  rw [By_len]
  refine c_seq fun K15 hK15 => ?_
  refine c_lit ?_
  refine l_make (K := .i64) (z := .int .u64 0) (bytes := 8) 8 rfl rfl rfl rfl rfl rfl Tryd.underlying96 info_word rfl (by decide) (by decide) ?_
  have hUa := (Up.refl w17).alloc (.cells (Us z8).toArray 83)
  have hV18 := VL.new w17 (Us z8) 83
  have hN17 := hN4.up hU17
  have hU17w : Up w w17 := hU4.step hU17
  have hB18 : BS w (w17.alloc (.cells (Us z8).toArray 83)) gm gn w17.heap.size m z8 :=
    ⟨hV17.up hUa, hN17.up hUa, hV18, hU17w.step hUa, ⟨Nat.ne_of_lt hV17.lt, Nat.ne_of_lt hN17.lt⟩, hU17w.size⟩
  rw [show List.replicate 8 (Value.int .u64 0) = Us z8 from rfl]
  generalize w17.alloc (.cells (Us z8).toArray 83) = w18 at *
  generalize w17.heap.size = gh at *
  refine l_assign (.slice (some ⟨gh, 0, none⟩) 8 8) rfl rfl rfl rfl rfl ?_
  refine l_nil ?_
  refine hK15 _ _ ?_
  refine c_seq fun K16 hK16 => ?_
  refine c_seq fun K17 hK17 => ?_
  refine c_qF ?_
  refine f_move (.slice (some ⟨gh, 0, none⟩) 8 8) rfl rfl rfl rfl rfl ?_
  refine f_len (some ⟨gh, 0, none⟩) 8 8 (by decide) rfl rfl rfl rfl rfl ?_
  refine f_move (.int .i64 0) rfl rfl rfl rfl rfl ?_
  refine f_end fun w19 hw19 => ?_
  refine k_sub (E' := FH m.length c17 gm gn gh 0) ⟨rfl, rfl, rfl, rfl, rfl, rfl, rfl, rfl, trivial⟩ ?_
  refine hK17 _ _ ?_
  refine c_block ?_
  refine firsts64 m.length c17 (hB18.up hw19) fun w20 hB20 => ?_
  refine hK16 _ _ ?_
  refine c_seq fun K18 hK18 => ?_
  refine c_seq fun K19 hK19 => ?_
  refine c_qF ?_
  refine f_assign (.int .i64 0) rfl rfl rfl rfl rfl ?_
  refine f_end fun w21 hw21 => ?_
  refine k_sub (E' := FA m.length c17 gm gn gh 0) ⟨rfl, rfl, rfl, rfl, rfl, rfl, rfl, trivial⟩ ?_
  refine hK19 _ _ ?_
  refine c_block ?_
  refine blocks64 c17 ((l.length + 17 + Z) / 128) first512 first512_ok (by omega) (by omega) (hB20.up hw21) (fun _ _ d _ _ h => by cases d <;> exact h) fun w22 hB22 => ?_
  rw [← hsum] at hB22
  refine hK18 _ _ ?_
  refine c_seq fun K20 hK20 => ?_
  refine c_qF ?_
  refine f_assign (.slice none 0 0) rfl rfl rfl rfl rfl ?_
  refine f_end fun w23 hw23 => hK20 _ _ ?_
  refine c_seq fun K21 hK21 => ?_
  refine c_seq fun K22 hK22 => ?_
  refine c_qF ?_
  refine f_move (.slice (some ⟨gh, 0, none⟩) 8 8) rfl rfl rfl rfl rfl ?_
  refine f_len (some ⟨gh, 0, none⟩) 8 8 (by decide) rfl rfl rfl rfl rfl ?_
  refine f_move (.int .i64 0) rfl rfl rfl rfl rfl ?_
  refine f_end fun w24 hw24 => ?_
  refine k_sub (E' := FO gh none 0 0 0) ⟨rfl, rfl, rfl, rfl, rfl, trivial⟩ ?_
  refine hK22 _ _ ?_
  refine c_block ?_
  have hB24 := (hB22.up hw23).up hw24
  refine outs64 (wO := w24) (sumw s512 l).list rfl hB24.hh (Up.refl w24) fun w25 A25 c25 hU25 hG25 => ?_
  rw [outw_digest] at hG25 ⊢
  refine hK21 _ _ ?_
  refine c_seq fun K23 hK23 => ?_
  refine c_qF ?_
  refine f_move (.slice A25 (By (digest s512 l)).length c25) rfl rfl rfl rfl rfl ?_
  refine f_assign (.slice A25 (By (digest s512 l)).length c25) rfl rfl rfl rfl rfl ?_
  refine f_end fun w26 hw26 => hK23 _ _ ?_
  refine c_ret fun a ha => ?_
  have hbe : Up w w24 := hB24.be
  exact bodyPost_ret (results_tmp rfl _ _ _) ha.defers ⟨A25, c25, congrArg Ending.returned (ha.get 4 _ rfl), (hG25.less hbe.size).up hw26, (hbe.step hU25).step hw26⟩
end Go.Proofs.YtlaikmpnijlcbaaDoor
/-
  THE DOCUMENT'S OWN DIGESTS: Long: SHA-512 of parts.
-/
namespace Go.Proofs.YtlaikmpnijlcbaaDoor
open Go.RowKit Go.IntWalk Nums

section
variable {ops : Array Oper} {C0 : World → Prop} {Q : Act → Prop} {N : Nat} {E : List (Nat × Value)} {o : Oper} {rest : List Oper} {k : Nat}
theorem f_lenS {x : Operand} (p : Option Addr) (n c : Nat) (hg : o.guard = none) (hd : o.dst = some k) (hk : Nat.blt k N = true) (ho : o.op = .call { callee := .builtin .len, args := #[x], argTypes := #[69] }) (hx : ev E x = some (.slice p n c))
    (hn : bF Tryd.prog ops C0 Q rest N ((k, .int .i64 (n : Int)) :: E)) : bF Tryd.prog ops C0 Q (o :: rest) N E :=
  f_val _ hg hd hk (fun a ha w _ => by
    have h1 := ha.eval hx
    unfold execOp
    simp only [ho, resolve, invoke, builtin, Sem.run_bind, Sem.run_pure, Result.andThen_ok, List.map_toArray, List.map_cons, List.map_nil, h1]
    go_simp) hn
theorem f_idxS {x y : Operand} (ad : Addr) (n c i : Nat) (hi : i < n) (hg : o.guard = none) (hd : o.dst = some k) (hk : Nat.blt k N = true) (ho : o.op = .indexAddr 69 x y)
    (hx : ev E x = some (.slice (some ad) n c)) (hy : ev E y = some (.int .i64 (i : Int))) (hn : bF Tryd.prog ops C0 Q rest N ((k, .pointer (some (ad.add i))) :: E)) : bF Tryd.prog ops C0 Q (o :: rest) N E :=
  f_val _ hg hd hk (fun a ha w _ => by
    have h1 := ha.eval hx
    have h2 := ha.eval hy
    have h3 : (i : Int) < (n : Int) := by omega
    have h4 : (0 : Int) ≤ (i : Int) := by omega
    unfold execOp
    simp only [ho, h1, h2]
    go_simp) hn
theorem f_loadS {x : Operand} (p : Addr) (v : Value) (hg : o.guard = none) (hd : o.dst = some k) (hk : Nat.blt k N = true) (ho : o.op = .load 45 x) (hx : ev E x = some (.pointer (some p)))
    (hc : ∀ w, C0 w → w.cell? p = some v) (hn : bF Tryd.prog ops C0 Q rest N ((k, v) :: E)) : bF Tryd.prog ops C0 Q (o :: rest) N E :=
  f_val _ hg hd hk (fun a ha w hw => by
    have h1 := ha.eval hx
    have h2 := hc w hw
    unfold execOp
    simp only [ho, h1]
    go_simp) hn
end

theorem own_rdigest : Own 40 := fun _ _ => by go_simp
theorem flat_more (ls : List (List UInt8)) (k : Nat) (h : k < ls.length) : (ls.take (k + 1)).flatten = (ls.take k).flatten ++ ls[k] := by
  rw [List.take_succ_eq_append_getElem h, List.flatten_append, List.flatten_cons, List.flatten_nil, List.append_nil]
theorem flat_le (ls : List (List UInt8)) (k : Nat) : (ls.take k).flatten.length ≤ ls.flatten.length := by
  have h : ls.flatten = (ls.take k).flatten ++ (ls.drop k).flatten := by rw [← List.flatten_append, List.take_append_drop]
  rw [h, List.length_append]
  omega
def FLo (P : Option Addr) (n pc : Nat) (A : Option Addr) (m c i : Nat) : List (Nat × Value) :=
  [(8, .int .i64 (i : Int)), (7, .int .i64 (n : Int)), (6, .slice P n pc), (3, .slice A m c)]
end Go.Proofs.YtlaikmpnijlcbaaDoor
/-
  THE DOCUMENT'S OWN DIGESTS: three, with words of 32 bits.
-/
namespace Go.Proofs.YtlaikmpnijlcbaaDoor
open Go.RowKit Go.IntWalk Nums

theorem lt_64 {a : Nat} (h : a < 2 ^ 32) : a < 18446744073709551616 := Nat.lt_trans h (by decide)
theorem u64_xor_32 (a b : Nat) (ha : a < 2 ^ 32) (hb : b < 2 ^ 32) : bits .xor .u64 (a : Int) (b : Int) = ((a ^^^ b : Nat) : Int) := u64_xor_nat a b (lt_64 ha) (lt_64 hb)

set_option maxRecDepth 100000 in
set_option maxHeartbeats 1000000 in
theorem rbig32_f (x a b c : Nat) (hx : x < 4294967296) (ha : a < 32) (hb : b < 32) (hc : c < 32) (w : World) :
    Calls Tryd.prog 51 #[.int .u64 (x : Int), .int .u64 32, .int .u64 (a : Int), .int .u64 (b : Int), .int .u64 (c : Int), .bool false] w fun e w' => e = .returned (.int .u64 ((bigw 32 (a, b, c) x : Nat) : Int)) ∧ w' = w := by
  have r1 := rotw_lt (w := 32) (n := a) (x := x) (by omega) hx
  have r2 := rotw_lt (w := 32) (n := b) (x := x) (by omega) hx
  have r3 := rotw_lt (w := 32) (n := c) (x := x) (by omega) hx
  have R1 := fun w1 => Lib.hid (rturn32_f x a hx ha w1)
  have R2 := fun w1 => Lib.hid (rturn32_f x b hx hb w1)
  have R3 := fun w1 => Lib.hid (rturn32_f x c hx hc w1)
  have x1 := u64_xor_32 _ _ r1 r2
  have x2 := u64_xor_32 _ _ (xor_lt r1 r2) r3
  have e1 : bigw 32 (a, b, c) x = rotw 32 a x ^^^ rotw 32 b x ^^^ rotw 32 c x := rfl
  rw [← e1] at x2
  clear e1 r1 r2 r3
  generalize bigw 32 (a, b, c) x = z at *
  generalize rotw 32 a x ^^^ rotw 32 b x = y at *
  generalize rotw 32 a x = p1 at *
  generalize rotw 32 b x = p2 at *
  generalize rotw 32 c x = p3 at *
  go_enter Tryd.func51, Tryd.ntmps51
  go_wp2_with (fail)
  refine (R1 _).out.mono ?_
  rintro e w4 ⟨rfl, rfl⟩
  go_wp2_with (fail)
  refine (R2 _).out.mono ?_
  rintro e w4 ⟨rfl, rfl⟩
  go_wp2_with (fail)
  refine (R3 _).out.mono ?_
  rintro e w4 ⟨rfl, rfl⟩
  go_wp2_with (fail)
  go_ret
  exact ⟨rfl, rfl⟩

set_option maxRecDepth 100000 in
set_option maxHeartbeats 1000000 in
theorem rlow32_f (x a b c : Nat) (hx : x < 4294967296) (ha : a < 32) (hb : b < 32) (hc : c < 32) (w : World) :
    Calls Tryd.prog 51 #[.int .u64 (x : Int), .int .u64 32, .int .u64 (a : Int), .int .u64 (b : Int), .int .u64 (c : Int), .bool true] w fun e w' => e = .returned (.int .u64 ((loww 32 (a, b, c) x : Nat) : Int)) ∧ w' = w := by
  have r1 := rotw_lt (w := 32) (n := a) (x := x) (by omega) hx
  have r2 := rotw_lt (w := 32) (n := b) (x := x) (by omega) hx
  have r3 : x / 2 ^ c < 2 ^ 32 := Nat.lt_of_le_of_lt (Nat.div_le_self _ _) hx
  have R1 := fun w1 => Lib.hid (rturn32_f x a hx ha w1)
  have R2 := fun w1 => Lib.hid (rturn32_f x b hx hb w1)
  have x1 := u64_xor_32 _ _ r1 r2
  have x2 := u64_xor_32 _ _ (xor_lt r1 r2) r3
  have e1 : loww 32 (a, b, c) x = rotw 32 a x ^^^ rotw 32 b x ^^^ x / 2 ^ c := rfl
  rw [← e1] at x2
  clear e1 r1 r2 r3
  have f1 : ((x : Int) / 2 ^ c) = ((x / 2 ^ c : Nat) : Int) := by simp
  have g2 : (c : Int) ≤ 64 := by omega
  generalize loww 32 (a, b, c) x = z at *
  generalize rotw 32 a x ^^^ rotw 32 b x = y at *
  generalize rotw 32 a x = p1 at *
  generalize rotw 32 b x = p2 at *
  generalize x / 2 ^ c = p3 at *
  go_enter Tryd.func51, Tryd.ntmps51
  go_wp2_with (fail)
  refine (R1 _).out.mono ?_
  rintro e w4 ⟨rfl, rfl⟩
  go_wp2_with (fail)
  refine (R2 _).out.mono ?_
  rintro e w4 ⟨rfl, rfl⟩
  go_wp2_with (fail)
  go_ret
  exact ⟨rfl, rfl⟩

end Go.Proofs.YtlaikmpnijlcbaaDoor
/-
  THE DOCUMENT'S OWN DIGESTS: Digest with words of 32 bits: its loops, over frames of which a part is told: the schedule.
-/
namespace Go.Proofs.YtlaikmpnijlcbaaDoor
open Go.RowKit Go.IntWalk Nums

def n256 : List Nat := [2, 13, 22, 6, 11, 25, 7, 18, 3, 17, 19, 10]
def y64 : List Nat := List.replicate 64 0
theorem y64_len : y64.length = 64 := by decide

/-- What Digest's rows are: the message, the numbers of turns, the digest's words, the block's words. -/
structure DS32 (W0 w : World) (gm gn gh gx : Nat) (m : List UInt8) (h x : List Nat) : Prop where
  mm : VL w gm (By m)
  nn : VL w gn (Us n256)
  hh : VL w gh (Us h)
  xx : VL w gx (Us x)
  be : Below W0.heap.size W0 w
  ne : gm ≠ gh ∧ gm ≠ gx ∧ gn ≠ gh ∧ gn ≠ gx ∧ gh ≠ gx
  le : W0.heap.size ≤ gh ∧ W0.heap.size ≤ gx
section
variable {W0 w w' : World} {gm gn gh gx : Nat} {m : List UInt8} {h x : List Nat}
theorem DS32.up (d : DS32 W0 w gm gn gh gx m h x) (k : Up w w') : DS32 W0 w' gm gn gh gx m h x := ⟨d.mm.up k, d.nn.up k, d.hh.up k, d.xx.up k, below_up d.be k, d.ne, d.le⟩
theorem DS32.setX (d : DS32 W0 w gm gn gh gx m h x) (k v : Nat) : DS32 W0 (w.setCell ⟨gx, k, none⟩ (.int .u64 (v : Int))) gm gn gh gx m h (x.set k v) :=
  ⟨d.mm.far d.ne.2.1 _, d.nn.far d.ne.2.2.2.1 _, d.hh.far d.ne.2.2.2.2 _, by rw [← Us_put]; exact d.xx.set k _, d.be.setCell d.le.2 _, d.ne, d.le⟩
theorem DS32.setH (d : DS32 W0 w gm gn gh gx m h x) (k v : Nat) : DS32 W0 (w.setCell ⟨gh, k, none⟩ (.int .u64 (v : Int))) gm gn gh gx m (h.set k v) x :=
  ⟨d.mm.far d.ne.1 _, d.nn.far d.ne.2.2.1 _, by rw [← Us_put]; exact d.hh.set k _, d.xx.far (Ne.symm d.ne.2.2.2.2) _, d.be.setCell d.le.1 _, d.ne, d.le⟩
end

section
variable {W0 : World} {gm gn gh gx : Nat} {m : List UInt8} {h : List Nat} {b : List UInt8} {Q : Exit → Act → World → Prop}
/-- What is told of the frame in a block, and in the schedule's loop. -/
def FB32 (lm cm gm gn gh gx a : Nat) : List (Nat × Value) :=
  [(15, .slice (some ⟨gx, 0, none⟩) 64 64), (5, .slice (some ⟨gn, 0, none⟩) 12 12), (1, .int .u64 32), (6, .int .i64 64), (7, .int .i64 4),
    (8, .slice (some ⟨gm, 0, none⟩) lm cm), (12, .slice (some ⟨gh, 0, none⟩) 8 8), (14, .int .i64 (a : Int))]
def FS32 (lm cm gm gn gh gx a t : Nat) : List (Nat × Value) := (18, .int .i64 (t : Int)) :: FB32 lm cm gm gn gh gx a
set_option maxRecDepth 100000 in
set_option maxHeartbeats 4000000 in
theorem sched32 {w : World} (lm cm a : Nat) (F : Nat → Nat) (hlt : ∀ t, F t < 4294967296)
    (hrec : ∀ t, 16 ≤ t → F t = (loww 32 (17, 19, 10) (F (t - 2)) + F (t - 7) + loww 32 (7, 18, 3) (F (t - 15)) + F (t - 16)) % 4294967296)
    (h0 : DS32 W0 w gm gn gh gx m h (mxl F y64 16)) (hQ : ∀ c a d v w, Q (.panic c) (a.put d v) w → Q (.panic c) a w)
    (hend : ∀ w', DS32 W0 w' gm gn gh gx m h (mxl F y64 64) → kF (Q .normal) 359 (FS32 lm cm gm gn gh gx a 64) w') :
    cF Tryd.prog (.loop (dl 6)) (Exit.inBlock 12 Q) 359 (FS32 lm cm gm gn gh gx a 16) w := by
  refine c_loop (m := fun t : Nat => 64 - t) (F := FS32 lm cm gm gn gh gx a) (R := fun t w => 16 ≤ t ∧ t ≤ 64 ∧ DS32 W0 w gm gn gh gx m h (mxl F y64 t)) ?_ 16 ⟨by omega, by omega, h0⟩
  rintro t w ⟨h16, ht, hS⟩
  conv => arg 2; whnf
  refine c_seq fun K1 hK1 => ?_
  refine c_seq fun K2 hK2 => ?_
  refine c_qF ?_
  refine f_move (.int .i64 (t : Int)) rfl rfl rfl rfl rfl ?_
  refine f_move (.int .i64 64) rfl rfl rfl rfl rfl ?_
  by_cases htl : t < 64
  · refine f_lssI (t : Int) 64 true rfl rfl rfl rfl rfl rfl (decide_eq_true (by omega)) ?_
    refine f_end fun w1 hw1 => hK2 _ _ ?_
    refine c_cond true rfl ?_
    refine c_skip ?_
    refine hK1 _ _ ?_
    refine c_seq fun K3 hK3 => ?_
    refine c_block ?_
    have hS := hS.up hw1
    have hF := hrec t h16
    have hN := hS.up (Up.drew w1)
    have hl : (mxl F y64 t).length = 64 := by rw [mxl_len, y64_len]
    have c2 := hS.xx.word (j := t - 2) (by omega)
    have c7 := hS.xx.word (j := t - 7) (by omega)
    have c15 := hS.xx.word (j := t - 15) (by omega)
    have c16 := hS.xx.word (j := t - 16) (by omega)
    have ct := hS.xx.word (j := t) (by omega)
    have cf := hS.xx.free t (by rw [Us_len]; omega)
    rw [mxl_at (by omega) (by rw [y64_len]; omega)] at c2 c7 c15 c16
    have p2 := hlt (t - 2)
    have p7 := hlt (t - 7)
    have p15 := hlt (t - 15)
    have p16 := hlt (t - 16)
    have i2 : IntKind.i64.wrap ((t : Int) - 2) = ((t - 2 : Nat) : Int) := by rw [i64_left, wrap64_in _ (by omega)]; omega
    have i7 : IntKind.i64.wrap ((t : Int) - 7) = ((t - 7 : Nat) : Int) := by rw [i64_left, wrap64_in _ (by omega)]; omega
    have i15 : IntKind.i64.wrap ((t : Int) - 15) = ((t - 15 : Nat) : Int) := by rw [i64_left, wrap64_in _ (by omega)]; omega
    have i16 : IntKind.i64.wrap ((t : Int) - 16) = ((t - 16 : Nat) : Int) := by rw [i64_left, wrap64_in _ (by omega)]; omega
    have j2 : t - 2 < 64 := by omega
    have j7 : t - 7 < 64 := by omega
    have j15 : t - 15 < 64 := by omega
    have j16 : t - 16 < 64 := by omega
    have R1 := fun w1 => rlow32_f (F (t - 2)) 17 19 10 p2 (by decide) (by decide) (by decide) w1
    have R2 := fun w1 => rlow32_f (F (t - 15)) 7 18 3 p15 (by decide) (by decide) (by decide) w1
    have u2 := loww_lt (w := 32) (t := (17, 19, 10)) (x := F (t - 2)) (by decide) p2
    have u0 := loww_lt (w := 32) (t := (7, 18, 3)) (x := F (t - 15)) (by decide) p15
    have hset := mxl_set F y64 (k := t)
    generalize F (t - 2) = x2 at *
    generalize F (t - 7) = x7 at *
    generalize F (t - 15) = x15 at *
    generalize F (t - 16) = x16 at *
    generalize t - 2 = a2 at *
    generalize t - 7 = a7 at *
    generalize t - 15 = a15 at *
    generalize t - 16 = a16 at *
    generalize loww 32 (17, 19, 10) x2 = v1 at *
    generalize loww 32 (7, 18, 3) x15 = v0 at *
    have w1' : IntKind.u64.wrap ((v1 : Int) + (x7 : Int)) = ((v1 + x7 : Nat) : Int) := by rw [IntKind.wrap_u64]; omega
    have w2 : IntKind.u64.wrap (((v1 + x7 : Nat) : Int) + (v0 : Int)) = ((v1 + x7 + v0 : Nat) : Int) := by rw [IntKind.wrap_u64]; omega
    have w3 : IntKind.u64.wrap (((v1 + x7 + v0 : Nat) : Int) + (x16 : Int)) = ((v1 + x7 + v0 + x16 : Nat) : Int) := by rw [IntKind.wrap_u64]; omega
    have R3 := fun w1 => rcut32_f (v1 + x7 + v0 + x16) w1
    rw [← hF] at R3
    generalize v1 + x7 + v0 + x16 = z3 at *
    generalize v1 + x7 + v0 = z2 at *
    generalize v1 + x7 = z1 at *
    refine c_t 50 (by decide) (by kernel_rfl) (tail_ok (by kernel_rfl)) hQ ?_
    simp only [List.take_succ_cons, List.take_zero]
    -- walk sched32
    refine f_move (.slice (some ⟨gx, 0, none⟩) 64 64) rfl rfl rfl rfl rfl ?_
    refine f_move (.int .i64 (t : Int)) rfl rfl rfl rfl rfl ?_
    refine f_move (.slice (some ⟨gx, 0, none⟩) 64 64) rfl rfl rfl rfl rfl ?_
    refine f_move (.int .i64 (t : Int)) rfl rfl rfl rfl rfl ?_
    refine f_subI (t : Int) (2 : Int) (a2 : Int) rfl rfl rfl rfl rfl rfl i2 ?_
    refine f_idx0 gx 64 64 a2 (by omega) (by decide) rfl rfl rfl rfl rfl rfl ?_
    refine f_load ⟨gx, a2, none⟩ (.int .u64 (x2 : Int)) (by decide) rfl rfl rfl rfl rfl (fun _ h => (h.cell hS.xx.lt).trans c2) ?_
    refine f_move (.int .u64 32) rfl rfl rfl rfl rfl ?_
    refine f_move (.slice (some ⟨gn, 0, none⟩) 12 12) rfl rfl rfl rfl rfl ?_
    refine f_idx0 gn 12 12 9 (by decide) (by decide) rfl rfl rfl rfl rfl rfl ?_
    refine f_load ⟨gn, 9, none⟩ (.int .u64 ((17 : Nat) : Int)) (by decide) rfl rfl rfl rfl rfl (fun _ h => (hS.nn.up h).cell 9 _ rfl) ?_
    refine f_move (.slice (some ⟨gn, 0, none⟩) 12 12) rfl rfl rfl rfl rfl ?_
    refine f_idx0 gn 12 12 10 (by decide) (by decide) rfl rfl rfl rfl rfl rfl ?_
    refine f_load ⟨gn, 10, none⟩ (.int .u64 ((19 : Nat) : Int)) (by decide) rfl rfl rfl rfl rfl (fun _ h => (hS.nn.up h).cell 10 _ rfl) ?_
    refine f_move (.slice (some ⟨gn, 0, none⟩) 12 12) rfl rfl rfl rfl rfl ?_
    refine f_idx0 gn 12 12 11 (by decide) (by decide) rfl rfl rfl rfl rfl rfl ?_
    refine f_load ⟨gn, 11, none⟩ (.int .u64 ((10 : Nat) : Int)) (by decide) rfl rfl rfl rfl rfl (fun _ h => (hS.nn.up h).cell 11 _ rfl) ?_
    refine f_call #[.int .u64 (x2 : Int), .int .u64 32, .int .u64 ((17 : Nat) : Int), .int .u64 ((19 : Nat) : Int), .int .u64 ((10 : Nat) : Int), .bool true] (.int .u64 (v1 : Int)) rfl rfl rfl own_rthree (fun w _ => calls_still (R1 w)) rfl rfl ?_
    refine f_move (.slice (some ⟨gx, 0, none⟩) 64 64) rfl rfl rfl rfl rfl ?_
    refine f_move (.int .i64 (t : Int)) rfl rfl rfl rfl rfl ?_
    refine f_subI (t : Int) (7 : Int) (a7 : Int) rfl rfl rfl rfl rfl rfl i7 ?_
    refine f_idx0 gx 64 64 a7 (by omega) (by decide) rfl rfl rfl rfl rfl rfl ?_
    refine f_load ⟨gx, a7, none⟩ (.int .u64 (x7 : Int)) (by decide) rfl rfl rfl rfl rfl (fun _ h => (h.cell hS.xx.lt).trans c7) ?_
    refine f_addU (v1 : Int) (x7 : Int) (z1 : Int) rfl rfl rfl rfl rfl rfl w1' ?_
    refine f_move (.slice (some ⟨gx, 0, none⟩) 64 64) rfl rfl rfl rfl rfl ?_
    refine f_move (.int .i64 (t : Int)) rfl rfl rfl rfl rfl ?_
    refine f_subI (t : Int) (15 : Int) (a15 : Int) rfl rfl rfl rfl rfl rfl i15 ?_
    refine f_idx0 gx 64 64 a15 (by omega) (by decide) rfl rfl rfl rfl rfl rfl ?_
    refine f_load ⟨gx, a15, none⟩ (.int .u64 (x15 : Int)) (by decide) rfl rfl rfl rfl rfl (fun _ h => (h.cell hS.xx.lt).trans c15) ?_
    refine f_move (.int .u64 32) rfl rfl rfl rfl rfl ?_
    refine f_move (.slice (some ⟨gn, 0, none⟩) 12 12) rfl rfl rfl rfl rfl ?_
    refine f_idx0 gn 12 12 6 (by decide) (by decide) rfl rfl rfl rfl rfl rfl ?_
    refine f_load ⟨gn, 6, none⟩ (.int .u64 ((7 : Nat) : Int)) (by decide) rfl rfl rfl rfl rfl (fun _ h => (hS.nn.up h).cell 6 _ rfl) ?_
    refine f_move (.slice (some ⟨gn, 0, none⟩) 12 12) rfl rfl rfl rfl rfl ?_
    refine f_idx0 gn 12 12 7 (by decide) (by decide) rfl rfl rfl rfl rfl rfl ?_
    refine f_load ⟨gn, 7, none⟩ (.int .u64 ((18 : Nat) : Int)) (by decide) rfl rfl rfl rfl rfl (fun _ h => (hS.nn.up h).cell 7 _ rfl) ?_
    refine f_move (.slice (some ⟨gn, 0, none⟩) 12 12) rfl rfl rfl rfl rfl ?_
    refine f_idx0 gn 12 12 8 (by decide) (by decide) rfl rfl rfl rfl rfl rfl ?_
    refine f_load ⟨gn, 8, none⟩ (.int .u64 ((3 : Nat) : Int)) (by decide) rfl rfl rfl rfl rfl (fun _ h => (hS.nn.up h).cell 8 _ rfl) ?_
    refine f_call #[.int .u64 (x15 : Int), .int .u64 32, .int .u64 ((7 : Nat) : Int), .int .u64 ((18 : Nat) : Int), .int .u64 ((3 : Nat) : Int), .bool true] (.int .u64 (v0 : Int)) rfl rfl rfl own_rthree (fun w _ => calls_still (R2 w)) rfl rfl ?_
    refine f_addU (z1 : Int) (v0 : Int) (z2 : Int) rfl rfl rfl rfl rfl rfl w2 ?_
    refine f_move (.slice (some ⟨gx, 0, none⟩) 64 64) rfl rfl rfl rfl rfl ?_
    refine f_move (.int .i64 (t : Int)) rfl rfl rfl rfl rfl ?_
    refine f_subI (t : Int) (16 : Int) (a16 : Int) rfl rfl rfl rfl rfl rfl i16 ?_
    refine f_idx0 gx 64 64 a16 (by omega) (by decide) rfl rfl rfl rfl rfl rfl ?_
    refine f_load ⟨gx, a16, none⟩ (.int .u64 (x16 : Int)) (by decide) rfl rfl rfl rfl rfl (fun _ h => (h.cell hS.xx.lt).trans c16) ?_
    refine f_addU (z2 : Int) (x16 : Int) (z3 : Int) rfl rfl rfl rfl rfl rfl w3 ?_
    refine f_move (.int .u64 32) rfl rfl rfl rfl rfl ?_
    refine f_call #[.int .u64 (z3 : Int), .int .u64 32] (.int .u64 ((F t : Nat) : Int)) rfl rfl rfl own_rcut (fun w _ => calls_still (R3 w)) rfl rfl ?_
    refine f_idx0 gx 64 64 t htl (by decide) rfl rfl rfl rfl rfl rfl ?_
    -- end sched32
    refine f_store ⟨gx, t, none⟩ (F t : Int) _ (.inl ⟨rfl, rfl⟩) rfl rfl rfl rfl rfl ct cf hS.xx.lt fun w2 hw2 => ?_
    refine hK3 _ _ ?_
    refine c_qF ?_
    refine f_move (.int .i64 (t : Int)) rfl rfl rfl rfl rfl ?_
    refine f_addI (t : Int) 1 ((t + 1 : Nat) : Int) rfl rfl rfl rfl rfl rfl (by rw [i64_left, wrap64_in _ (by omega)]; omega) ?_
    refine f_assign (.int .i64 ((t + 1 : Nat) : Int)) rfl rfl rfl rfl rfl ?_
    refine f_end fun w3 hw3 => k_round (t + 1) ⟨rfl, rfl, rfl, rfl, rfl, rfl, rfl, rfl, rfl, trivial⟩ ⟨by omega, by omega, ?_⟩ (by omega)
    rw [← hset]
    exact ((hS.up hw2).setX t (F t)).up hw3
  · refine f_lssI (t : Int) 64 false rfl rfl rfl rfl rfl rfl (decide_eq_false (by omega)) ?_
    refine f_end fun w1 hw1 => hK2 _ _ ?_
    refine c_cond false rfl ?_
    refine c_exit ?_
    refine k_exit (id := 12) (Q := Q) ?_
    obtain rfl : t = 64 := by omega
    exact k_sub (E' := FS32 lm cm gm gn gh gx a 64) ⟨rfl, rfl, rfl, rfl, rfl, rfl, rfl, rfl, rfl, trivial⟩ (hend _ (hS.up hw1))
end
end Go.Proofs.YtlaikmpnijlcbaaDoor
/-
  THE DOCUMENT'S OWN DIGESTS: Digest with words of 32 bits: the rounds.
-/
namespace Go.Proofs.YtlaikmpnijlcbaaDoor
open Go.RowKit Go.IntWalk Nums

section
variable {W0 : World} {gm gn gh gx : Nat} {m : List UInt8} {hl : List Nat} {Q : Exit → Act → World → Prop}
def FR32 (lm cm gm gn gh gx a t gv cv : Nat) : List (Nat × Value) := (20, .int .i64 (t : Int)) :: (19, .slice (some ⟨gv, 0, none⟩) 8 cv) :: FB32 lm cm gm gn gh gx a
set_option maxRecDepth 100000 in
set_option maxHeartbeats 4000000 in
theorem rounds32 {w : World} (lm cm ac gv0 cv0 : Nat) (F : Nat → Nat) (hlt : ∀ t, F t < 4294967296) (R : Nat → Oct) (hO : ∀ t, OB 32 (R t)) (hstep : ∀ t, R (t + 1) = rnd s256 (cbs[t]! / 4294967296) (F t) (R t))
    (h0 : DS32 W0 w gm gn gh gx m hl (mxl F y64 64)) (hv0 : VL w gv0 (Us (R 0).list)) (hne0 : gv0 ≠ gh) (hQ : ∀ c a d v w, Q (.panic c) (a.put d v) w → Q (.panic c) a w)
    (hend : ∀ w' gv cv, DS32 W0 w' gm gn gh gx m hl (mxl F y64 64) → VL w' gv (Us (R 64).list) → gv ≠ gh → kF (Q .normal) 359 (FR32 lm cm gm gn gh gx ac 64 gv cv) w') :
    cF Tryd.prog (.loop (dl 7)) (Exit.inBlock 14 Q) 359 (FR32 lm cm gm gn gh gx ac 0 gv0 cv0) w := by
  refine c_loop (m := fun s : Nat × Nat × Nat => 64 - s.1) (F := fun s => FR32 lm cm gm gn gh gx ac s.1 s.2.1 s.2.2) (R := fun s w => s.1 ≤ 64 ∧ DS32 W0 w gm gn gh gx m hl (mxl F y64 64) ∧ VL w s.2.1 (Us (R s.1).list) ∧ s.2.1 ≠ gh) ?_ (0, gv0, cv0) ⟨by omega, h0, hv0, hne0⟩
  rintro ⟨t, gv, cv⟩ w ⟨ht, hS, hv, hne⟩
  dsimp only at ht hS hv hne ⊢
  conv => arg 2; whnf
  refine c_seq fun K1 hK1 => ?_
  refine c_seq fun K2 hK2 => ?_
  refine c_qF ?_
  refine f_move (.int .i64 (t : Int)) rfl rfl rfl rfl rfl ?_
  refine f_move (.int .i64 64) rfl rfl rfl rfl rfl ?_
  by_cases htl : t < 64
  · refine f_lssI (t : Int) 64 true rfl rfl rfl rfl rfl rfl (decide_eq_true (by omega)) ?_
    refine f_end fun w1 hw1 => hK2 _ _ ?_
    refine c_cond true rfl ?_
    refine c_skip ?_
    refine hK1 _ _ ?_
    refine c_seq fun K3 hK3 => ?_
    refine c_block ?_
    have hS := hS.up hw1
    have hv := hv.up hw1
    have hs := hstep t
    obtain ⟨ba, bb, bc, bd, be, bf, bg, bh⟩ := hO t
    have hX := hlt t
    have hKc := cbs_lt' (t := t) (by omega)
    have hKt : cbs[t]! / 4294967296 < 4294967296 := by omega
    have hsh : ((cbs[t]! : Nat) : Int) / 2 ^ 32 = ((cbs[t]! / 4294967296 : Nat) : Int) := by omega
    have cx := hS.xx.word (j := t) (by rw [mxl_len, y64_len]; exact htl)
    rw [mxl_at htl (by rw [y64_len]; exact htl)] at cx
    have RK := fun w1 => rcube_f t (by omega) w1
    have RC := fun (x : Nat) w1 => rcut32_f x w1
    generalize R t = q at *
    obtain ⟨a, b, c, d, e, f, g, h⟩ := q
    generalize F t = X at *
    generalize cbs[t]! / 4294967296 = Kt at *
    generalize cbs[t]! = Kc at *
    dsimp only at ba bb bc bd be bf bg bh hv
    have R1 := fun w1 => rbig32_f e 6 11 25 be (by decide) (by decide) (by decide) w1
    have R0 := fun w1 => rbig32_f a 2 13 22 ba (by decide) (by decide) (by decide) w1
    have hnew : rnd s256 Kt X ⟨a, b, c, d, e, f, g, h⟩ = ⟨(h + bigw 32 (6, 11, 25) e + chw 32 e f g + Kt + X + (bigw 32 (2, 13, 22) a + maw a b c)) % 4294967296, a, b, c, (d + (h + bigw 32 (6, 11, 25) e + chw 32 e f g + Kt + X)) % 4294967296, e, f, g⟩ := rfl
    rw [hnew] at hs
    clear hnew
    have u1 := bigw_lt (w := 32) (t := (6, 11, 25)) (x := e) (by decide) be
    have u0 := bigw_lt (w := 32) (t := (2, 13, 22)) (x := a) (by decide) ba
    have uc := chw_lt (w := 32) (e := e) (f := f) (g := g) be
    have um := maw_lt (w := 32) (a := a) (b := b) (c := c) ba bb
    generalize bigw 32 (6, 11, 25) e = s1 at *
    generalize bigw 32 (2, 13, 22) a = s0 at *
    have n1 := u64_and_nat e f (lt_64 be) (lt_64 bf)
    have n2 := u64_and_nat (2 ^ 32 - 1 - e) g (by omega) (lt_64 bg)
    have n3 : bits .or .u64 ((e &&& f : Nat) : Int) (((2 ^ 32 - 1 - e) &&& g : Nat) : Int) = ((chw 32 e f g : Nat) : Int) := by
      rw [u64_or_nat _ _ (lt_64 (and_lt (w := 32) be)) (lt_64 (and_lt (w := 32) (Nat.lt_of_le_of_lt (Nat.sub_le (2 ^ 32 - 1) e) (by decide)))), ch_or be]
    have n4 := u64_and_nat a b (lt_64 ba) (lt_64 bb)
    have n5 := u64_and_nat a c (lt_64 ba) (lt_64 bc)
    have n6 := u64_and_nat b c (lt_64 bb) (lt_64 bc)
    have n7 := u64_or_nat (a &&& b) (a &&& c) (lt_64 (and_lt (w := 32) ba)) (lt_64 (and_lt (w := 32) ba))
    have n8 : bits .or .u64 (((a &&& b) ||| (a &&& c) : Nat) : Int) ((b &&& c : Nat) : Int) = ((maw a b c : Nat) : Int) := by
      rw [u64_or_nat _ _ (lt_64 (Nat.or_lt_two_pow (n := 32) (and_lt (w := 32) ba) (and_lt (w := 32) ba))) (lt_64 (and_lt (w := 32) bb)), ma_or]
    have nn := not64d (lt_64 be)
    have hnc : (2 ^ 64 - 1 - e) % 4294967296 = 2 ^ 32 - 1 - e := by omega
    have RN := fun w1 => rcut32_f (2 ^ 64 - 1 - e) w1
    rw [hnc] at RN
    clear hnc
    generalize 2 ^ 64 - 1 - e = nl at *
    generalize chw 32 e f g = ch at *
    generalize maw a b c = ma at *
    generalize (a &&& b) ||| (a &&& c) = m4 at *
    generalize a &&& b = m1 at *
    generalize a &&& c = m2 at *
    generalize b &&& c = m3 at *
    generalize e &&& f = m5 at *
    generalize (2 ^ 32 - 1 - e) &&& g = m6 at *
    generalize 2 ^ 32 - 1 - e = ne at *
    obtain ⟨q1, hq1⟩ : ∃ z, z = h + s1 := ⟨_, rfl⟩
    obtain ⟨q2, hq2⟩ : ∃ z, z = q1 + ch := ⟨_, rfl⟩
    obtain ⟨q3, hq3⟩ : ∃ z, z = q2 + Kt := ⟨_, rfl⟩
    obtain ⟨q4, hq4⟩ : ∃ z, z = q3 + X := ⟨_, rfl⟩
    obtain ⟨q5, hq5⟩ : ∃ z, z = s0 + ma := ⟨_, rfl⟩
    obtain ⟨p6, hp6⟩ : ∃ z, z = d + q4 := ⟨_, rfl⟩
    obtain ⟨p7, hp7⟩ : ∃ z, z = q4 + q5 := ⟨_, rfl⟩
    have t1 : IntKind.u64.wrap ((h : Int) + (s1 : Int)) = (q1 : Int) := by rw [IntKind.wrap_u64]; omega
    have t2 : IntKind.u64.wrap ((q1 : Int) + (ch : Int)) = (q2 : Int) := by rw [IntKind.wrap_u64]; omega
    have t3 : IntKind.u64.wrap ((q2 : Int) + (Kt : Int)) = (q3 : Int) := by rw [IntKind.wrap_u64]; omega
    have t4 : IntKind.u64.wrap ((q3 : Int) + (X : Int)) = (q4 : Int) := by rw [IntKind.wrap_u64]; omega
    have t5 : IntKind.u64.wrap ((s0 : Int) + (ma : Int)) = (q5 : Int) := by rw [IntKind.wrap_u64]; omega
    have t6 : IntKind.u64.wrap ((d : Int) + (q4 : Int)) = (p6 : Int) := by rw [IntKind.wrap_u64]; omega
    have t7 : IntKind.u64.wrap ((q4 : Int) + (q5 : Int)) = (p7 : Int) := by rw [IntKind.wrap_u64]; omega
    have h6 : d + (h + s1 + ch + Kt + X) = p6 := by omega
    have h7 : h + s1 + ch + Kt + X + (s0 + ma) = p7 := by omega
    rw [h6, h7] at hs
    have R6 := fun w1 => rcut32_f p6 w1
    have R7 := fun w1 => rcut32_f p7 w1
    generalize p6 % 4294967296 = q6 at *
    generalize p7 % 4294967296 = q7 at *
    clear hq1 hq2 hq3 hq4 hq5 hp6 hp7 h6 h7
    refine c_seq fun K4 hK4 => ?_
    refine c_q (by kernel_rfl) (tail_ok (by kernel_rfl)) hQ ?_
    -- walk ch32
    refine f_move (.slice (some ⟨gv, 0, none⟩) 8 cv) rfl rfl rfl rfl rfl ?_
    refine f_idx0 gv 8 cv 4 (by decide) (by decide) rfl rfl rfl rfl rfl rfl ?_
    refine f_load ⟨gv, 4, none⟩ (.int .u64 (e : Int)) (by decide) rfl rfl rfl rfl rfl (fun _ h => (h.cell hv.lt).trans (hv.cell 4 _ rfl)) ?_
    refine f_move (.slice (some ⟨gv, 0, none⟩) 8 cv) rfl rfl rfl rfl rfl ?_
    refine f_idx0 gv 8 cv 5 (by decide) (by decide) rfl rfl rfl rfl rfl rfl ?_
    refine f_load ⟨gv, 5, none⟩ (.int .u64 (f : Int)) (by decide) rfl rfl rfl rfl rfl (fun _ h => (h.cell hv.lt).trans (hv.cell 5 _ rfl)) ?_
    refine f_andU (e : Int) (f : Int) (m5 : Int) rfl rfl rfl rfl rfl rfl n1 ?_
    refine f_move (.slice (some ⟨gv, 0, none⟩) 8 cv) rfl rfl rfl rfl rfl ?_
    refine f_idx0 gv 8 cv 4 (by decide) (by decide) rfl rfl rfl rfl rfl rfl ?_
    refine f_load ⟨gv, 4, none⟩ (.int .u64 (e : Int)) (by decide) rfl rfl rfl rfl rfl (fun _ h => (h.cell hv.lt).trans (hv.cell 4 _ rfl)) ?_
    refine f_notU (e : Int) (nl : Int) rfl rfl rfl rfl rfl nn ?_
    refine f_move (.int .u64 32) rfl rfl rfl rfl rfl ?_
    refine f_call #[.int .u64 (nl : Int), .int .u64 32] (.int .u64 (ne : Int)) rfl rfl rfl own_rcut (fun w _ => calls_still (RN w)) rfl rfl ?_
    refine f_move (.slice (some ⟨gv, 0, none⟩) 8 cv) rfl rfl rfl rfl rfl ?_
    refine f_idx0 gv 8 cv 6 (by decide) (by decide) rfl rfl rfl rfl rfl rfl ?_
    refine f_load ⟨gv, 6, none⟩ (.int .u64 (g : Int)) (by decide) rfl rfl rfl rfl rfl (fun _ h => (h.cell hv.lt).trans (hv.cell 6 _ rfl)) ?_
    refine f_andU (ne : Int) (g : Int) (m6 : Int) rfl rfl rfl rfl rfl rfl n2 ?_
    refine f_orU (m5 : Int) (m6 : Int) (ch : Int) rfl rfl rfl rfl rfl rfl n3 ?_
    refine f_assign (.int .u64 (ch : Int)) rfl rfl rfl rfl rfl ?_
    -- end ch32
    refine f_end fun w2 hw2 => ?_
    refine k_sub (E' := (21, .int .u64 (ch : Int)) :: FR32 lm cm gm gn gh gx ac t gv cv) ⟨rfl, rfl, rfl, rfl, rfl, rfl, rfl, rfl, rfl, rfl, rfl, trivial⟩ ?_
    refine hK4 _ _ ?_
    replace cx := (hw2.cell (by exact hS.xx.lt)).trans cx
    have hS := hS.up hw2
    have hv := hv.up hw2
    refine c_seq fun K5 hK5 => ?_
    refine c_q (by kernel_rfl) (tail_ok (by kernel_rfl)) hQ ?_
    -- walk maj32
    refine f_move (.slice (some ⟨gv, 0, none⟩) 8 cv) rfl rfl rfl rfl rfl ?_
    refine f_idx0 gv 8 cv 0 (by decide) (by decide) rfl rfl rfl rfl rfl rfl ?_
    refine f_load ⟨gv, 0, none⟩ (.int .u64 (a : Int)) (by decide) rfl rfl rfl rfl rfl (fun _ h => (h.cell hv.lt).trans (hv.cell 0 _ rfl)) ?_
    refine f_move (.slice (some ⟨gv, 0, none⟩) 8 cv) rfl rfl rfl rfl rfl ?_
    refine f_idx0 gv 8 cv 1 (by decide) (by decide) rfl rfl rfl rfl rfl rfl ?_
    refine f_load ⟨gv, 1, none⟩ (.int .u64 (b : Int)) (by decide) rfl rfl rfl rfl rfl (fun _ h => (h.cell hv.lt).trans (hv.cell 1 _ rfl)) ?_
    refine f_andU (a : Int) (b : Int) (m1 : Int) rfl rfl rfl rfl rfl rfl n4 ?_
    refine f_move (.slice (some ⟨gv, 0, none⟩) 8 cv) rfl rfl rfl rfl rfl ?_
    refine f_idx0 gv 8 cv 0 (by decide) (by decide) rfl rfl rfl rfl rfl rfl ?_
    refine f_load ⟨gv, 0, none⟩ (.int .u64 (a : Int)) (by decide) rfl rfl rfl rfl rfl (fun _ h => (h.cell hv.lt).trans (hv.cell 0 _ rfl)) ?_
    refine f_move (.slice (some ⟨gv, 0, none⟩) 8 cv) rfl rfl rfl rfl rfl ?_
    refine f_idx0 gv 8 cv 2 (by decide) (by decide) rfl rfl rfl rfl rfl rfl ?_
    refine f_load ⟨gv, 2, none⟩ (.int .u64 (c : Int)) (by decide) rfl rfl rfl rfl rfl (fun _ h => (h.cell hv.lt).trans (hv.cell 2 _ rfl)) ?_
    refine f_andU (a : Int) (c : Int) (m2 : Int) rfl rfl rfl rfl rfl rfl n5 ?_
    refine f_orU (m1 : Int) (m2 : Int) (m4 : Int) rfl rfl rfl rfl rfl rfl n7 ?_
    refine f_move (.slice (some ⟨gv, 0, none⟩) 8 cv) rfl rfl rfl rfl rfl ?_
    refine f_idx0 gv 8 cv 1 (by decide) (by decide) rfl rfl rfl rfl rfl rfl ?_
    refine f_load ⟨gv, 1, none⟩ (.int .u64 (b : Int)) (by decide) rfl rfl rfl rfl rfl (fun _ h => (h.cell hv.lt).trans (hv.cell 1 _ rfl)) ?_
    refine f_move (.slice (some ⟨gv, 0, none⟩) 8 cv) rfl rfl rfl rfl rfl ?_
    refine f_idx0 gv 8 cv 2 (by decide) (by decide) rfl rfl rfl rfl rfl rfl ?_
    refine f_load ⟨gv, 2, none⟩ (.int .u64 (c : Int)) (by decide) rfl rfl rfl rfl rfl (fun _ h => (h.cell hv.lt).trans (hv.cell 2 _ rfl)) ?_
    refine f_andU (b : Int) (c : Int) (m3 : Int) rfl rfl rfl rfl rfl rfl n6 ?_
    refine f_orU (m4 : Int) (m3 : Int) (ma : Int) rfl rfl rfl rfl rfl rfl n8 ?_
    refine f_assign (.int .u64 (ma : Int)) rfl rfl rfl rfl rfl ?_
    -- end maj32
    refine f_end fun w3 hw3 => ?_
    refine k_sub (E' := (22, .int .u64 (ma : Int)) :: (21, .int .u64 (ch : Int)) :: FR32 lm cm gm gn gh gx ac t gv cv) ⟨rfl, rfl, rfl, rfl, rfl, rfl, rfl, rfl, rfl, rfl, rfl, rfl, trivial⟩ ?_
    refine hK5 _ _ ?_
    replace cx := (hw3.cell (by exact hS.xx.lt)).trans cx
    have hS := hS.up hw3
    have hv := hv.up hw3
    refine c_seq fun K6 hK6 => ?_
    refine c_q (by kernel_rfl) (tail_ok (by kernel_rfl)) hQ ?_
    -- walk t132
    refine f_move (.slice (some ⟨gv, 0, none⟩) 8 cv) rfl rfl rfl rfl rfl ?_
    refine f_idx0 gv 8 cv 7 (by decide) (by decide) rfl rfl rfl rfl rfl rfl ?_
    refine f_load ⟨gv, 7, none⟩ (.int .u64 (h : Int)) (by decide) rfl rfl rfl rfl rfl (fun _ h => (h.cell hv.lt).trans (hv.cell 7 _ rfl)) ?_
    refine f_move (.slice (some ⟨gv, 0, none⟩) 8 cv) rfl rfl rfl rfl rfl ?_
    refine f_idx0 gv 8 cv 4 (by decide) (by decide) rfl rfl rfl rfl rfl rfl ?_
    refine f_load ⟨gv, 4, none⟩ (.int .u64 (e : Int)) (by decide) rfl rfl rfl rfl rfl (fun _ h => (h.cell hv.lt).trans (hv.cell 4 _ rfl)) ?_
    refine f_move (.int .u64 32) rfl rfl rfl rfl rfl ?_
    refine f_move (.slice (some ⟨gn, 0, none⟩) 12 12) rfl rfl rfl rfl rfl ?_
    refine f_idx0 gn 12 12 3 (by decide) (by decide) rfl rfl rfl rfl rfl rfl ?_
    refine f_load ⟨gn, 3, none⟩ (.int .u64 ((6 : Nat) : Int)) (by decide) rfl rfl rfl rfl rfl (fun _ h => (hS.nn.up h).cell 3 _ rfl) ?_
    refine f_move (.slice (some ⟨gn, 0, none⟩) 12 12) rfl rfl rfl rfl rfl ?_
    refine f_idx0 gn 12 12 4 (by decide) (by decide) rfl rfl rfl rfl rfl rfl ?_
    refine f_load ⟨gn, 4, none⟩ (.int .u64 ((11 : Nat) : Int)) (by decide) rfl rfl rfl rfl rfl (fun _ h => (hS.nn.up h).cell 4 _ rfl) ?_
    refine f_move (.slice (some ⟨gn, 0, none⟩) 12 12) rfl rfl rfl rfl rfl ?_
    refine f_idx0 gn 12 12 5 (by decide) (by decide) rfl rfl rfl rfl rfl rfl ?_
    refine f_load ⟨gn, 5, none⟩ (.int .u64 ((25 : Nat) : Int)) (by decide) rfl rfl rfl rfl rfl (fun _ h => (hS.nn.up h).cell 5 _ rfl) ?_
    refine f_call #[.int .u64 (e : Int), .int .u64 32, .int .u64 ((6 : Nat) : Int), .int .u64 ((11 : Nat) : Int), .int .u64 ((25 : Nat) : Int), .bool false] (.int .u64 (s1 : Int)) rfl rfl rfl own_rthree (fun w _ => calls_still (R1 w)) rfl rfl ?_
    refine f_addU (h : Int) (s1 : Int) (q1 : Int) rfl rfl rfl rfl rfl rfl t1 ?_
    refine f_move (.int .u64 (ch : Int)) rfl rfl rfl rfl rfl ?_
    refine f_addU (q1 : Int) (ch : Int) (q2 : Int) rfl rfl rfl rfl rfl rfl t2 ?_
    refine f_move (.int .i64 (t : Int)) rfl rfl rfl rfl rfl ?_
    refine f_call #[.int .i64 (t : Int)] (.int .u64 (Kc : Int)) rfl rfl rfl own_rcube (fun w _ => RK w) rfl rfl ?_
    refine f_move (.int .u64 32) rfl rfl rfl rfl rfl ?_
    refine f_subV (64 : Int) 32 32 rfl rfl rfl rfl rfl rfl (by decide) ?_
    refine f_shrU (Kc : Int) 32 (Kt : Int) (by omega) rfl rfl rfl rfl rfl rfl hsh ?_
    refine f_addU (q2 : Int) (Kt : Int) (q3 : Int) rfl rfl rfl rfl rfl rfl t3 ?_
    refine f_move (.slice (some ⟨gx, 0, none⟩) 64 64) rfl rfl rfl rfl rfl ?_
    refine f_move (.int .i64 (t : Int)) rfl rfl rfl rfl rfl ?_
    refine f_idx0 gx 64 64 t htl (by decide) rfl rfl rfl rfl rfl rfl ?_
    refine f_load ⟨gx, t, none⟩ (.int .u64 (X : Int)) (by decide) rfl rfl rfl rfl rfl (fun _ h => (h.cell hS.xx.lt).trans cx) ?_
    refine f_addU (q3 : Int) (X : Int) (q4 : Int) rfl rfl rfl rfl rfl rfl t4 ?_
    refine f_assign (.int .u64 (q4 : Int)) rfl rfl rfl rfl rfl ?_
    -- end t132
    refine f_end fun w4 hw4 => ?_
    refine k_sub (E' := (23, .int .u64 (q4 : Int)) :: (22, .int .u64 (ma : Int)) :: FR32 lm cm gm gn gh gx ac t gv cv) ⟨rfl, rfl, rfl, rfl, rfl, rfl, rfl, rfl, rfl, rfl, rfl, rfl, trivial⟩ ?_
    refine hK6 _ _ ?_
    have hS := hS.up hw4
    have hv := hv.up hw4
    refine c_seq fun K7 hK7 => ?_
    refine c_q (by kernel_rfl) (tail_ok (by kernel_rfl)) hQ ?_
    -- walk t232
    refine f_move (.slice (some ⟨gv, 0, none⟩) 8 cv) rfl rfl rfl rfl rfl ?_
    refine f_idx0 gv 8 cv 0 (by decide) (by decide) rfl rfl rfl rfl rfl rfl ?_
    refine f_load ⟨gv, 0, none⟩ (.int .u64 (a : Int)) (by decide) rfl rfl rfl rfl rfl (fun _ h => (h.cell hv.lt).trans (hv.cell 0 _ rfl)) ?_
    refine f_move (.int .u64 32) rfl rfl rfl rfl rfl ?_
    refine f_move (.slice (some ⟨gn, 0, none⟩) 12 12) rfl rfl rfl rfl rfl ?_
    refine f_idx0 gn 12 12 0 (by decide) (by decide) rfl rfl rfl rfl rfl rfl ?_
    refine f_load ⟨gn, 0, none⟩ (.int .u64 ((2 : Nat) : Int)) (by decide) rfl rfl rfl rfl rfl (fun _ h => (hS.nn.up h).cell 0 _ rfl) ?_
    refine f_move (.slice (some ⟨gn, 0, none⟩) 12 12) rfl rfl rfl rfl rfl ?_
    refine f_idx0 gn 12 12 1 (by decide) (by decide) rfl rfl rfl rfl rfl rfl ?_
    refine f_load ⟨gn, 1, none⟩ (.int .u64 ((13 : Nat) : Int)) (by decide) rfl rfl rfl rfl rfl (fun _ h => (hS.nn.up h).cell 1 _ rfl) ?_
    refine f_move (.slice (some ⟨gn, 0, none⟩) 12 12) rfl rfl rfl rfl rfl ?_
    refine f_idx0 gn 12 12 2 (by decide) (by decide) rfl rfl rfl rfl rfl rfl ?_
    refine f_load ⟨gn, 2, none⟩ (.int .u64 ((22 : Nat) : Int)) (by decide) rfl rfl rfl rfl rfl (fun _ h => (hS.nn.up h).cell 2 _ rfl) ?_
    refine f_call #[.int .u64 (a : Int), .int .u64 32, .int .u64 ((2 : Nat) : Int), .int .u64 ((13 : Nat) : Int), .int .u64 ((22 : Nat) : Int), .bool false] (.int .u64 (s0 : Int)) rfl rfl rfl own_rthree (fun w _ => calls_still (R0 w)) rfl rfl ?_
    refine f_move (.int .u64 (ma : Int)) rfl rfl rfl rfl rfl ?_
    refine f_addU (s0 : Int) (ma : Int) (q5 : Int) rfl rfl rfl rfl rfl rfl t5 ?_
    refine f_assign (.int .u64 (q5 : Int)) rfl rfl rfl rfl rfl ?_
    -- end t232
    refine f_end fun w5 hw5 => ?_
    refine k_sub (E' := (24, .int .u64 (q5 : Int)) :: (23, .int .u64 (q4 : Int)) :: FR32 lm cm gm gn gh gx ac t gv cv) ⟨rfl, rfl, rfl, rfl, rfl, rfl, rfl, rfl, rfl, rfl, rfl, rfl, trivial⟩ ?_
    refine hK7 _ _ ?_
    have hS := hS.up hw5
    have hv := hv.up hw5
    refine c_t 30 (by decide) (by kernel_rfl) (tail_okD 8 (by kernel_rfl)) hQ ?_
    simp only [List.take_succ_cons, List.take_zero]
    -- walk v32
    refine f_move (.int .u64 (q4 : Int)) rfl rfl rfl rfl rfl ?_
    refine f_move (.int .u64 (q5 : Int)) rfl rfl rfl rfl rfl ?_
    refine f_addU (q4 : Int) (q5 : Int) (p7 : Int) rfl rfl rfl rfl rfl rfl t7 ?_
    refine f_move (.int .u64 32) rfl rfl rfl rfl rfl ?_
    refine f_call #[.int .u64 (p7 : Int), .int .u64 32] (.int .u64 (q7 : Int)) rfl rfl rfl own_rcut (fun w _ => calls_still (R7 w)) rfl rfl ?_
    refine f_move (.slice (some ⟨gv, 0, none⟩) 8 cv) rfl rfl rfl rfl rfl ?_
    refine f_idx0 gv 8 cv 0 (by decide) (by decide) rfl rfl rfl rfl rfl rfl ?_
    refine f_load ⟨gv, 0, none⟩ (.int .u64 (a : Int)) (by decide) rfl rfl rfl rfl rfl (fun _ h => (h.cell hv.lt).trans (hv.cell 0 _ rfl)) ?_
    refine f_move (.slice (some ⟨gv, 0, none⟩) 8 cv) rfl rfl rfl rfl rfl ?_
    refine f_idx0 gv 8 cv 1 (by decide) (by decide) rfl rfl rfl rfl rfl rfl ?_
    refine f_load ⟨gv, 1, none⟩ (.int .u64 (b : Int)) (by decide) rfl rfl rfl rfl rfl (fun _ h => (h.cell hv.lt).trans (hv.cell 1 _ rfl)) ?_
    refine f_move (.slice (some ⟨gv, 0, none⟩) 8 cv) rfl rfl rfl rfl rfl ?_
    refine f_idx0 gv 8 cv 2 (by decide) (by decide) rfl rfl rfl rfl rfl rfl ?_
    refine f_load ⟨gv, 2, none⟩ (.int .u64 (c : Int)) (by decide) rfl rfl rfl rfl rfl (fun _ h => (h.cell hv.lt).trans (hv.cell 2 _ rfl)) ?_
    refine f_move (.slice (some ⟨gv, 0, none⟩) 8 cv) rfl rfl rfl rfl rfl ?_
    refine f_idx0 gv 8 cv 3 (by decide) (by decide) rfl rfl rfl rfl rfl rfl ?_
    refine f_load ⟨gv, 3, none⟩ (.int .u64 (d : Int)) (by decide) rfl rfl rfl rfl rfl (fun _ h => (h.cell hv.lt).trans (hv.cell 3 _ rfl)) ?_
    refine f_move (.int .u64 (q4 : Int)) rfl rfl rfl rfl rfl ?_
    refine f_addU (d : Int) (q4 : Int) (p6 : Int) rfl rfl rfl rfl rfl rfl t6 ?_
    refine f_move (.int .u64 32) rfl rfl rfl rfl rfl ?_
    refine f_call #[.int .u64 (p6 : Int), .int .u64 32] (.int .u64 (q6 : Int)) rfl rfl rfl own_rcut (fun w _ => calls_still (R6 w)) rfl rfl ?_
    refine f_move (.slice (some ⟨gv, 0, none⟩) 8 cv) rfl rfl rfl rfl rfl ?_
    refine f_idx0 gv 8 cv 4 (by decide) (by decide) rfl rfl rfl rfl rfl rfl ?_
    refine f_load ⟨gv, 4, none⟩ (.int .u64 (e : Int)) (by decide) rfl rfl rfl rfl rfl (fun _ h => (h.cell hv.lt).trans (hv.cell 4 _ rfl)) ?_
    refine f_move (.slice (some ⟨gv, 0, none⟩) 8 cv) rfl rfl rfl rfl rfl ?_
    refine f_idx0 gv 8 cv 5 (by decide) (by decide) rfl rfl rfl rfl rfl rfl ?_
    refine f_load ⟨gv, 5, none⟩ (.int .u64 (f : Int)) (by decide) rfl rfl rfl rfl rfl (fun _ h => (h.cell hv.lt).trans (hv.cell 5 _ rfl)) ?_
    refine f_move (.slice (some ⟨gv, 0, none⟩) 8 cv) rfl rfl rfl rfl rfl ?_
    refine f_idx0 gv 8 cv 6 (by decide) (by decide) rfl rfl rfl rfl rfl rfl ?_
    refine f_load ⟨gv, 6, none⟩ (.int .u64 (g : Int)) (by decide) rfl rfl rfl rfl rfl (fun _ h => (h.cell hv.lt).trans (hv.cell 6 _ rfl)) ?_
    -- end v32
    refine f_tail fun w6 hw6 => ?_
    simp only [List.drop_succ_cons, List.drop_zero]
    refine l_slice8 q7 a b c q6 e f g rfl rfl rfl rfl rfl rfl rfl rfl rfl rfl rfl rfl ?_
    refine l_assign (.slice (some ⟨w6.heap.size, 0, none⟩) 8 8) rfl rfl rfl rfl rfl ?_
    refine l_nil ?_
    refine hK3 _ _ ?_
    have hn6 : w6.heap.size ≠ gh := Nat.ne_of_gt (hS.up hw6).hh.lt
    have hS := (hS.up hw6).up ((Up.refl w6).alloc (.cells (Us [q7, a, b, c, q6, e, f, g]).toArray 83))
    have hv := VL.new w6 (Us [q7, a, b, c, q6, e, f, g]) 83
    refine c_qF ?_
    refine f_move (.int .i64 (t : Int)) rfl rfl rfl rfl rfl ?_
    refine f_addI (t : Int) 1 ((t + 1 : Nat) : Int) rfl rfl rfl rfl rfl rfl (by rw [i64_left, wrap64_in _ (by omega)]; omega) ?_
    refine f_assign (.int .i64 ((t + 1 : Nat) : Int)) rfl rfl rfl rfl rfl ?_
    refine f_end fun w7 hw7 => ?_
    have hv := hv.up hw7
    have hw : VL w7 w6.heap.size (Us (R (t + 1)).list) := by
      rw [hs]
      exact hv
    exact k_round (F := fun s : Nat × Nat × Nat => FR32 lm cm gm gn gh gx ac s.1 s.2.1 s.2.2) (m := fun s : Nat × Nat × Nat => 64 - s.1) (R := fun s w => s.1 ≤ 64 ∧ DS32 W0 w gm gn gh gx m hl (mxl F y64 64) ∧ VL w s.2.1 (Us (R s.1).list) ∧ s.2.1 ≠ gh) (s := (t, gv, cv)) (t + 1, w6.heap.size, 8) ⟨rfl, rfl, rfl, rfl, rfl, rfl, rfl, rfl, rfl, rfl, trivial⟩ ⟨Nat.succ_le_of_lt htl, hS.up hw7, hw, hn6⟩ (Nat.sub_lt_sub_left htl (Nat.lt_succ_self t))
  · refine f_lssI (t : Int) 64 false rfl rfl rfl rfl rfl rfl (decide_eq_false (by omega)) ?_
    refine f_end fun w1 hw1 => hK2 _ _ ?_
    refine c_cond false rfl ?_
    refine c_exit ?_
    refine k_exit (id := 14) (Q := Q) ?_
    obtain rfl : t = 64 := by omega
    exact k_sub (E' := FR32 lm cm gm gn gh gx ac 64 gv cv) ⟨rfl, rfl, rfl, rfl, rfl, rfl, rfl, rfl, rfl, rfl, trivial⟩ (hend _ _ _ (hS.up hw1) (hv.up hw1) hne)
end
end Go.Proofs.YtlaikmpnijlcbaaDoor
/-
  THE DOCUMENT'S OWN DIGESTS: Digest with words of 32 bits: a block's words, and the sums at a block's end.
-/
namespace Go.Proofs.YtlaikmpnijlcbaaDoor
open Go.RowKit Go.IntWalk Nums

theorem y64_get (k : Nat) : y64[k]! = 0 := by
  unfold y64
  by_cases h : k < 64
  · rw [getElem!_pos _ k (by rw [List.length_replicate]; exact h), List.getElem_replicate]
  · rw [getElem!_neg _ k (by rw [List.length_replicate]; exact h)]
    rfl
theorem set_zero64 {F : Nat → Nat} {k : Nat} : (mxl F y64 k).set k 0 = mxl F y64 k := by
  apply List.ext_getElem (by simp)
  intro i h1 h2
  rw [List.getElem_set]
  have h3 : i < 64 := by simpa [mxl_len, y64_len] using h2
  by_cases e : k = i
  · subst e
    rw [if_pos rfl]
    have := mxl_get F y64 (k := k) (by rw [y64_len]; exact h3)
    rw [getElem!_pos _ k h2, y64_get] at this
    exact this.symm
  · rw [if_neg e]

section
variable {W0 : World} {gm gn gh gx : Nat} {m : List UInt8} {hl : List Nat} {Q : Exit → Act → World → Prop}
def FT32 (lm cm gm gn gh gx a t : Nat) : List (Nat × Value) := (16, .int .i64 (t : Int)) :: FB32 lm cm gm gn gh gx a
def FK32 (lm cm gm gn gh gx a t k : Nat) : List (Nat × Value) := (17, .int .i64 (k : Int)) :: FT32 lm cm gm gn gh gx a t
set_option maxRecDepth 100000 in
set_option maxHeartbeats 4000000 in
theorem bytes32 {w : World} (cm ac t : Nat) (f : Nat → Nat) (x : List Nat) (hx : x.length = 64) (ht : t < 16) (hf : ∀ j, f j < 256) (hm : ac + 64 ≤ m.length) (hmax : m.length ≤ 9223372036854775807) (hfm : ∀ k, k < 4 → f k = (m[ac + t * 4 + k]!).toNat)
    (h0 : DS32 W0 w gm gn gh gx m hl (x.set t 0)) (hQ : ∀ c a d v w, Q (.panic c) (a.put d v) w → Q (.panic c) a w)
    (hend : ∀ w', DS32 W0 w' gm gn gh gx m hl (x.set t (ben f 4)) → kF (Q .normal) 359 (FK32 m.length cm gm gn gh gx ac t 4) w') :
    cF Tryd.prog (.loop (dl 5)) (Exit.inBlock 10 Q) 359 (FK32 m.length cm gm gn gh gx ac t 0) w := by
  refine c_loop (m := fun k : Nat => 4 - k) (F := FK32 m.length cm gm gn gh gx ac t) (R := fun k w => k ≤ 4 ∧ DS32 W0 w gm gn gh gx m hl (x.set t (ben f k))) ?_ 0 ⟨by omega, h0⟩
  rintro k w ⟨hk, hS⟩
  conv => arg 2; whnf
  refine c_seq fun K1 hK1 => ?_
  refine c_seq fun K2 hK2 => ?_
  refine c_qF ?_
  refine f_move (.int .i64 (k : Int)) rfl rfl rfl rfl rfl ?_
  refine f_move (.int .i64 4) rfl rfl rfl rfl rfl ?_
  by_cases hkl : k < 4
  · refine f_lssI (k : Int) 4 true rfl rfl rfl rfl rfl rfl (decide_eq_true (by omega)) ?_
    refine f_end fun w1 hw1 => hK2 _ _ ?_
    refine c_cond true rfl ?_
    refine c_skip ?_
    refine hK1 _ _ ?_
    refine c_seq fun K3 hK3 => ?_
    refine c_block ?_
    have hS := hS.up hw1
    have hN := hS.setX t (ben f (k + 1))
    rw [List.set_set] at hN
    have hB : ben f (k + 1) = ben f k * 256 + f k := rfl
    have hy := ben_lt (f := f) hf k
    have hy2 : (256 : Nat) ^ k ≤ 256 ^ 7 := Nat.pow_le_pow_right (by decide) (by omega)
    have hb := hf k
    have c0 := hS.mm.byte (j := ac + t * 4 + k) (by omega)
    rw [← hfm k hkl] at c0
    have ct := hS.xx.word (j := t) (by rw [List.length_set]; omega)
    have ex : (x.set t (ben f k))[t]! = ben f k := by
      rw [getElem!_pos _ t (by rw [List.length_set]; omega), List.getElem_set_self]
    rw [ex] at ct
    have cf := hS.xx.free t (by rw [Us_len, List.length_set]; omega)
    have hyx : ben f k * 256 + f k < 18446744073709551616 := by
      have : (256 : Nat) ^ 7 = 72057594037927936 := by decide
      omega
    rw [hB] at hN
    generalize ben f k = y at *
    generalize f k = z at *
    have w1' : IntKind.u64.wrap ((y : Int) * 256) = ((y * 256 : Nat) : Int) := by rw [IntKind.wrap_u64]; omega
    have w2 : IntKind.u64.wrap (z : Int) = (z : Int) := by rw [IntKind.wrap_u64]; omega
    have w3 : IntKind.u64.wrap (((y * 256 : Nat) : Int) + (z : Int)) = ((y * 256 + z : Nat) : Int) := by rw [IntKind.wrap_u64]; omega
    have i1 : IntKind.i64.wrap ((t : Int) * 4) = ((t * 4 : Nat) : Int) := by rw [i64_left, wrap64_in _ (by omega)]; omega
    have i2 : IntKind.i64.wrap ((ac : Int) + ((t * 4 : Nat) : Int)) = ((ac + t * 4 : Nat) : Int) := by rw [i64_left, wrap64_in _ (by omega)]; omega
    have i3 : IntKind.i64.wrap (((ac + t * 4 : Nat) : Int) + (k : Int)) = ((ac + t * 4 + k : Nat) : Int) := by rw [i64_left, wrap64_in _ (by omega)]; omega
    refine c_t 20 (by decide) (by kernel_rfl) (tail_ok (by kernel_rfl)) hQ ?_
    simp only [List.take_succ_cons, List.take_zero]
    -- walk bytes32
    refine f_move (.slice (some ⟨gx, 0, none⟩) 64 64) rfl rfl rfl rfl rfl ?_
    refine f_move (.int .i64 (t : Int)) rfl rfl rfl rfl rfl ?_
    refine f_move (.slice (some ⟨gx, 0, none⟩) 64 64) rfl rfl rfl rfl rfl ?_
    refine f_move (.int .i64 (t : Int)) rfl rfl rfl rfl rfl ?_
    refine f_idx0 gx 64 64 t (by omega) (by decide) rfl rfl rfl rfl rfl rfl ?_
    refine f_load ⟨gx, t, none⟩ (.int .u64 (y : Int)) (by decide) rfl rfl rfl rfl rfl (fun _ h => (h.cell hS.xx.lt).trans ct) ?_
    refine f_mulU (y : Int) (256 : Int) ((y * 256 : Nat) : Int) rfl rfl rfl rfl rfl rfl w1' ?_
    refine f_move (.slice (some ⟨gm, 0, none⟩) m.length cm) rfl rfl rfl rfl rfl ?_
    refine f_move (.int .i64 (ac : Int)) rfl rfl rfl rfl rfl ?_
    refine f_move (.int .i64 (t : Int)) rfl rfl rfl rfl rfl ?_
    refine f_move (.int .i64 4) rfl rfl rfl rfl rfl ?_
    refine f_mulI (t : Int) 4 ((t * 4 : Nat) : Int) rfl rfl rfl rfl rfl rfl i1 ?_
    refine f_addI (ac : Int) ((t * 4 : Nat) : Int) ((ac + t * 4 : Nat) : Int) rfl rfl rfl rfl rfl rfl i2 ?_
    refine f_move (.int .i64 (k : Int)) rfl rfl rfl rfl rfl ?_
    refine f_addI ((ac + t * 4 : Nat) : Int) (k : Int) ((ac + t * 4 + k : Nat) : Int) rfl rfl rfl rfl rfl rfl i3 ?_
    refine f_idx0 gm m.length cm (ac + t * 4 + k) (by omega) (by decide) rfl rfl rfl rfl rfl rfl ?_
    refine f_load ⟨gm, (ac + t * 4 + k), none⟩ (.int .u8 (z : Int)) (by decide) rfl rfl rfl rfl rfl (fun _ h => (h.cell hS.mm.lt).trans c0) ?_
    refine f_wordB (z : Int) (z : Int) rfl rfl rfl rfl rfl w2 ?_
    refine f_addU ((y * 256 : Nat) : Int) (z : Int) ((y * 256 + z : Nat) : Int) rfl rfl rfl rfl rfl rfl w3 ?_
    refine f_idx0 gx 64 64 t (by omega) (by decide) rfl rfl rfl rfl rfl rfl ?_
    -- end bytes32
    refine f_store ⟨gx, t, none⟩ ((y * 256 + z : Nat) : Int) _ (.inl ⟨rfl, rfl⟩) rfl rfl rfl rfl rfl ct cf hS.xx.lt fun w2 hw2 => ?_
    refine hK3 _ _ ?_
    refine c_qF ?_
    refine f_move (.int .i64 (k : Int)) rfl rfl rfl rfl rfl ?_
    refine f_addI (k : Int) 1 ((k + 1 : Nat) : Int) rfl rfl rfl rfl rfl rfl (by rw [i64_left, wrap64_in _ (by omega)]; omega) ?_
    refine f_assign (.int .i64 ((k + 1 : Nat) : Int)) rfl rfl rfl rfl rfl ?_
    refine f_end fun w3 hw3 => k_round (k + 1) ⟨rfl, rfl, rfl, rfl, rfl, rfl, rfl, rfl, rfl, rfl, trivial⟩ ⟨by omega, ?_⟩ (by omega)
    rw [hB]
    have hN := (hS.up hw2).setX t (y * 256 + z)
    rw [List.set_set] at hN
    exact hN.up hw3
  · refine f_lssI (k : Int) 4 false rfl rfl rfl rfl rfl rfl (decide_eq_false (by omega)) ?_
    refine f_end fun w1 hw1 => hK2 _ _ ?_
    refine c_cond false rfl ?_
    refine c_exit ?_
    refine k_exit (id := 10) (Q := Q) ?_
    obtain rfl : k = 4 := by omega
    exact k_sub (E' := FK32 m.length cm gm gn gh gx ac t 4) ⟨rfl, rfl, rfl, rfl, rfl, rfl, rfl, rfl, rfl, rfl, trivial⟩ (hend _ (hS.up hw1))

set_option maxRecDepth 100000 in
set_option maxHeartbeats 4000000 in
theorem words32 {w : World} (cm ac : Nat) (b : List UInt8) (F : Nat → Nat) (hF : ∀ t, t < 16 → F t = ben (fun k => (b[t * 4 + k]!).toNat) 4) (hm : ac + 64 ≤ m.length) (hmax : m.length ≤ 9223372036854775807) (hbm : ∀ j, j < 64 → b[j]! = m[ac + j]!)
    (h0 : DS32 W0 w gm gn gh gx m hl y64) (hQ : ∀ c a d v w, Q (.panic c) (a.put d v) w → Q (.panic c) a w)
    (hend : ∀ w', DS32 W0 w' gm gn gh gx m hl (mxl F y64 16) → kF (Q .normal) 359 (FT32 m.length cm gm gn gh gx ac 16) w') :
    cF Tryd.prog (.loop (dl 4)) (Exit.inBlock 8 Q) 359 (FT32 m.length cm gm gn gh gx ac 0) w := by
  refine c_loop (m := fun t : Nat => 16 - t) (F := FT32 m.length cm gm gn gh gx ac) (R := fun t w => t ≤ 16 ∧ DS32 W0 w gm gn gh gx m hl (mxl F y64 t)) ?_ 0 ⟨by omega, by rw [mxl_zero]; exact h0⟩
  rintro t w ⟨ht, hS⟩
  conv => arg 2; whnf
  refine c_seq fun K1 hK1 => ?_
  refine c_seq fun K2 hK2 => ?_
  refine c_qF ?_
  refine f_move (.int .i64 (t : Int)) rfl rfl rfl rfl rfl ?_
  by_cases htl : t < 16
  · refine f_lssI (t : Int) 16 true rfl rfl rfl rfl rfl rfl (decide_eq_true (by omega)) ?_
    refine f_end fun w1 hw1 => hK2 _ _ ?_
    refine c_cond true rfl ?_
    refine c_skip ?_
    refine hK1 _ _ ?_
    refine c_seq fun K3 hK3 => ?_
    refine c_block ?_
    refine c_seq fun K4 hK4 => ?_
    refine c_qF ?_
    refine f_assign (.int .i64 0) rfl rfl rfl rfl rfl ?_
    refine f_end fun w2 hw2 => ?_
    refine k_sub (E' := FK32 m.length cm gm gn gh gx ac t 0) ⟨rfl, rfl, rfl, rfl, rfl, rfl, rfl, rfl, rfl, rfl, trivial⟩ ?_
    refine hK4 _ _ ?_
    refine c_block ?_
    have hS := (hS.up hw1).up hw2
    refine bytes32 cm ac t (fun k => (b[t * 4 + k]!).toNat) (mxl F y64 t) (by rw [mxl_len, y64_len]) htl (fun j => UInt8.toNat_lt _) hm hmax (fun k hk => by rw [hbm _ (by omega), Nat.add_assoc]) (by rw [set_zero64]; exact hS) hQ fun w3 hS3 => ?_
    rw [← hF t htl, mxl_set] at hS3
    refine hK3 _ _ ?_
    refine c_qF ?_
    refine f_move (.int .i64 (t : Int)) rfl rfl rfl rfl rfl ?_
    refine f_addI (t : Int) 1 ((t + 1 : Nat) : Int) rfl rfl rfl rfl rfl rfl (by rw [i64_left, wrap64_in _ (by omega)]; omega) ?_
    refine f_assign (.int .i64 ((t + 1 : Nat) : Int)) rfl rfl rfl rfl rfl ?_
    exact f_end fun w4 hw4 => k_round (t + 1) ⟨rfl, rfl, rfl, rfl, rfl, rfl, rfl, rfl, rfl, trivial⟩ ⟨by omega, hS3.up hw4⟩ (by omega)
  · refine f_lssI (t : Int) 16 false rfl rfl rfl rfl rfl rfl (decide_eq_false (by omega)) ?_
    refine f_end fun w1 hw1 => hK2 _ _ ?_
    refine c_cond false rfl ?_
    refine c_exit ?_
    refine k_exit (id := 8) (Q := Q) ?_
    obtain rfl : t = 16 := by omega
    exact k_sub (E' := FT32 m.length cm gm gn gh gx ac 16) ⟨rfl, rfl, rfl, rfl, rfl, rfl, rfl, rfl, rfl, trivial⟩ (hend _ (hS.up hw1))
end
end Go.Proofs.YtlaikmpnijlcbaaDoor
/-
  THE DOCUMENT'S OWN DIGESTS: Digest with words of 32 bits: the sums at a block's end.
-/
namespace Go.Proofs.YtlaikmpnijlcbaaDoor
open Go.RowKit Go.IntWalk Nums

section
variable {W0 : World} {gm gn gh gx : Nat} {m : List UInt8} {Q : Exit → Act → World → Prop}
def FM32 (lm cm gm gn gh gx a gv cv i : Nat) : List (Nat × Value) := (318, .int .i64 (i : Int)) :: (317, .int .i64 8) :: (19, .slice (some ⟨gv, 0, none⟩) 8 cv) :: FB32 lm cm gm gn gh gx a
set_option maxRecDepth 100000 in
set_option maxHeartbeats 4000000 in
theorem sums32 {w : World} (lm cm ac gv cv' : Nat) (h v x : List Nat) (hl : h.length = 8) (vl : v.length = 8) (h0 : DS32 W0 w gm gn gh gx m h x) (hv0 : VL w gv (Us v)) (hne : gv ≠ gh) (hhb : ∀ i, i < 8 → h[i]! < 4294967296) (hvb : ∀ i, i < 8 → v[i]! < 4294967296) (hQ : ∀ c a d v w, Q (.panic c) (a.put d v) w → Q (.panic c) a w)
    (hend : ∀ w', DS32 W0 w' gm gn gh gx m (mxl (fun i => (h[i]! + v[i]!) % 4294967296) h 8) x → kF (Q .normal) 359 (FM32 lm cm gm gn gh gx ac gv cv' 8) w') :
    cF Tryd.prog (.loop (dl 8)) (Exit.inBlock 16 Q) 359 (FM32 lm cm gm gn gh gx ac gv cv' 0) w := by
  obtain ⟨G, hG⟩ : ∃ G : Nat → Nat, G = fun i => (h[i]! + v[i]!) % 4294967296 := ⟨_, rfl⟩
  rw [← hG] at hend
  refine c_loop (m := fun i : Nat => 8 - i) (F := FM32 lm cm gm gn gh gx ac gv cv') (R := fun i w => i ≤ 8 ∧ DS32 W0 w gm gn gh gx m (mxl G h i) x ∧ VL w gv (Us v)) ?_ 0 ⟨by omega, by rw [mxl_zero]; exact h0, hv0⟩
  rintro i w ⟨hi, hS, hv⟩
  conv => arg 2; whnf
  refine c_seq fun K1 hK1 => ?_
  refine c_qF ?_
  by_cases hil : i < 8
  · refine f_lssI (i : Int) 8 true rfl rfl rfl rfl rfl rfl (decide_eq_true (by omega)) ?_
    refine f_end fun w1 hw1 => hK1 _ _ ?_
    refine c_seq fun K2 hK2 => ?_
    refine c_cond true rfl ?_
    refine c_skip ?_
    refine hK2 _ _ ?_
    refine c_seq fun K3 hK3 => ?_
    refine c_block ?_
    refine c_seq fun K4 hK4 => ?_
    refine c_qF ?_
    refine f_move (.int .i64 (i : Int)) rfl rfl rfl rfl rfl ?_
    refine f_assign (.int .i64 (i : Int)) rfl rfl rfl rfl rfl ?_
    refine f_end fun w2 hw2 => hK4 _ _ ?_
    have hS := (hS.up hw1).up hw2
    have hv := (hv.up hw1).up hw2
    have hlm : (mxl G h i).length = 8 := by rw [mxl_len, hl]
    have ch := hS.hh.word (j := i) (by omega)
    have cf := hS.hh.free i (by rw [Us_len]; omega)
    rw [mxl_get G h (by omega)] at ch
    have cv := hv.word (j := i) (by omega)
    have hset := mxl_set G h (k := i)
    have e : G i = (h[i]! + v[i]!) % 4294967296 := by rw [hG]
    have p1 := hhb i hil
    have p2 := hvb i hil
    have RC := fun (x : Nat) w1 => rcut32_f x w1
    generalize h[i]! = y at *
    generalize v[i]! = z at *
    have w1' : IntKind.u64.wrap ((y : Int) + (z : Int)) = ((y + z : Nat) : Int) := by rw [IntKind.wrap_u64]; omega
    have RG := fun w1 => RC (y + z) w1
    rw [← e] at RG
    refine c_t 14 (by decide) (by kernel_rfl) (tail_ok (by kernel_rfl)) hQ ?_
    simp only [List.take_succ_cons, List.take_zero]
    -- walk sums32
    refine f_move (.slice (some ⟨gh, 0, none⟩) 8 8) rfl rfl rfl rfl rfl ?_
    refine f_move (.int .i64 (i : Int)) rfl rfl rfl rfl rfl ?_
    refine f_move (.slice (some ⟨gh, 0, none⟩) 8 8) rfl rfl rfl rfl rfl ?_
    refine f_move (.int .i64 (i : Int)) rfl rfl rfl rfl rfl ?_
    refine f_idx0 gh 8 8 i hil (by decide) rfl rfl rfl rfl rfl rfl ?_
    refine f_load ⟨gh, i, none⟩ (.int .u64 (y : Int)) (by decide) rfl rfl rfl rfl rfl (fun _ h => (h.cell hS.hh.lt).trans ch) ?_
    refine f_move (.slice (some ⟨gv, 0, none⟩) 8 cv') rfl rfl rfl rfl rfl ?_
    refine f_move (.int .i64 (i : Int)) rfl rfl rfl rfl rfl ?_
    refine f_idx0 gv 8 cv' i hil (by decide) rfl rfl rfl rfl rfl rfl ?_
    refine f_load ⟨gv, i, none⟩ (.int .u64 (z : Int)) (by decide) rfl rfl rfl rfl rfl (fun _ h => (h.cell hv.lt).trans cv) ?_
    refine f_addU (y : Int) (z : Int) ((y + z : Nat) : Int) rfl rfl rfl rfl rfl rfl w1' ?_
    refine f_move (.int .u64 32) rfl rfl rfl rfl rfl ?_
    refine f_call #[.int .u64 ((y + z : Nat) : Int), .int .u64 32] (.int .u64 ((G i : Nat) : Int)) rfl rfl rfl own_rcut (fun w _ => calls_still (RG w)) rfl rfl ?_
    refine f_idx0 gh 8 8 i hil (by decide) rfl rfl rfl rfl rfl rfl ?_
    -- end sums32
    refine f_store ⟨gh, i, none⟩ ((G i : Nat) : Int) _ (.inl ⟨rfl, rfl⟩) rfl rfl rfl rfl rfl ch cf hS.hh.lt fun w3 hw3 => ?_
    refine hK3 _ _ ?_
    refine c_qF ?_
    refine f_addI (i : Int) 1 ((i + 1 : Nat) : Int) rfl rfl rfl rfl rfl rfl (by rw [i64_left, wrap64_in _ (by omega)]; omega) ?_
    refine f_move (.int .i64 ((i + 1 : Nat) : Int)) rfl rfl rfl rfl rfl ?_
    refine f_end fun w4 hw4 => k_round (i + 1) ⟨rfl, rfl, rfl, rfl, rfl, rfl, rfl, rfl, rfl, rfl, rfl, trivial⟩ ⟨by omega, ?_, ((hv.up hw3).far hne _).up hw4⟩ (by omega)
    rw [← hset]
    exact ((hS.up hw3).setH i (G i)).up hw4
  · refine f_lssI (i : Int) 8 false rfl rfl rfl rfl rfl rfl (decide_eq_false (by omega)) ?_
    refine f_end fun w1 hw1 => hK1 _ _ ?_
    refine c_seq fun K2 hK2 => ?_
    refine c_cond false rfl ?_
    refine c_exit ?_
    refine k_exit (id := 16) (Q := Q) ?_
    obtain rfl : i = 8 := by omega
    exact k_sub (E' := FM32 lm cm gm gn gh gx ac gv cv' 8) ⟨rfl, rfl, rfl, rfl, rfl, rfl, rfl, rfl, rfl, rfl, rfl, trivial⟩ (hend _ (hS.up hw1))
end
end Go.Proofs.YtlaikmpnijlcbaaDoor
