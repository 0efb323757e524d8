/-
  SEVERAL TEXTS IN ONE: TrD.
-/
import Derived.Test.YtlaikmpnijlcbaaDoorMn
/-
  TREEDEEP: keys that part late.
-/
namespace Go.Proofs.YtlaikmpnijlcbaaDoor
open Go.RowKit Go.IntWalk Nums

/-! ### Plain -/
theorem flip_bits (a m : Nat) (ha : a < 256) (hm : m < 8) : ∃ y : UInt8, bits .xor .u8 (a : Int) ((128 / 2 ^ m : Nat) : Int) = (y.toNat : Int) ∧ ∀ j, j < 8 → ((j = m → y.toNat / 2 ^ (7 - j) % 2 ≠ a / 2 ^ (7 - j) % 2) ∧ (j ≠ m → y.toNat / 2 ^ (7 - j) % 2 = a / 2 ^ (7 - j) % 2)) := by
  have key : ((List.range 256).all fun a => (List.range 8).all fun m => decide (0 ≤ bits .xor .u8 (a : Int) ((128 / 2 ^ m : Nat) : Int)) && decide (bits .xor .u8 (a : Int) ((128 / 2 ^ m : Nat) : Int) < 256) && (List.range 8).all fun j => decide (j = m) != decide ((bits .xor .u8 (a : Int) ((128 / 2 ^ m : Nat) : Int)).toNat / 2 ^ (7 - j) % 2 = a / 2 ^ (7 - j) % 2)) = true := by decide +kernel
  have h := List.all_eq_true.1 (List.all_eq_true.1 key a (List.mem_range.2 ha)) m (List.mem_range.2 hm)
  simp only [Bool.and_eq_true, decide_eq_true_eq] at h
  obtain ⟨⟨h1, h2⟩, h3⟩ := h
  obtain ⟨y, hy⟩ := byte_z ⟨h1, h2⟩
  refine ⟨y, hy, fun j hj => ?_⟩
  have h4 := List.all_eq_true.1 h3 j (List.mem_range.2 hj)
  rw [hy] at h4
  have e0 : ((y.toNat : Int)).toNat = y.toNat := rfl
  rw [e0] at h4
  by_cases e : j = m
  · refine ⟨fun _ h5 => ?_, fun h5 => absurd e h5⟩
    simp [e] at h4
    rw [e] at h5
    exact h4 h5
  · refine ⟨fun h5 => absurd h5 e, fun _ => ?_⟩
    simp [e] at h4
    exact h4
theorem flip_key {k : List UInt8} {n : Nat} {y : UInt8} (hk : k.length = 32) (hn : n < 256) (hy : ∀ j, j < 8 → ((j = n % 8 → y.toNat / 2 ^ (7 - j) % 2 ≠ (k[n / 8]!).toNat / 2 ^ (7 - j) % 2) ∧ (j ≠ n % 8 → y.toNat / 2 ^ (7 - j) % 2 = (k[n / 8]!).toNat / 2 ^ (7 - j) % 2))) :
    (k.set (n / 8) y).length = 32 ∧ ShareT n k (k.set (n / 8) y) ∧ bitT k n ≠ bitT (k.set (n / 8) y) n := by
  have hat : ∀ i, (k.set (n / 8) y)[i]! = if n / 8 = i then y else k[i]! := fun i => by
    by_cases e : n / 8 = i
    · subst e
      rw [if_pos rfl, getElem!_pos _ _ (by rw [List.length_set]; omega), List.getElem_set_self]
    · rw [if_neg e]
      by_cases h : i < k.length
      · rw [getElem!_pos _ _ (by rw [List.length_set]; exact h), List.getElem_set_ne e, getElem!_pos k i h]
      · rw [getElem!_neg _ _ (by rw [List.length_set]; exact h), getElem!_neg k i h]
  refine ⟨by rw [List.length_set]; exact hk, fun i hi => ?_, ?_⟩
  · unfold bitT
    rw [hat]
    by_cases e : n / 8 = i / 8
    · rw [if_pos e, ← e]
      exact ((hy (i % 8) (Nat.mod_lt _ (by decide))).2 (by omega)).symm
    · rw [if_neg e]
  · unfold bitT
    rw [hat, if_pos rfl]
    exact fun h => (hy (n % 8) (Nat.mod_lt _ (by decide))).1 rfl h.symm
theorem two_put {p q : PairT} (h : p.1 ≠ q.1) : putT [p] q = [p, q] ∨ putT [p] q = [q, p] := by
  unfold putT
  split
  · exact .inl rfl
  · exact .inr rfl
theorem deep_plain {p q : PairT} {n : Nat} (hs : ShareT n p.1 q.1) (hd : bitT p.1 n ≠ bitT q.1 n) : (putT [p] q).length = 2 ∧ (∀ d, d < n → (bitT p.1 d = 0 → leftT d (putT [p] q) = putT [p] q) ∧ (bitT p.1 d ≠ 0 → rightT d (putT [p] q) = putT [p] q)) ∧ (leftT n (putT [p] q)).length = 1 ∧ (rightT n (putT [p] q)).length = 1 := by
  have hne : p.1 ≠ q.1 := fun e => hd (by rw [e])
  have h1 := bitT_lt p.1 n
  have h2 := bitT_lt q.1 n
  have hb : (bitT p.1 n = 0 ∧ bitT q.1 n = 1) ∨ (bitT p.1 n = 1 ∧ bitT q.1 n = 0) := by omega
  have hsd : ∀ d, d < n → bitT q.1 d = bitT p.1 d := fun d hd => (hs d hd).symm
  rcases two_put hne with e | e <;> rw [e] <;> refine ⟨rfl, fun d hd => ⟨fun h => ?_, fun h => ?_⟩, ?_, ?_⟩ <;> first | (rcases hb with ⟨b1, b2⟩ | ⟨b1, b2⟩ <;> simp [leftT, rightT, b1, b2]; done) | (simp [leftT, rightT, hsd d hd, h])
theorem own_tdeep : Own 6 := fun _ _ => by go_simp
theorem run_shr8u {N : Nat} {E : SE} {o : Oper} {x y : Operand} {t' : TypeId} {m n : Nat} (hn : n ≤ 8) (ho : o.op = .binOp .shr 5 x y t') (hx : evS E x = some (.v (.int .u8 (m : Int)))) (hy : evS E y = some (.v (.int .u64 (n : Int)))) :
    ∀ (G : Nat → Nat) (a : Act) (w : World), Fr N (denE G E) a → (execOp a.eval o).run Tryd.prog w = .ok (.value ((SV.v (.int .u8 ((m / 2 ^ n : Nat) : Int))).den G)) w := fun G a w ha => by
  have h1 : a.eval x = .int .u8 (m : Int) := ha.eval (evS_ok hx)
  have h2 : a.eval y = .int .u64 (n : Int) := ha.eval (evS_ok hy)
  have h3 : (n : Int) ≤ 8 := by omega
  unfold execOp
  simp only [ho, h1, h2]
  go_simp
  rfl
theorem wrapB3 (d : Nat) : IntKind.u8.wrap ((d : Int) + 1) = (((d + 1) % 256 : Nat) : Int) := by
  unfold IntKind.wrap
  simp [IntKind.bits, IntKind.signed]
/-- A tree of more than one pair is an inner node. -/
theorem TOk.two {r : Nat} {l : List PairT} {t : TA} (h : TOk r l t) (h2 : 2 ≤ l.length) : ∃ q g a b, r = q + 1 ∧ t = .node g a b ∧ TOk q (leftT (255 - q) l) a ∧ TOk q (rightT (255 - q) l) b := by
  cases t with
  | nil => rw [h.nil_inv] at h2; cases h2
  | leaf g h0 p => rw [h.leaf_inv] at h2; simp at h2
  | node g a b =>
    cases r with
    | zero => exact h.elim
    | succ q => exact ⟨q, g, a, b, rfl, rfl, h.2.1, h.2.2⟩
set_option maxRecDepth 100000 in
set_option maxHeartbeats 4000000 in
theorem tdeep_S {k : List UInt8} (hk : k.length = 32) (f : Int) : Spec 6 [(eY 32 k).den, .int .i64 f] [] Tsh (one (.v (.bool true))) := by
  refine spec_S [eY 32 k, .c (.v (.int .i64 f))] 71 Tryd.func6 rfl (by rw [Tryd.ntmps6]; rfl) (two_ok (eY_ok hk).1 trivial) fun b => ?_
  have hl1 := hhT_len 1
  have hl2 := hhT_len 2
  obtain ⟨k1, hk1⟩ : ∃ k, hhT 1 = k := ⟨_, rfl⟩
  obtain ⟨k2, hk2⟩ : ∃ k, hhT 2 = k := ⟨_, rfl⟩
  rw [hk1] at hl1
  rw [hk2] at hl2
  refine s_auto TY_ok rfl ?_
  refine s_seq fun K hK => ?_
  refine s_regA TY_ok rfl fun K1 hK1 => ?_
  refine l_call0 [] rfl rfl rfl own_tfirst rfl rfl (fun _ _ => rfl) tfirst_S (fun _ h _ => h) fun _ => ?_
  refine l_autoS TY_ok rfl ?_
  refine s_end (hK1 _ ?_)
  refine s_no rfl ?_
  refine s_skip (hK _ ?_)
  refine c_weak (e' := ⟨[(1, .v (.int .i64 f)), (2, .a 2 0)], [⟨2, none, 30, [.agg 32 (By k).toArray]⟩], [], Tsh, fun _ => True⟩) ⟨⟨rfl, rfl, trivial⟩, ⟨rfl, rfl, trivial⟩, .refl _, fun _ h _ => h.2, fun _ _ => trivial⟩ ?_
  obtain ⟨n, hn, -, hnw⟩ := wrapU_mod f 256 (by decide) (by decide)
  refine s_regA TY_ok rfl fun K2 hK2 => ?_
  refine l_num 5 (n : Int) rfl hnw ?_
  refine s_end (hK2 _ ?_)
  refine s_keep [2, 5] [2] rfl rfl ?_
  refine s_auto TY_ok rfl ?_
  refine s_regA TY_ok rfl fun K3 hK3 => ?_
  refine l_num 20 ((n / 8 : Nat) : Int) rfl (wrapQ n 8 (by omega)) ?_
  refine l_op (.a 6 (0 + 1 * (n / 8))) trivial rfl rfl rfl (runO_ixA (n / 8) rfl Tryd.underlying30 rfl rfl rfl (by omega)) ?_
  refine l_opV (.v (.int .u8 ((k[n / 8]!).toNat : Int))) trivial rfl rfl rfl (runO_ldA _ rfl rfl rfl (row_at (by omega)) Tryd.underlying5 rfl) ?_
  refine l_autoS TY_ok rfl ?_
  refine l_num 25 ((n % 8 : Nat) : Int) rfl (wrapU (by rw [Int.tmod_eq_emod_of_nonneg (by omega)]; omega) (by omega) (by omega)) ?_
  refine l_op (.v (.int .u8 ((128 / 2 ^ (n % 8) : Nat) : Int))) trivial rfl rfl rfl (run_shr8u (m := 128) (by omega) rfl rfl rfl) ?_
  obtain ⟨y, hy, hyb⟩ := flip_bits (k[n / 8]!).toNat (n % 8) (UInt8.toNat_lt _) (Nat.mod_lt _ (by decide))
  obtain ⟨hk', hsh, hdf⟩ := flip_key hk hn hyb
  refine l_op (.v (.int .u8 (bits .xor .u8 ((k[n / 8]!).toNat : Int) ((128 / 2 ^ (n % 8) : Nat) : Int)))) trivial rfl rfl rfl (run_xor rfl rfl rfl) ?_
  refine l_num 27 (y.toNat : Int) rfl hy ?_
  refine l_op (.a 6 (0 + 1 * (n / 8))) trivial rfl rfl rfl (runO_ixA (n / 8) rfl Tryd.underlying30 rfl rfl rfl (by omega)) ?_
  refine l_stA [.agg 32 (By (k.set (n / 8) y)).toArray] rfl rfl rfl rfl rfl rfl rfl rfl rfl (by show 0 + 1 * (n / 8) < (By k).toArray.size; rw [List.size_toArray, By_len]; omega) (eY_ok hk').1 (by
    show By (k.set (n / 8) y) = (By k).set (0 + 1 * (n / 8)) _
    rw [Nat.zero_add, Nat.one_mul]
    exact List.map_set) ?_
  refine s_end (hK3 _ ?_)
  clear hyb hy
  generalize k.set (n / 8) y = k' at *
  refine s_keep [2, 5, 6] [2, 6] rfl rfl ?_
  have hp1 : OkT2 (k, k1) := ⟨hk, hl1⟩
  have hp2 : OkT2 (k', k2) := ⟨hk', hl2⟩
  have hput1 := tPut0 (l := []) (t := .nil) hp1 (TOk.nil rfl) List.Pairwise.nil (fun _ h => by cases h) (by decide)
  have hput2 : ∀ t, TOk 256 (putT [] (k, k1)) t → _ := fun t ht => tPut0 (l := [(k, k1)]) (t := t) hp2 ht (List.pairwise_singleton _ _) (fun x hx => by rw [List.mem_singleton.1 hx]; exact hk) (by show 2 ≤ 1000000; decide)
  obtain ⟨hlen, hside, hone1, hone2⟩ := deep_plain (p := (k, k1)) (q := (k', k2)) hsh hdf
  refine s_locs fun G => ?_
  have hsub : ∀ u ∈ ([⟨6, some (G 6), 30, [.agg 32 (By k').toArray]⟩, ⟨2, some (G 2), 30, [.agg 32 (By k).toArray]⟩] : List LV), u ∈ withG G [⟨6, none, 30, [.agg 32 (By k').toArray]⟩, ⟨2, none, 30, [.agg 32 (By k).toArray]⟩] ∧ u.g.isSome = true := fun u hu => by
    rcases List.mem_cons.1 hu with rfl | hu
    · exact ⟨List.mem_cons_self, rfl⟩
    rw [List.mem_singleton.1 hu]
    exact ⟨List.mem_cons_of_mem _ List.mem_cons_self, rfl⟩
  refine s_seq fun K4 hK4 => ?_
  have hend : ∀ t, TOk 256 (putT [(k, k1)] (k', k2)) t → ∀ en, Weak en ⟨[(2, .a 2 0), (5, .v (.int .i64 (n : Int))), (7, .a 7 0)], [⟨7, none, 27, trPs t 0⟩, ⟨2, none, 30, [.agg 32 (By k).toArray]⟩], [], fun w => TF t w ∧ Tsh w, fun _ => True⟩ → kS b K4 71 en := by
    intro t ht en hw
    refine k_weak hw (hK4 _ ?_)
    refine s_seq fun K8 hK8 => ?_
    refine s_auto TY_ok rfl ?_
    refine s_block ?_
    let F : Nat × TA → Env := fun ⟨d, t⟩ => ⟨[(2, .a 2 0), (5, .v (.int .i64 (n : Int))), (7, .a 7 0), (8, .v (.int .i64 (d : Int)))], [⟨7, none, 27, trPs t d⟩, ⟨2, none, 30, [.agg 32 (By k).toArray]⟩], [], fun w => TF t w ∧ Tsh w, fun _ => True⟩
    refine c_weak (e' := F (0, t)) ⟨⟨rfl, rfl, rfl, rfl, trivial⟩, ⟨rfl, rfl, rfl, rfl, trivial⟩, .refl _, fun _ h _ => h, fun _ _ => trivial⟩ (s_loop (fun x => n + 1 - x.1) F (fun x => x.1 ≤ n ∧ TOk (256 - x.1) (putT [(k, k1)] (k', k2)) x.2) ?_ (0, t) ⟨Nat.zero_le _, ht⟩)
    clear hw ht
    rintro ⟨d, t⟩ ⟨hd, ht⟩
    dsimp only at hd ht
    generalize putT [(k, k1)] (k', k2) = l at *
    obtain ⟨q, g, x, z, hq, rfl, hx, hz⟩ := ht.two (by omega)
    have hq2 : 255 - q = d := by omega
    rw [hq2] at hx hz
    have hlt := ht.len
    refine s_seq fun K9 hK9 => ?_
    refine s_auto TY_ok rfl ?_
    refine s_ifD ((d : Int) ≤ (n : Int)) rfl (fun _ => ?_) (fun h => absurd (Int.ofNat_le.2 hd) h)
    refine s_skip (hK9 _ ?_)
    refine s_seq fun K10 hK10 => ?_
    refine s_block ?_
    refine s_regA TY_ok rfl fun K11 hK11 => ?_
    refine l_call0 [(eTr (.node g x z) d).den] rfl rfl rfl own_tSides rfl rfl (fun _ _ => rfl) (tSides_S (.node g x z) d ((d + 1) % 256) (wrapB3 d)) (fun _ h _ => h.1) fun _ => ?_
    refine l_autoS TY_ok rfl ?_
    refine s_end (hK11 _ ?_)
    refine s_seq fun K12 hK12 => ?_
    refine s_regA TY_ok rfl fun K13 hK13 => ?_
    refine l_call0 [(eTr (.node g x z) d).den] rfl rfl rfl own_tLen rfl rfl (fun _ _ => rfl) (tLen_S (.node g x z) d) (fun _ h _ => h.2.1) fun _ => ?_
    refine l_num 51 2 rfl (by rw [hlt, hlen]; rfl) ?_
    refine l_autoS TY_ok rfl ?_
    refine s_end (hK13 _ ?_)
    refine s_ifD ((2 : Int) ≠ 2) rfl (fun h => absurd rfl h) (fun _ => ?_)
    refine s_skip (hK12 _ ?_)
    refine s_seq fun K14 hK14 => ?_
    refine s_auto TY_ok rfl ?_
    refine s_ifD ((d : Int) = (n : Int)) rfl (fun he => ?_) (fun hne => ?_)
    · obtain rfl : d = n := by omega
      refine s_regA TY_ok rfl fun K15 hK15 => ?_
      refine l_call0 [(eTr x ((d + 1) % 256)).den] rfl rfl rfl own_tLen rfl rfl (fun _ _ => rfl) (tLen_S x _) (fun _ h _ => h.2.2.1.2.1) fun _ => ?_
      refine l_num 58 1 rfl (by rw [hx.len, hone1]; rfl) ?_
      refine l_autoS TY_ok rfl ?_
      refine l_is 59 true rfl (by simp) ?_
      refine l_is 60 true rfl (by simp) ?_
      refine l_autoS TY_ok rfl ?_
      refine l_call0 [(eTr z ((d + 1) % 256)).den] rfl rfl rfl own_tLen rfl rfl (fun _ _ => rfl) (tLen_S z _) (fun _ h _ => h.2.2.2.1.2.2) fun _ => ?_
      refine l_num 62 1 rfl (by rw [hz.len, hone2]; rfl) ?_
      refine l_autoS TY_ok rfl ?_
      refine s_end (hK15 _ ?_)
      exact s_ret (k_retD TY_ok () rfl (by decide) rfl rfl trivial rfl (fun _ _ _ => trivial) (fun _ _ => trivial))
    · have hdn : d < n := by omega
      have hm : (d + 1) % 256 = d + 1 := Nat.mod_eq_of_lt (by omega)
      rw [hm]
      refine s_skip (hK14 _ ?_)
      refine s_auto TY_ok rfl ?_
      refine s_regA TY_ok rfl fun K15 hK15 => ?_
      refine l_call0 [.agg (By k).toArray, .int .i64 (d : Int)] rfl rfl rfl own_rbit9 rfl rfl (fun _ _ => rfl) (rbit_S hk d (by omega)) (fun _ _ _ => trivial) fun _ => ?_
      refine l_autoS TY_ok rfl ?_
      refine s_end (hK15 _ ?_)
      have hb2 := bitT_lt k d
      refine s_ifD (((bitT k d : Nat) : Int) = 1) rfl (fun hb => ?_) (fun hb => ?_)
      · have hb : bitT k d ≠ 0 := by omega
        refine s_autoE TY_ok rfl ?_
        have e : TOk (256 - (d + 1)) l z := by
          have h0 := hz
          rw [(hside d hdn).2 hb] at h0
          rw [show 256 - (d + 1) = q by omega]
          exact h0
        exact hK10 _ (s_autoE TY_ok rfl (k_next (d + 1, z) ⟨hdn, e⟩ (by show n + 1 - (d + 1) < n + 1 - d; omega) ⟨⟨rfl, rfl, rfl, congrArg some (congrArg SV.v (congrArg (Value.int .i64) (wrapI rfl (by omega) (by omega)))), trivial⟩, ⟨rfl, rfl, rfl, rfl, trivial⟩, .refl _, fun _ h _ => ⟨h.2.2.2.1.2.2, h.2.2.2.2⟩, fun _ _ => trivial⟩))
      · have hb : bitT k d = 0 := by omega
        refine s_skip ?_
        have e : TOk (256 - (d + 1)) l x := by
          have h0 := hx
          rw [(hside d hdn).1 hb] at h0
          rw [show 256 - (d + 1) = q by omega]
          exact h0
        exact hK10 _ (s_autoE TY_ok rfl (k_next (d + 1, x) ⟨hdn, e⟩ (by show n + 1 - (d + 1) < n + 1 - d; omega) ⟨⟨rfl, rfl, rfl, congrArg some (congrArg SV.v (congrArg (Value.int .i64) (wrapI rfl (by omega) (by omega)))), trivial⟩, ⟨rfl, rfl, rfl, rfl, trivial⟩, .refl _, fun _ h _ => ⟨h.2.2.2.1.2.1, h.2.2.2.2⟩, fun _ _ => trivial⟩))
  refine s_anyP [0, 1, 2, 4, 5] 8 1 (InvL [⟨6, some (G 6), 30, [.agg 32 (By k').toArray]⟩, ⟨2, some (G 2), 30, [.agg 32 (By k).toArray]⟩]) (by kernel_rfl) rfl (inv_of hsub) ?_
  refine p_frontS TY_ok 0 (by kernel_rfl) rfl rfl rfl rfl rfl rfl (fun x hx => (hsub x hx).1) (fun _ h => h) ?_
  refine p_frontS TY_ok 1 (by kernel_rfl) rfl rfl rfl rfl rfl rfl (fun x hx => (hsub x hx).1) (fun _ h => h) ?_
  refine p_frontO (.q (eY 32 k1)) (eY_ok hl1).1 2 (by kernel_rfl) rfl rfl rfl rfl rfl (run_hh 1 hk1 rfl rfl) ?_
  refine p_frontS TY_ok 4 (by kernel_rfl) rfl rfl rfl rfl rfl rfl (fun x hx => (hsub x hx).1) (fun _ h => h) ?_
  refine p_frontO (.q (eY 32 k2)) (eY_ok hl2).1 5 (by kernel_rfl) rfl rfl rfl rfl rfl (run_hh 2 hk2 rfl rfl) ?_
  refine p_step2 3 7 (by kernel_rfl) rfl rfl (fun K5 hK5 => ?_) fun K5 hK5 => ?_
  · refine l_call0 [(eTr .nil 0).den, (eY 32 k).den, (eY 32 k1).den] rfl rfl rfl own_tPut rfl rfl (fun _ _ => rfl) hput1 (fun _ h _ => ⟨trivial, h⟩) fun x1 => ?_
    refine s_end (hK5 _ (inv_of hsub) ?_)
    refine p_step2 6 7 (by kernel_rfl) rfl rfl (fun K6 hK6 => ?_) fun K6 hK6 => ?_
    · refine l_call0 [(eTr x1.1 0).den, (eY 32 k').den, (eY 32 k2).den] rfl rfl rfl own_tPut rfl rfl (fun _ _ => rfl) (hput2 x1.1 x1.2) (fun _ h _ => ⟨h.1, h.2⟩) fun x2 => ?_
      refine s_end (hK6 _ (inv_of hsub) ?_)
      refine p_step 7 (by kernel_rfl) rfl fun K7 hK7 => ?_
      refine l_autoS TY_ok rfl ?_
      refine s_end (hK7 _ (inv_of fun x hx => ⟨List.mem_cons_of_mem _ (hsub x hx).1, (hsub x hx).2⟩) ?_)
      refine p_tail [8] (by kernel_rfl) rfl ?_
      refine l_autoS TY_ok rfl ?_
      exact s_end (k_noloc (hend x2.1 x2.2 _ ⟨⟨rfl, rfl, rfl, trivial⟩, ⟨rfl, rfl, rfl, rfl, trivial⟩, .refl _, fun _ h _ => ⟨h.1, h.2.2⟩, fun _ _ => trivial⟩))
    · refine l_autoS TY_ok rfl ?_
      refine s_end (hK6 _ (inv_of fun x hx => ⟨List.mem_cons_of_mem _ (hsub x hx).1, (hsub x hx).2⟩) ?_)
      refine p_step 6 (by kernel_rfl) rfl fun K7 hK7 => ?_
      refine l_call0 [(eTr x1.1 0).den, (eY 32 k').den, (eY 32 k2).den] rfl rfl rfl own_tPut rfl rfl (fun _ _ => rfl) (hput2 x1.1 x1.2) (fun _ h _ => ⟨h.1, h.2⟩) fun x2 => ?_
      refine s_end (hK7 _ (inv_of fun x hx => ⟨List.mem_cons_of_mem _ (hsub x hx).1, (hsub x hx).2⟩) ?_)
      refine p_tail [8] (by kernel_rfl) rfl ?_
      refine l_autoS TY_ok rfl ?_
      exact s_end (k_noloc (hend x2.1 x2.2 _ ⟨⟨rfl, rfl, rfl, trivial⟩, ⟨rfl, rfl, rfl, rfl, trivial⟩, .refl _, fun _ h _ => ⟨h.1, h.2.2⟩, fun _ _ => trivial⟩))
  · refine l_autoS TY_ok rfl ?_
    refine s_end (hK5 _ (inv_of fun x hx => ⟨List.mem_cons_of_mem _ (hsub x hx).1, (hsub x hx).2⟩) ?_)
    refine p_step 3 (by kernel_rfl) rfl fun K6 hK6 => ?_
    refine l_call0 [(eTr .nil 0).den, (eY 32 k).den, (eY 32 k1).den] rfl rfl rfl own_tPut rfl rfl (fun _ _ => rfl) hput1 (fun _ h _ => ⟨trivial, h⟩) fun x1 => ?_
    refine s_end (hK6 _ (inv_of fun x hx => ⟨List.mem_cons_of_mem _ (hsub x hx).1, (hsub x hx).2⟩) ?_)
    refine p_step 6 (by kernel_rfl) rfl fun K7 hK7 => ?_
    refine l_call0 [(eTr x1.1 0).den, (eY 32 k').den, (eY 32 k2).den] rfl rfl rfl own_tPut rfl rfl (fun _ _ => rfl) (hput2 x1.1 x1.2) (fun _ h _ => ⟨h.1, h.2⟩) fun x2 => ?_
    refine s_end (hK7 _ (inv_of fun x hx => ⟨List.mem_cons_of_mem _ (hsub x hx).1, (hsub x hx).2⟩) ?_)
    refine p_tail [8] (by kernel_rfl) rfl ?_
    refine l_autoS TY_ok rfl ?_
    exact s_end (k_noloc (hend x2.1 x2.2 _ ⟨⟨rfl, rfl, rfl, trivial⟩, ⟨rfl, rfl, rfl, rfl, trivial⟩, .refl _, fun _ h _ => ⟨h.1, h.2.2⟩, fun _ _ => trivial⟩))
end Go.Proofs.YtlaikmpnijlcbaaDoor
