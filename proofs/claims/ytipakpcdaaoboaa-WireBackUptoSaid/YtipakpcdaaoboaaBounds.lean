/-
  THE WALK OF WireBounds.
-/
import Derived.Test.YtipakpcdaaoboaaFirst
namespace Go.Proofs.Ytipakpcdaaoboaa
open Go.RowKit

theorem zeros_list (k : Nat) : (Builtin.zeroCells #[Value.int IntKind.u8 0] k).toList = By (List.replicate k 0) := by
  apply List.ext_getElem
  · simp [Builtin.zeroCells, By]
  · intro i h1 h2
    simp [Builtin.zeroCells, By, Nat.mod_one]

theorem SL.part {w : World} {g t lo hi c : Nat} {fr : Nat × Nat} {l : List UInt8} {cs : Array Value} {xs : List Value} (h : w.heap[g]? = some (.cells cs t fr)) (hcs : cs.toList = By l ++ xs) (h1 : lo ≤ g) (h2 : g < hi) (hc : l.length ≤ c) (hm : c ≤ 9223372036854775807) : SL w lo hi (some ⟨g, 0, none⟩) l c :=
  ⟨hc, hm, fun h => (by cases h), fun _ => ⟨_, rfl, h1, h2, fun j x hx => by
    have hadd : (⟨g, 0, none⟩ : Addr).add j = ⟨g, j, none⟩ := by unfold Addr.add; split <;> simp_all
    have hj : j < l.length := (List.getElem?_eq_some_iff.1 hx).1
    rw [hadd, cell_of_row w g j _ t fr h, ← Array.getElem?_toList, hcs, List.getElem?_append_left (by rw [By_len]; exact hj)]
    simp [By, hx]⟩⟩

/-- 'append(s, make([]byte, k)...)' where s is the call's own and full. -/
theorem run_append_zeros (w : World) (base g k : Nat) (ty : TypeId) (l : List UInt8) (hown : w.ownsRow base 5 1 (.slice (some ⟨g, 0, none⟩) l.length l.length) l.length (By l)) (hbase : base ≤ w.heap.size) (hk : l.length + k ≤ 140737488355328) :
    ∃ A c w', (Builtin.append_ #[24, 3] ty #[.slice (some ⟨g, 0, none⟩) l.length l.length, .int .i64 k]).run Try.prog w = .ok (.slice A (l.length + k) c) w' ∧ SL w' base w'.heap.size A (l ++ List.replicate k 0) c ∧ Below w.heap.size w w' := by
  obtain ⟨i, hi, hz, hs, hb⟩ := info_parts info5
  have hw : IntKind.i64.wrap (k : Int) = (k : Int) := by
    rw [IntKind.wrap_i64]
    omega
  have ha : ∀ (n : Int) (w : World), (asInt (.int .i64 n)).run Try.prog w = .ok n w := fun _ _ => rfl
  have h0 : ¬ ((k : Int) < 0) := by omega
  have h48 : ¬ (281474976710656 < (k : Int)) := by omega
  rcases Nat.eq_zero_or_pos k with rfl | hpos
  · refine ⟨some ⟨g, 0, none⟩, l.length, w, ?_, by simpa using SL.own hown, Below.refl _ _⟩
    simp [Builtin.append_, run_underlying Try.underlying24, run_underlying Try.underlying3, sizeOf, typeInfo, hi, hb, storeCells, ha, IntKind.wrap_i64]
  · refine ⟨some ⟨w.heap.size, 0, none⟩, grownCap w (l.length + k) l.length 5, w.drew.alloc (.cells ((By l).toArray ++ Builtin.zeroCells #[Value.int IntKind.u8 0] k ++ Builtin.zeroCells #[Value.int IntKind.u8 0] (grownCap w (l.length + k) l.length 5 - (l.length + k))) 5), ?_, ?_, ?_⟩
    · have hn : ¬ (l.length + k ≤ l.length) := by omega
      have h63 : ¬ (9223372036854775807 < ((l.length : Int) + (k : Int))) := by omega
      have hfit := growslice_fits (need := l.length + k) (old := l.length) (bytes := 1) (by omega) (by omega)
      have hfit' : ¬ (281474976710656 < Builtin.nextslicecap (l.length + k) l.length) := by omega
      have hfo := run_firstCells_some (P := Try.prog) w.drew 1 l.length ⟨g, 0, none⟩ l.length l.length (By l) (by rw [By_len, Nat.mul_one]) (by
        intro j u hu
        exact (SL.own hown).cells _ rfl j u hu)
      simp [Builtin.append_, run_underlying Try.underlying24, run_underlying Try.underlying3, sizeOf, typeInfo, zeroValue, hi, hs, hb, hz, hw, h0, h48, hn, h63, hfit', Question.forced, hfo, newRow, grownCap, Value.cells, ha]
      intro h
      omega
    · have hge := grownCap_ge w (l.length + k) l.length 5
      have hle := grownCap_le_maxLen w (l.length + k) l.length 5 (by unfold maxLen; omega)
      refine SL.part (t := 5) (fr := (0, 0)) (xs := (Builtin.zeroCells #[Value.int IntKind.u8 0] (grownCap w (l.length + k) l.length 5 - (l.length + k))).toList) (heap_alloc_new w.drew _) ?_ hbase (by simp) (by simpa using hge) (by unfold maxLen at hle; omega)
      simp only [Array.toList_append, zeros_list, By_app, List.append_assoc]
    · exact (Below.refl _ _).drew.alloc (by simp) _

theorem wpList_append_zeros {ops : Array Oper} {rest : List Oper} {o : Oper} {a : Act} {Q : Exit → Act → World → Prop} (w : World) (hgd : o.guard = none) (s x : Operand)
    (ho : o.op = .call { callee := .builtin .append, args := #[s, x], argTypes := #[24, 3] })
    (base g k : Nat) (l : List UInt8) (hs : a.eval s = .slice (some ⟨g, 0, none⟩) l.length l.length) (hx : a.eval x = .int .i64 k)
    (hown : w.ownsRow base 5 1 (.slice (some ⟨g, 0, none⟩) l.length l.length) l.length (By l)) (hbase : base ≤ w.heap.size) (hk : l.length + k ≤ 140737488355328)
    (h : ∀ A c w', SL w' base w'.heap.size A (l ++ List.replicate k 0) c → Below w.heap.size w w' → wpList Try.prog ops Q rest (a.put o.dst (.slice A (l.length + k) c)) w') : wpList Try.prog ops Q (o :: rest) a w :=
  wpList_plain hgd fun _ hK => by
    obtain ⟨A, c, w', hr, h2, h3⟩ := run_append_zeros w base g k o.type l hown hbase hk
    unfold Oper.wp execOp
    simp only [ho, resolve, invoke, builtin, Sem.run_bind, Sem.run_pure, Result.andThen_ok, List.map_toArray, List.map_cons, List.map_nil, hs, hx, hr]
    exact hK _ _ (h A c w' h2 h3)

/-- uint(there) % 40. -/
def kof (t : Int) : Nat := (t % 18446744073709551616 % 40).toNat
theorem kof_lt (t : Int) : kof t < 40 := by unfold kof; omega

theorem kof_eq (t : Int) : wrap64 ((IntKind.u64.wrap t).tmod 40) = (kof t : Int) := by
  have e : IntKind.u64.wrap t = t % 18446744073709551616 := by simp [IntKind.wrap, IntKind.bits, IntKind.signed]
  have h0 : 0 ≤ t % 18446744073709551616 := by omega
  rw [e, Int.tmod_eq_emod_of_nonneg h0]
  unfold kof
  rw [IntWalk.wrap64_in _ ⟨by omega, by omega⟩]
  omega

/-- What the calls answer, case by case. -/
def Cases (n k m cv dR dS : Nat) : Prop :=
  (1048576 < n ∧ m = 0 ∧ dR = 12 ∧ cv = 0 ∧ dS = 12) ∨ (65536 < n ∧ n ≤ 1048576 ∧ k < n ∧ m = 0 ∧ dR = 10 ∧ cv = 0 ∧ dS = 12) ∨
  (n ≤ 65536 ∧ k < n ∧ m = 0 ∧ dR = 10 ∧ cv = n ∧ dS = 0) ∨ (n < k ∧ m = n ∧ dR = 11 ∧ cv = n ∧ dS = 0) ∨ (n = k ∧ m = n ∧ dR = 0 ∧ cv = n ∧ dS = 0)

theorem num_be8 (n : Nat) (l : List UInt8) (hn : n < 18446744073709551616) : num (be8 n ++ l) 0 = (n, l, 0) := by
  have h1 : tk (be8 n ++ l) 0 8 = (be8 n, l, 0) := by
    rw [tk_ok (by simp [be8_len])]
    rw [List.take_left' (be8_len n), List.drop_left' (be8_len n)]
  unfold num
  rw [h1, val_be8 n hn]

theorem cases_of (n k : Nat) (hn : n < 18446744073709551616) (hk : k < 40) : Cases n k (byts (be8 n ++ List.replicate k 0) 0).1.length (most (be8 n) 0 65536).1
    (don (byts (be8 n ++ List.replicate k 0) 0).2.1 (byts (be8 n ++ List.replicate k 0) 0).2.2) (don (most (be8 n) 0 65536).2.1 (most (be8 n) 0 65536).2.2) := by
  have h1 := num_be8 n (List.replicate k 0) hn
  have h2 := num_be8 n [] hn
  rw [List.append_nil] at h2
  unfold Cases
  by_cases c1 : 1048576 < n
  · have e1 : most (be8 n ++ List.replicate k 0) 0 1048576 = (0, List.replicate k 0, 12) := by unfold most; rw [h1, if_pos c1]
    have e2 : most (be8 n) 0 65536 = (0, [], 12) := by unfold most; rw [h2, if_pos (show 65536 < n by omega)]
    have e3 : byts (be8 n ++ List.replicate k 0) 0 = ([], List.replicate k 0, 12) := by unfold byts; rw [e1]; exact tk_fail (f := 12) (by omega)
    rw [e2, e3]
    exact .inl ⟨c1, rfl, rfl, rfl, rfl⟩
  · have e1 : most (be8 n ++ List.replicate k 0) 0 1048576 = (n, List.replicate k 0, 0) := by unfold most; rw [h1, if_neg c1]
    by_cases c2 : k < n
    · have e3 : byts (be8 n ++ List.replicate k 0) 0 = ([], List.replicate k 0, 10) := by unfold byts; rw [e1]; exact tk_short (by simpa using c2)
      by_cases c3 : 65536 < n
      · have e2 : most (be8 n) 0 65536 = (0, [], 12) := by unfold most; rw [h2, if_pos c3]
        rw [e2, e3]
        exact .inr (.inl ⟨c3, by omega, c2, rfl, rfl, rfl, rfl⟩)
      · have e2 : most (be8 n) 0 65536 = (n, [], 0) := by unfold most; rw [h2, if_neg c3]
        rw [e2, e3]
        exact .inr (.inr (.inl ⟨by omega, c2, rfl, rfl, rfl, rfl⟩))
    · have e2 : most (be8 n) 0 65536 = (n, [], 0) := by unfold most; rw [h2, if_neg (show ¬ 65536 < n by omega)]
      have e3 : byts (be8 n ++ List.replicate k 0) 0 = (List.replicate n 0, List.replicate (k - n) 0, 0) := by
        unfold byts
        rw [e1, tk_ok (by simp; omega)]
        simp
        omega
      rw [e2, e3]
      by_cases c4 : n = k
      · subst c4
        exact .inr (.inr (.inr (.inr ⟨rfl, by simp, by simp [don], rfl, rfl⟩)))
      · refine .inr (.inr (.inr (.inl ⟨by omega, by simp, ?_, rfl, rfl⟩)))
        simp only [don, if_pos, List.length_replicate]
        rw [if_neg (by omega)]

set_option maxHeartbeats 400000 in
theorem bounds_walk (n : Nat) (t : Int) (w : World) (hn : n < 18446744073709551616) :
    Calls Try.prog 7 #[.int .u64 n, .int .i64 t] w fun e w' => e = .returned (.bool true) ∧ Below w.heap.size w w' := by
  go_enter Try.func7, Try.ntmps7
  go_wp2_with (fail)
  refine (first_any w).mono ?_
  rintro e w0 ⟨rfl, hb0⟩
  go_wp2_with (fail)
  rw [kof_eq t]
  have hk := kof_lt t
  generalize kof t = k at *
  refine (number_any none [] 0 n 0 w0 (SL.nil _ _ _) (Nat.zero_le _) hn (by simp)).mono ?_
  rintro e w1 ⟨g1, rfl, ho1, hb1⟩
  rw [List.nil_append] at ho1 ⊢
  have hbw1 := hb0.trans (hb1.mono hb0.size)
  have hz1 := hb1.size
  clear hb1 hb0
  go_wp2_with (at_builtin; refine wpList_append_zeros _ rfl (.tmp 20) (.tmp 21) rfl w0.heap.size g1 k (be8 n) rfl rfl ho1 hz1 (by rw [be8_len]; omega) ?_; intro A2 c2 w2 hs2 hb2)
  have hbw2 := hbw1.trans (hb2.mono hbw1.size)
  have hN := new_any A2 (be8 n ++ List.replicate k 0) c2 w2.heap.size w2 (hs2.more (Nat.zero_le _) (Nat.le_refl _)) (Nat.le_refl _) (by simp [be8_len]; omega)
  rw [List.length_append, List.length_replicate] at hN
  have HN := Lib.hid hN
  clear hN ho1 hs2 hb2 hbw1
  refine HN.out.mono ?_
  rintro e w3 ⟨r, rfl, hr3, hrw, hb3⟩
  have hbw3 := hbw2.trans (hb3.mono hbw2.size)
  have hwr : w.heap.size ≤ r := Nat.le_trans hbw2.size hrw
  clear hb3 hbw2 hz1
  go_wp2_with (fail)
  refine (number_any none [] 0 n 0 w3 (SL.nil _ _ _) (Nat.zero_le _) hn (by simp)).mono ?_
  rintro e w4 ⟨g4, rfl, ho4, hb4⟩
  rw [List.nil_append] at ho4 ⊢
  have hr4 := hr3.below hb4 hr3.lt
  have hbw4 := hbw3.trans (hb4.mono hbw3.size)
  have hlt4 := hr4.lt
  have hN2 := new_any (some ⟨g4, 0, none⟩) (be8 n) (be8 n).length w4.heap.size w4 ((SL.own ho4).more (Nat.zero_le _) (Nat.le_refl _)) (Nat.le_refl _) (by simp [be8_len])
  have HN2 := Lib.hid hN2
  clear hN2 ho4 hb4 hr3 hbw3 HN
  go_wp2_with (fail)
  refine HN2.out.mono ?_
  rintro e w5 ⟨s, rfl, hs5, hsw, hb5⟩
  have hr5 := hr4.below hb5 hlt4
  have hbw5 := hbw4.trans (hb5.mono hbw4.size)
  have hws : w.heap.size ≤ s := Nat.le_trans hbw4.size hsw
  clear hb5 hr4 hbw4 HN2
  have hC := rbytes_any _ r _ 0 w5 hr5
  have HC := Lib.hid hC
  clear hC
  go_wp2_with (fail)
  refine HC.out.mono ?_
  rintro e w6 ⟨g6, rfl, hx6, hr6, hg6⟩
  have hs6 := hs5.grown hg6 (by omega) hsw
  have hbw6 := below_only hbw5 hg6 hbw5.size hwr
  have hC2 := count_any _ s _ 0 w6 hs6
  have HC2 := Lib.hid hC2
  clear hC2 HC hs5 hr5 hbw5 hg6 hx6
  go_wp2_with (fail)
  refine HC2.out.mono ?_
  rintro e w7 ⟨rfl, hs7, hg7⟩
  have hr7 := hr6.grown hg7 (by omega) (by omega)
  have hbw7 := below_only hbw6 hg7 hbw6.size hws
  have hD1 := done_any _ r _ _ w7 hr7
  have hD2 := done_any _ s _ _ w7 hs7
  have hc := cases_of n k hn hk
  clear hr7 hs7 hr6 hs6 HC2 hg7 hbw6
  generalize (byts (be8 n ++ List.replicate k 0) 0).1.length = m at *
  generalize (most (be8 n) 0 65536).1 = cv at *
  generalize don (byts (be8 n ++ List.replicate k 0) 0).2.1 (byts (be8 n ++ List.replicate k 0) 0).2.2 = dR at *
  generalize don (most (be8 n) 0 65536).2.1 (most (be8 n) 0 65536).2.2 = dS at *
  have HD1 := Lib.hid hD1
  have HD2 := Lib.hid hD2
  clear hD1 hD2
  unfold Cases at hc
  rcases hc with ⟨c1, rfl, rfl, rfl, rfl⟩ | ⟨c1, c3, c4, rfl, rfl, rfl, rfl⟩ | ⟨c1, c3, rfl, rfl, rfl, rfl⟩ | ⟨c1, rfl, rfl, rfl, rfl⟩ | ⟨rfl, rfl, rfl, rfl, rfl⟩
  all_goals
    go_wp2_with (fail)
    refine HD1.out.mono ?_
    rintro e w8 ⟨rfl, rfl⟩
    go_wp2_with (fail)
    all_goals
      refine HD2.out.mono ?_
      rintro e w9 ⟨rfl, rfl⟩
      go_wp2
      go_ret
      exact ⟨rfl, hbw7⟩

end Go.Proofs.Ytipakpcdaaoboaa
