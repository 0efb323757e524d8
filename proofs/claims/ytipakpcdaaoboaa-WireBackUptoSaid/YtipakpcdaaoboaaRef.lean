/-
  THE CONTRACTS OF THE DOCUMENT'S OWN WRITER (witanref01.Number, Bytes) AND OF fixed.
-/
import Derived.Test.YtipakpcdaaoboaaHash
import Derived.Maps.AppendAt
namespace Go.Proofs.Ytipakpcdaaoboaa
open Go.RowKit

set_option maxHeartbeats 400000 in
theorem refnum_any (v : Nat) (w : World) (hv : v < 18446744073709551616) :
    Calls Try.prog 10 #[.int .u64 v] w (Made w (be8 v)) := by
  obtain ⟨i0, hi0, hz0, hz1, hz2⟩ := info_parts info5
  go_enter Try.func10, Try.ntmps10
  go_wp2_with (at_make; refine wpList_make_full _ rfl _ _ 24 rfl w.heap.size 5 i0 _ 1 Try.underlying24 hi0 hz0 hz1 .i64 .i64 _ _ 8 rfl rfl rfl rfl (by rw [hz2]; omega) (by unfold maxLen; omega) (Nat.le_refl _) ?_; intro w1 hown1 hg1)
  have hb1 : Below w.heap.size w w1 := (Below.refl _ _).grown hg1 (Nat.le_refl _) (by simp)
  have e0 : (madeCells (Value.int IntKind.u8 0).cells (8 * 1)).toList = (row 0 v).toList := by
    show (madeCells #[Value.int IntKind.u8 0] 8).toList = _
    rw [toList_madeCells_one]
    rfl
  rw [e0] at hown1
  clear hg1 e0
  go_loopw [0, 4] (fun q i wr => ∃ (k x : Nat), k ≤ 8 ∧ x = v / 256 ^ k ∧ i = .int .i64 (7 - (k : Int)) ∧ q = .int .u64 (x : Int) ∧ wr.ownsRow w.heap.size 5 1 (.slice (some ⟨w.heap.size, 0, none⟩) 8 8) 8 (row k v).toList ∧ Below w.heap.size w wr) (fun _ i _ => (intOf i + 1).toNat)
  case atStart => exact ⟨0, v, by omega, by simp, rfl, rfl, hown1, hb1⟩
  case round =>
    obtain ⟨k, x, hk, hxe, rfl, rfl, hown, hb⟩ := hrel
    by_cases hlt : k < 8
    · have hq : x < 18446744073709551616 := by rw [hxe]; exact Nat.lt_of_le_of_lt (Nat.div_le_self _ _) hv
      obtain ⟨u, hu⟩ := row_at k v hlt
      have hc := (hown.cellAt (7 - k) (by omega)).trans (by simpa using hu)
      have hf := hown.frozenAt (7 - k)
      have hs := (hown.stored (7 - k) (Value.int IntKind.u8 ((x : Int) % 256))).1
      have HX := Lib.hid hxe
      have HS := Lib.hid hs
      clear hu hxe hs
      go_wp2
      go_roundw
      case rel =>
        refine ⟨k + 1, x / 256, by omega, by rw [HX.out, pow_next], by rw [Int.natCast_add]; congr 1; omega, by go_num, ?_, hb.setCell (Nat.le_refl _) _⟩
        have e := row_next k v hlt
        rw [← HX.out] at e
        rw [← e, Array.toList_setIfInBounds]
        exact HS.out
      case measure => simp [intOf]; omega
    · obtain rfl : k = 8 := by omega
      go_wp2
      go_ret
      exact ⟨w.heap.size, rfl, hown, hb⟩

/-- Bytes of the call's own, whatever their capacity. -/
def OW (w : World) (base : Nat) (A : Option Addr) (l : List UInt8) (c : Nat) : Prop := w.ownsRow base 5 1 (.slice A l.length c) l.length (By l)

theorem OW.sl {w : World} {base c : Nat} {A : Option Addr} {l : List UInt8} (h : OW w base A l c) : SL w base w.heap.size A l c := by
  rcases h.2 with ⟨h0, hn⟩ | ⟨g, cap, cur, hv, hg, hh, hn, hcap, _⟩
  · injection h0 with h1 h2 h3
    subst h1
    subst h3
    obtain rfl : l = [] := List.eq_nil_of_length_eq_zero hn
    exact SL.nil _ _ _
  · injection hv with hA hn' hc
    subst hA
    subst hc
    exact SL.own h

theorem OW.nil (w : World) (base : Nat) : OW w base none [] 0 := World.ownsRow_nil _ _ _ _

theorem run_append_sl (w : World) (base lo hi c d : Nat) (ty : TypeId) (A X : Option Addr) (l x : List UInt8) (hown : OW w base A l c) (hx : SL w lo hi X x d) (hbytes : l.length + x.length ≤ 140737488355328) (hbase : base ≤ w.heap.size) :
    ∃ A' c' w', (Builtin.append_ #[24, 24] ty #[.slice A l.length c, .slice X x.length d]).run Try.prog w = .ok (.slice A' (l ++ x).length c') w' ∧ OW w' base A' (l ++ x) c' ∧ w.grownBy w' (A.map (·.block)) ∧
      (A'.map (·.block) = A.map (·.block) ∨ A'.map (·.block) = some w.heap.size) := by
  obtain ⟨i, hi0, hz, hs, hb⟩ := info_parts info5
  have hob : ∀ (B : Option Addr) (n m : Nat), (Value.slice B n m).ownBlock = B.map (·.block) := fun B n m => by cases B <;> rfl
  cases X with
  | none =>
    obtain ⟨h1, h2⟩ := hx.none_ rfl
    obtain rfl : x = [] := List.eq_nil_of_length_eq_zero h1
    subst h2
    have hr := run_append_owned_none (P := Try.prog) w base 24 ty 5 i 1 Try.underlying24 hi0 _ l.length (By l) hown
    refine ⟨A, c, w, ?_, by simpa using hown, World.grownBy.refl _ _, .inl rfl⟩
    simpa using hr
  | some ad =>
    obtain ⟨v', w', hr, ho, hg, _, hat⟩ := run_append_own_at (P := Try.prog) w base 24 ty 5 i (.int .u8 0) 1 1 Try.underlying24 hi0 hz hs hb rfl (by omega) _ l.length (By l) hown ad x.length d (By x) (by rw [By_len, Nat.mul_one]) (hx.cells ad rfl) (By_one _) (by unfold maxLen; omega) (by omega) hbase
    rw [← By_app, ← List.length_append] at ho
    obtain ⟨A', c', rfl⟩ : ∃ A' c', v' = .slice A' (l ++ x).length c' := by
      rcases ho.2 with ⟨h0, hn⟩ | ⟨g, cap, cur, hv, _⟩
      · exact ⟨none, 0, by rw [h0, hn]⟩
      · exact ⟨_, _, hv⟩
    rw [hob] at hg hat
    rw [hob] at hat
    exact ⟨A', c', w', hr, ho, hg, hat⟩

theorem wpList_append_sl {ops : Array Oper} {rest : List Oper} {o : Oper} {a : Act} {Q : Exit → Act → World → Prop} (w : World) (hgd : o.guard = none) (s y : Operand)
    (ho : o.op = .call { callee := .builtin .append, args := #[s, y], argTypes := #[24, 24] })
    (base lo hi c d : Nat) (A X : Option Addr) (l x : List UInt8) (hs : a.eval s = .slice A l.length c) (hy : a.eval y = .slice X x.length d) (hown : OW w base A l c) (hx : SL w lo hi X x d) (hbytes : l.length + x.length ≤ 140737488355328) (hbase : base ≤ w.heap.size)
    (h : ∀ A' c' w', OW w' base A' (l ++ x) c' → w.grownBy w' (A.map (·.block)) → (A'.map (·.block) = A.map (·.block) ∨ A'.map (·.block) = some w.heap.size) → wpList Try.prog ops Q rest (a.put o.dst (.slice A' (l ++ x).length c')) w') : wpList Try.prog ops Q (o :: rest) a w :=
  wpList_plain hgd fun _ hK => by
    obtain ⟨A', c', w', hr, h2, h3, h4⟩ := run_append_sl w base lo hi c d o.type A X l x hown hx hbytes hbase
    unfold Oper.wp execOp
    simp only [ho, resolve, invoke, builtin, Sem.run_bind, Sem.run_pure, Result.andThen_ok, List.map_toArray, List.map_cons, List.map_nil, hs, hy, hr]
    exact hK _ _ (h A' c' w' h2 h3 h4)

/-- What a call that makes bytes of some capacity ends in. -/
def MadeC (w : World) (l : List UInt8) (e : Ending) (w' : World) : Prop :=
  ∃ A c, e = .returned (.slice A l.length c) ∧ OW w' w.heap.size A l c ∧ Below w.heap.size w w'

set_option maxHeartbeats 400000 in
theorem refbytes_any (X : Option Addr) (x : List UInt8) (d hi : Nat) (w : World) (hx : SL w 0 hi X x d) (hhi : hi ≤ w.heap.size) (hl : x.length ≤ 70368744177664) :
    Calls Try.prog 12 #[.slice X x.length d] w (MadeC w (be8 x.length ++ x)) := by
  have hxl : x.length < 18446744073709551616 := by omega
  go_enter Try.func12, Try.ntmps12
  go_wp2_with (fail)
  refine (refnum_any x.length w hxl).mono ?_
  rintro e w1 ⟨g, rfl, ho, hb1⟩
  have hx1 := hx.below hb1 hhi
  have hz1 := hb1.size
  go_wp2_with (at_builtin; refine wpList_append_sl _ rfl (.tmp 6) (.tmp 7) rfl w.heap.size 0 hi _ d (some ⟨g, 0, none⟩) X (be8 x.length) x rfl rfl ho hx1 (by rw [be8_len]; omega) hz1 ?_; intro A' c' w2 hown2 hg2 hat2)
  go_ret
  have hgb : w.heap.size ≤ g := by
    rcases ho.2 with ⟨h0, _⟩ | ⟨g', cap, cur, hv, hg, _⟩
    · cases h0
    · injection hv with hA _ _
      injection hA with hA
      injection hA with hA
      omega
  exact ⟨A', c', by rw [List.length_append]; rfl, hown2, hb1.grown hg2 hb1.size (fun k hk => by simp at hk; omega)⟩

theorem own_blk {w : World} {base g : Nat} {l : List UInt8} (h : w.ownsRow base 5 1 (.slice (some ⟨g, 0, none⟩) l.length l.length) l.length (By l)) : Blk w g 5 (By l).toArray ∧ base ≤ g := by
  rcases h.2 with ⟨h0, _⟩ | ⟨g', cap, cur, hv, hg, hh, hn, hcap, hsz, htake⟩
  · cases h0
  · injection hv with hA _ hc
    injection hA with hA
    injection hA with hA
    subst hA
    subst hc
    have e : cur = (By l).toArray := by
      apply Array.toList_inj.1
      rw [List.take_of_length_le (by simp at hsz ⊢; omega)] at htake
      simpa using htake
    rw [e] at hh
    exact ⟨hh, hg⟩

theorem fixed_row {w : World} {base g n : Nat} {xs : List Value} (e : xs = By (List.replicate n 0)) (h : w.ownsRow base 5 1 (.slice (some ⟨g, 0, none⟩) n n) n xs) : w.heap[g]? = some (.cells (By (List.replicate n 0)).toArray 5 (0, 0)) := by
  subst e
  have hl : (List.replicate n (0 : UInt8)).length = n := List.length_replicate
  have h' : w.ownsRow base 5 1 (.slice (some ⟨g, 0, none⟩) (List.replicate n (0 : UInt8)).length (List.replicate n (0 : UInt8)).length) (List.replicate n (0 : UInt8)).length (By (List.replicate n 0)) := by rw [hl]; exact h
  exact (own_blk h').1

theorem fixed_src {w : World} {lo hi c n : Nat} {A : Option Addr} {l : List UInt8} (h : SL w lo hi A l c) (hp : 0 < (By (l.take n)).length) : ∃ ad, A = some ad ∧ ∀ j v, (By (l.take n))[j]? = some v → w.cell? (ad.add j) = some v := by
  rw [By_len] at hp
  obtain ⟨ad, hA, _⟩ := (h.take n).2.2.2 hp
  exact ⟨ad, hA, (h.take n).cells ad hA⟩

theorem own_of {w : World} {base g : Nat} {l : List UInt8} (h : w.heap[g]? = some (.cells (By l).toArray 5 (0, 0))) (hb : base ≤ g) (hm : l.length ≤ maxLen) : w.ownsRow base 5 1 (.slice (some ⟨g, 0, none⟩) l.length l.length) l.length (By l) :=
  ⟨by rw [By_len, Nat.mul_one], .inr ⟨g, l.length, _, rfl, hb, h, Nat.le_refl _, hm, by rw [List.size_toArray, By_len, Nat.mul_one], by rw [Nat.mul_one, List.take_of_length_le (by simp [By_len])]⟩⟩

set_option maxHeartbeats 400000 in
theorem fixed_any (K : Int) (N n : Nat) (B : Option Addr) (l : List UInt8) (c hi : Nat) (w : World) (h : SL w 0 hi B l c) (hhi : hi ≤ w.heap.size) (hn : n ≤ 64) :
    Calls Try.prog 14 #[.agg #[.int .i64 K, .int .u64 N, .slice B l.length c], .int .i64 n] w (Made w (pad n (l.take n))) := by
  obtain ⟨i0, hi0, hz0, hz1, hz2⟩ := info_parts info5
  have l1 := h.1
  have l2 := h.2.1
  go_enter Try.func14, Try.ntmps14
  have hm : (madeCells (Value.int IntKind.u8 0).cells (n * 1)).toList = By (List.replicate n 0) := by
    show (madeCells #[Value.int IntKind.u8 0] (n * 1)).toList = _
    rw [toList_madeCells_one, Nat.mul_one]
    simp [By]
  have HM := Lib.hid hm
  clear hm
  have hpl : (By (l.take n)).length = Nat.min l.length n := by rw [By_len, List.length_take]; exact Nat.min_comm _ _
  have HP := Lib.hid hpl
  clear hpl
  go_wp2_with (first
    | (at_make; refine wpList_make_full _ rfl _ _ 24 rfl w.heap.size 5 i0 _ 1 Try.underlying24 hi0 hz0 hz1 .i64 .i64 _ _ n rfl rfl rfl rfl (by rw [hz2]; omega) (by unfold maxLen; omega) (by simp) ?_; intro w1 hown1 hg1; have hbx := (Blk.new w 27 #[Value.int IntKind.i64 K, Value.int IntKind.u64 ↑N, Value.slice B l.length c]).grown hg1 (by simp); have c2 := hbx.cell 2; simp at c2; simp only [World.size_alloc] at hown1; have hb1 : Below w.heap.size w w1 := ((Below.refl _ _).alloc (Nat.le_refl _) _).grown hg1 (by simp) (by simp); have hs1 := h.below hb1 hhi; have hd1 := fixed_row HM.out hown1)
    | (refine wpList_copy_splice rfl (.tmp 8) (.tmp 10) 24 24 rfl 5 Try.underlying24 size5 (some ⟨w.heap.size + 1, 0, none⟩) B n n l.length c rfl rfl (w.heap.size + 1) 0 (By (List.replicate n 0)) 5 hd1 (By (l.take n)) HP.out (fun hp => ⟨rfl, fixed_src hs1 hp⟩) (by rw [By_len, By_len, List.length_replicate, List.length_take]; omega) (By_one _) (w.heap.size + 1) w1 (Below.refl _ _) (Nat.le_refl _) ?_; intro w2 hw2 hbel))
  go_ret
  have hpn := pad_len n (l.take n) (by rw [List.length_take]; omega)
  have h2 := spl hw2.out
  exact ⟨w.heap.size + 1, by rw [hpn]; rfl, own_of h2 (by omega) (by rw [hpn]; unfold maxLen; omega), hb1.trans (hbel.mono (by omega))⟩

end Go.Proofs.Ytipakpcdaaoboaa
