/-
  THE WALK OF WireReads.
-/
import Derived.Test.YtipakpcdaaoboaaTapeHash
import Derived.Test.YtipakpcdaaoboaaNil
import Derived.Deep.RegionWith
namespace Go.Proofs.Ytipakpcdaaoboaa
open Go.RowKit

theorem Rdr.drew {w : World} {lo r f : Nat} {l : List UInt8} (h : Rdr w lo r l f) : Rdr w.drew lo r l f := h
theorem Tap.drew {w : World} {hi τ f : Nat} {l : List UInt8} (h : Tap w hi τ l f) : Tap w.drew hi τ l f := h
theorem guard39 : Try.prog.eqGuardType Try.prog.depth 39 = false := by kernel_rfl
theorem guard41 : Try.prog.eqGuardType Try.prog.depth 41 = false := by kernel_rfl
theorem equal32 (l : List UInt8) (hl : l.length = 32) (w : World) : (Op.equalIn 10000 39 (.agg (By l).toArray) (.agg (By l).toArray)).run Try.prog w = .ok true w := equalIn_bytes 9998 32 39 l Try.underlying39 hl w
theorem equal64 (l : List UInt8) (hl : l.length = 64) (w : World) : (Op.equalIn 10000 41 (.agg (By l).toArray) (.agg (By l).toArray)).run Try.prog w = .ok true w := equalIn_bytes 9998 64 41 l Try.underlying41 hl w

theorem t_yes (x : UInt8) (j : Nat) (h : x.toNat % 6 = j) : ((x.toNat : Int) % 6 == (j : Int)) = true := by
  rw [beq_iff_eq]
  omega
theorem t_no (x : UInt8) (j i : Nat) (h : x.toNat % 6 = j) (hne : j ≠ i) : ((x.toNat : Int) % 6 == (i : Int)) = false := by
  rw [beq_eq_false_iff_ne]
  omega

theorem zlit32 : Value.agg zrow32 = .agg #[Value.int IntKind.u8 0, Value.int IntKind.u8 0, Value.int IntKind.u8 0, Value.int IntKind.u8 0, Value.int IntKind.u8 0, Value.int IntKind.u8 0, Value.int IntKind.u8 0, Value.int IntKind.u8 0, Value.int IntKind.u8 0, Value.int IntKind.u8 0, Value.int IntKind.u8 0, Value.int IntKind.u8 0, Value.int IntKind.u8 0, Value.int IntKind.u8 0, Value.int IntKind.u8 0, Value.int IntKind.u8 0, Value.int IntKind.u8 0, Value.int IntKind.u8 0, Value.int IntKind.u8 0, Value.int IntKind.u8 0, Value.int IntKind.u8 0, Value.int IntKind.u8 0, Value.int IntKind.u8 0, Value.int IntKind.u8 0, Value.int IntKind.u8 0, Value.int IntKind.u8 0, Value.int IntKind.u8 0, Value.int IntKind.u8 0, Value.int IntKind.u8 0, Value.int IntKind.u8 0, Value.int IntKind.u8 0, Value.int IntKind.u8 0] := rfl
theorem zlit64 : Value.agg zrow64 = .agg #[Value.int IntKind.u8 0, Value.int IntKind.u8 0, Value.int IntKind.u8 0, Value.int IntKind.u8 0, Value.int IntKind.u8 0, Value.int IntKind.u8 0, Value.int IntKind.u8 0, Value.int IntKind.u8 0, Value.int IntKind.u8 0, Value.int IntKind.u8 0, Value.int IntKind.u8 0, Value.int IntKind.u8 0, Value.int IntKind.u8 0, Value.int IntKind.u8 0, Value.int IntKind.u8 0, Value.int IntKind.u8 0, Value.int IntKind.u8 0, Value.int IntKind.u8 0, Value.int IntKind.u8 0, Value.int IntKind.u8 0, Value.int IntKind.u8 0, Value.int IntKind.u8 0, Value.int IntKind.u8 0, Value.int IntKind.u8 0, Value.int IntKind.u8 0, Value.int IntKind.u8 0, Value.int IntKind.u8 0, Value.int IntKind.u8 0, Value.int IntKind.u8 0, Value.int IntKind.u8 0, Value.int IntKind.u8 0, Value.int IntKind.u8 0, Value.int IntKind.u8 0, Value.int IntKind.u8 0, Value.int IntKind.u8 0, Value.int IntKind.u8 0, Value.int IntKind.u8 0, Value.int IntKind.u8 0, Value.int IntKind.u8 0, Value.int IntKind.u8 0, Value.int IntKind.u8 0, Value.int IntKind.u8 0, Value.int IntKind.u8 0, Value.int IntKind.u8 0, Value.int IntKind.u8 0, Value.int IntKind.u8 0, Value.int IntKind.u8 0, Value.int IntKind.u8 0, Value.int IntKind.u8 0, Value.int IntKind.u8 0, Value.int IntKind.u8 0, Value.int IntKind.u8 0, Value.int IntKind.u8 0, Value.int IntKind.u8 0, Value.int IntKind.u8 0, Value.int IntKind.u8 0, Value.int IntKind.u8 0, Value.int IntKind.u8 0, Value.int IntKind.u8 0, Value.int IntKind.u8 0, Value.int IntKind.u8 0, Value.int IntKind.u8 0, Value.int IntKind.u8 0, Value.int IntKind.u8 0] := rfl
theorem zequal32 (w : World) : (Op.equalIn 10000 39 (.agg #[Value.int IntKind.u8 0, Value.int IntKind.u8 0, Value.int IntKind.u8 0, Value.int IntKind.u8 0, Value.int IntKind.u8 0, Value.int IntKind.u8 0, Value.int IntKind.u8 0, Value.int IntKind.u8 0, Value.int IntKind.u8 0, Value.int IntKind.u8 0, Value.int IntKind.u8 0, Value.int IntKind.u8 0, Value.int IntKind.u8 0, Value.int IntKind.u8 0, Value.int IntKind.u8 0, Value.int IntKind.u8 0, Value.int IntKind.u8 0, Value.int IntKind.u8 0, Value.int IntKind.u8 0, Value.int IntKind.u8 0, Value.int IntKind.u8 0, Value.int IntKind.u8 0, Value.int IntKind.u8 0, Value.int IntKind.u8 0, Value.int IntKind.u8 0, Value.int IntKind.u8 0, Value.int IntKind.u8 0, Value.int IntKind.u8 0, Value.int IntKind.u8 0, Value.int IntKind.u8 0, Value.int IntKind.u8 0, Value.int IntKind.u8 0]) (.agg #[Value.int IntKind.u8 0, Value.int IntKind.u8 0, Value.int IntKind.u8 0, Value.int IntKind.u8 0, Value.int IntKind.u8 0, Value.int IntKind.u8 0, Value.int IntKind.u8 0, Value.int IntKind.u8 0, Value.int IntKind.u8 0, Value.int IntKind.u8 0, Value.int IntKind.u8 0, Value.int IntKind.u8 0, Value.int IntKind.u8 0, Value.int IntKind.u8 0, Value.int IntKind.u8 0, Value.int IntKind.u8 0, Value.int IntKind.u8 0, Value.int IntKind.u8 0, Value.int IntKind.u8 0, Value.int IntKind.u8 0, Value.int IntKind.u8 0, Value.int IntKind.u8 0, Value.int IntKind.u8 0, Value.int IntKind.u8 0, Value.int IntKind.u8 0, Value.int IntKind.u8 0, Value.int IntKind.u8 0, Value.int IntKind.u8 0, Value.int IntKind.u8 0, Value.int IntKind.u8 0, Value.int IntKind.u8 0, Value.int IntKind.u8 0])).run Try.prog w = .ok true w := equal32 (List.replicate 32 0) rfl w
theorem zequal64 (w : World) : (Op.equalIn 10000 41 (.agg #[Value.int IntKind.u8 0, Value.int IntKind.u8 0, Value.int IntKind.u8 0, Value.int IntKind.u8 0, Value.int IntKind.u8 0, Value.int IntKind.u8 0, Value.int IntKind.u8 0, Value.int IntKind.u8 0, Value.int IntKind.u8 0, Value.int IntKind.u8 0, Value.int IntKind.u8 0, Value.int IntKind.u8 0, Value.int IntKind.u8 0, Value.int IntKind.u8 0, Value.int IntKind.u8 0, Value.int IntKind.u8 0, Value.int IntKind.u8 0, Value.int IntKind.u8 0, Value.int IntKind.u8 0, Value.int IntKind.u8 0, Value.int IntKind.u8 0, Value.int IntKind.u8 0, Value.int IntKind.u8 0, Value.int IntKind.u8 0, Value.int IntKind.u8 0, Value.int IntKind.u8 0, Value.int IntKind.u8 0, Value.int IntKind.u8 0, Value.int IntKind.u8 0, Value.int IntKind.u8 0, Value.int IntKind.u8 0, Value.int IntKind.u8 0, Value.int IntKind.u8 0, Value.int IntKind.u8 0, Value.int IntKind.u8 0, Value.int IntKind.u8 0, Value.int IntKind.u8 0, Value.int IntKind.u8 0, Value.int IntKind.u8 0, Value.int IntKind.u8 0, Value.int IntKind.u8 0, Value.int IntKind.u8 0, Value.int IntKind.u8 0, Value.int IntKind.u8 0, Value.int IntKind.u8 0, Value.int IntKind.u8 0, Value.int IntKind.u8 0, Value.int IntKind.u8 0, Value.int IntKind.u8 0, Value.int IntKind.u8 0, Value.int IntKind.u8 0, Value.int IntKind.u8 0, Value.int IntKind.u8 0, Value.int IntKind.u8 0, Value.int IntKind.u8 0, Value.int IntKind.u8 0, Value.int IntKind.u8 0, Value.int IntKind.u8 0, Value.int IntKind.u8 0, Value.int IntKind.u8 0, Value.int IntKind.u8 0, Value.int IntKind.u8 0, Value.int IntKind.u8 0, Value.int IntKind.u8 0]) (.agg #[Value.int IntKind.u8 0, Value.int IntKind.u8 0, Value.int IntKind.u8 0, Value.int IntKind.u8 0, Value.int IntKind.u8 0, Value.int IntKind.u8 0, Value.int IntKind.u8 0, Value.int IntKind.u8 0, Value.int IntKind.u8 0, Value.int IntKind.u8 0, Value.int IntKind.u8 0, Value.int IntKind.u8 0, Value.int IntKind.u8 0, Value.int IntKind.u8 0, Value.int IntKind.u8 0, Value.int IntKind.u8 0, Value.int IntKind.u8 0, Value.int IntKind.u8 0, Value.int IntKind.u8 0, Value.int IntKind.u8 0, Value.int IntKind.u8 0, Value.int IntKind.u8 0, Value.int IntKind.u8 0, Value.int IntKind.u8 0, Value.int IntKind.u8 0, Value.int IntKind.u8 0, Value.int IntKind.u8 0, Value.int IntKind.u8 0, Value.int IntKind.u8 0, Value.int IntKind.u8 0, Value.int IntKind.u8 0, Value.int IntKind.u8 0, Value.int IntKind.u8 0, Value.int IntKind.u8 0, Value.int IntKind.u8 0, Value.int IntKind.u8 0, Value.int IntKind.u8 0, Value.int IntKind.u8 0, Value.int IntKind.u8 0, Value.int IntKind.u8 0, Value.int IntKind.u8 0, Value.int IntKind.u8 0, Value.int IntKind.u8 0, Value.int IntKind.u8 0, Value.int IntKind.u8 0, Value.int IntKind.u8 0, Value.int IntKind.u8 0, Value.int IntKind.u8 0, Value.int IntKind.u8 0, Value.int IntKind.u8 0, Value.int IntKind.u8 0, Value.int IntKind.u8 0, Value.int IntKind.u8 0, Value.int IntKind.u8 0, Value.int IntKind.u8 0, Value.int IntKind.u8 0, Value.int IntKind.u8 0, Value.int IntKind.u8 0, Value.int IntKind.u8 0, Value.int IntKind.u8 0, Value.int IntKind.u8 0, Value.int IntKind.u8 0, Value.int IntKind.u8 0, Value.int IntKind.u8 0])).run Try.prog w = .ok true w := equal64 (List.replicate 64 0) rfl w

/-- What holds at a round's head. -/
def RT (w : World) (hi lo r τ : Nat) (wr : World) (l : List UInt8) (f : Nat) : Prop :=
  Rdr wr lo r l f ∧ Tap wr hi τ l f ∧ Below w.heap.size w wr

set_option maxRecDepth 100000 in
set_option maxHeartbeats 4000000 in
theorem reads_walk (A K : Option Addr) (b cs : List UInt8) (cb ck : Nat) (w : World) (hb : SL w 0 w.heap.size A b cb) (hk : SL w 0 w.heap.size K cs ck) (hlen : b.length ≤ 281474976710656) :
    Calls Try.prog 4 #[.slice A b.length cb, .slice K cs.length ck] w fun e w' => e = .returned (.bool true) ∧ Below w.heap.size w w' := by
  go_enter Try.func4, Try.ntmps4
  go_wp2_with (fail)
  refine (first_any w).mono ?_
  rintro e w0 ⟨rfl, hb0⟩
  go_wp2_with (fail)
  refine (new_any A b cb w.heap.size w0 (hb.below hb0 (Nat.le_refl _)) hb0.size hlen).mono ?_
  rintro e w1 ⟨r, rfl, hr1, hrw, hb1⟩
  have hbw1 := hb0.trans (hb1.mono hb0.size)
  have hwr : w.heap.size ≤ r := Nat.le_trans hb0.size hrw
  have hrτ := hr1.lt
  have hτ := hbw1.size
  have hr2 := hr1.below ((Below.refl _ _).alloc (Nat.le_refl _) (Obj.cells #[.slice A b.length cb, .int .i64 0, .int .i64 0] 49)) hr1.lt
  have ht2 : Tap (w1.alloc (Obj.cells #[.slice A b.length cb, .int .i64 0, .int .i64 0] 49)) w.heap.size w1.heap.size b 0 :=
    ⟨A, b, cb, 0, Blk.new _ _ _, (hb.below hbw1 (Nat.le_refl _)).alloc _ hτ, Nat.zero_le _, hτ, rfl⟩
  have hbw2 := hbw1.alloc hτ (Obj.cells #[.slice A b.length cb, .int .i64 0, .int .i64 0] 49)
  clear hb0 hb1 hr1 hbw1
  go_wp2_with (fail)
  have hlo : w0.heap.size ≤ r := hrw
  generalize w0.heap.size = lo at *
  generalize w1.heap.size = τ at *
  have l1 := hk.1
  have l2 := hk.2.1
  go_loopw [7, 8, 9, 20] (fun _ _ _ i wr => ∃ k l f, k ≤ cs.length ∧ i = .int .i64 ((k : Nat) : Int) ∧ RT w w.heap.size lo r τ wr l f) (fun _ _ _ i _ => cs.length - (intOf i).toNat)
  case atStart => exact ⟨0, b, 0, Nat.zero_le _, rfl, hr2, ht2, hbw2⟩
  case round =>
    obtain ⟨k, l, f, hk2, rfl, hr, ht, hbl⟩ := hrel
    clear hr2 ht2 hbw2
    by_cases hin : k < cs.length ∧ k < 40
    · obtain ⟨hlt, h40⟩ := hin
      obtain ⟨ad, rfl, _, had, hcell⟩ := hk.2.2.2 (by omega)
      have hx := (hbl.cell (p := ad.add k) (by rw [block_add]; omega)).trans (hcell k cs[k] (List.getElem?_eq_getElem hlt))
      have hx256 : cs[k].toNat < 256 := cs[k].toNat_lt
      generalize cs[k] = x at *
      clear hcell
      have h6 : x.toNat % 6 = 0 ∨ x.toNat % 6 = 1 ∨ x.toNat % 6 = 2 ∨ x.toNat % 6 = 3 ∨ x.toNat % 6 = 4 ∨ x.toNat % 6 = 5 := by omega
      have hlt2 : τ < wr.heap.size := ht.lt
      rcases h6 with h6 | h6 | h6 | h6 | h6 | h6
      · have t0 := t_yes x 0 h6
        clear h6
        have HC := Lib.hid (rnum_any lo r l f wr hr)
        go_wp2_with (fail)
        refine HC.out.mono ?_
        rintro e w3 ⟨rfl, hr3, hg3⟩
        have ht3 := ht.grown hg3 hwr (by omega)
        have hb3 := below_only hbl hg3 hbl.size hwr
        have HC2 := Lib.hid (tnum_any w.heap.size τ l f w3 ht3)
        go_wp2_with (fail)
        refine HC2.out.mono ?_
        rintro e w4 ⟨rfl, ht4, hg4⟩
        have hr4 := hr3.grown hg4 (by omega) hlo
        have hb4 := below_only hb3 hg4 hb3.size hτ
        have HD := Lib.hid (done_any lo r _ _ w4 hr4)
        have HE := Lib.hid (tend_any w.heap.size τ _ _ w4 ht4)
        clear HC HC2 hr ht hr3 ht3 hg3 hg4 hb3 hbl
        go_wp2_with (fail)
        refine HD.out.mono ?_
        rintro e w5 ⟨rfl, rfl⟩
        go_wp2_with (fail)
        refine HE.out.mono ?_
        rintro e w5 ⟨rfl, hb5⟩
        have hr5 := hr4.below hb5 hr4.lt
        have ht5 := ht4.below hb5 ht4.lt
        have hbw5 := hb4.trans (hb5.mono hb4.size)
        clear HD HE hr4 ht4 hb4 hb5
        go_wp2
        go_roundw
        case rel => exact ⟨k + 1, _, _, by omega, by go_num, hr5, ht5, hbw5⟩
        case measure => simp [intOf]; omega
      · have t0 := t_no x 1 0 h6 (by omega)
        have t1 := t_yes x 1 h6
        clear h6
        have HC := Lib.hid (rbytes_any lo r l f wr.drew hr.drew)
        have HT := Lib.hid (tnext_any w.heap.size τ l f)
        have hstr : ((str (byts l f).1).toList == (str (byts l f).1).toList) = true := by simp
        have HH := Lib.hid (And.intro hr (And.intro ht hbl))
        clear hr ht hbl
        go_wp2_with (fail)
        go_region_with (first
          | (go_at_call 17; refine HC.out.mono ?_; rintro e w3 ⟨g, rfl, hx3, hr3, hg3⟩; have ht3 := HH.out.2.1.drew.grown hg3 hwr (by omega); have hb3 := below_only HH.out.2.2.drew hg3 HH.out.2.2.size hwr; have hcv3 := conv_any hx3)
          | (go_at_call 23; refine (HT.out _ ht3).mono ?_; rintro e w4 ⟨A4, c4, rfl, hx4, ht4, hg4⟩; have hr4 := hr3.grown hg4 (by omega) hlo; have hb4 := below_only hb3 hg4 hb3.size hτ; have hcv4 := conv_any hx4; have hcv3' := conv_any (hx3.grown hg4 (Nat.le_refl _) (.inl hlt2))))
        all_goals
          have HD := Lib.hid (done_any lo r _ _ w4 hr4)
          have HE := Lib.hid (tend_any w.heap.size τ _ _ w4 ht4)
          clear HC HT HH hstr hx3 hr3 hg3 ht3 hb3 hcv3 hx4 hg4 hcv4 hcv3'
          go_wp2_with (fail)
          refine HD.out.mono ?_
          rintro e w5 ⟨rfl, rfl⟩
          go_wp2_with (fail)
          refine HE.out.mono ?_
          rintro e w5 ⟨rfl, hb5⟩
          have hr5 := hr4.below hb5 hr4.lt
          have ht5 := ht4.below hb5 ht4.lt
          have hbw5 := hb4.trans (hb5.mono hb4.size)
          clear HD HE hr4 ht4 hb4 hb5
          go_wp2
          go_roundw
          case rel => exact ⟨k + 1, _, _, by omega, by go_num, hr5, ht5, hbw5⟩
          case measure => simp [intOf]; omega
      · have t0 := t_no x 2 0 h6 (by omega)
        have t1 := t_no x 2 1 h6 (by omega)
        have t2 := t_yes x 2 h6
        clear h6
        have heq := equal32 (pad 32 (tk l f 32).1) (pad_len 32 (tk l f 32).1 (tk_len l f 32).2.2)
        have hgd := guard39
        have HC := Lib.hid (rhash_any lo r l f wr hr)
        go_wp2_with (fail)
        refine HC.out.mono ?_
        rintro e w3 ⟨rfl, hr3, hg3⟩
        have ht3 := ht.grown hg3 hwr (by omega)
        have hb3 := below_only hbl hg3 hbl.size hwr
        have HC2 := Lib.hid (thash_any w.heap.size τ l f w3 ht3)
        go_wp2_with (fail)
        refine HC2.out.mono ?_
        rintro e w4 ⟨rfl, ht4, hg4⟩
        have hr4 := hr3.grown hg4 (by omega) hlo
        have hb4 := below_only hb3 hg4 hb3.size hτ
        have HD := Lib.hid (done_any lo r _ _ w4 hr4)
        have HE := Lib.hid (tend_any w.heap.size τ _ _ w4 ht4)
        clear HC HC2 hr ht hr3 ht3 hg3 hg4 hb3 hbl
        go_wp2_with (fail)
        refine HD.out.mono ?_
        rintro e w5 ⟨rfl, rfl⟩
        go_wp2_with (fail)
        refine HE.out.mono ?_
        rintro e w5 ⟨rfl, hb5⟩
        have hr5 := hr4.below hb5 hr4.lt
        have ht5 := ht4.below hb5 ht4.lt
        have hbw5 := hb4.trans (hb5.mono hb4.size)
        clear HD HE hr4 ht4 hb4 hb5
        go_wp2
        go_roundw
        case rel => exact ⟨k + 1, _, _, by omega, by go_num, hr5, ht5, hbw5⟩
        case measure => simp [intOf]; omega
      · have t0 := t_no x 3 0 h6 (by omega)
        have t1 := t_no x 3 1 h6 (by omega)
        have t2 := t_no x 3 2 h6 (by omega)
        have t3 := t_yes x 3 h6
        clear h6
        have heq := equal64 (pad 64 (tk l f 64).1) (pad_len 64 (tk l f 64).1 (tk_len l f 64).2.2)
        have hgd := guard41
        have HC := Lib.hid (rsig_any lo r l f wr hr)
        go_wp2_with (fail)
        refine HC.out.mono ?_
        rintro e w3 ⟨rfl, hr3, hg3⟩
        have ht3 := ht.grown hg3 hwr (by omega)
        have hb3 := below_only hbl hg3 hbl.size hwr
        have HC2 := Lib.hid (tsig_any w.heap.size τ l f w3 ht3)
        go_wp2_with (fail)
        refine HC2.out.mono ?_
        rintro e w4 ⟨rfl, ht4, hg4⟩
        have hr4 := hr3.grown hg4 (by omega) hlo
        have hb4 := below_only hb3 hg4 hb3.size hτ
        have HD := Lib.hid (done_any lo r _ _ w4 hr4)
        have HE := Lib.hid (tend_any w.heap.size τ _ _ w4 ht4)
        clear HC HC2 hr ht hr3 ht3 hg3 hg4 hb3 hbl
        go_wp2_with (fail)
        refine HD.out.mono ?_
        rintro e w5 ⟨rfl, rfl⟩
        go_wp2_with (fail)
        refine HE.out.mono ?_
        rintro e w5 ⟨rfl, hb5⟩
        have hr5 := hr4.below hb5 hr4.lt
        have ht5 := ht4.below hb5 ht4.lt
        have hbw5 := hb4.trans (hb5.mono hb4.size)
        clear HD HE hr4 ht4 hb4 hb5
        go_wp2
        go_roundw
        case rel => exact ⟨k + 1, _, _, by omega, by go_num, hr5, ht5, hbw5⟩
        case measure => simp [intOf]; omega
      · have t0 := t_no x 4 0 h6 (by omega)
        have t1 := t_no x 4 1 h6 (by omega)
        have t2 := t_no x 4 2 h6 (by omega)
        have t3 := t_no x 4 3 h6 (by omega)
        have t4 := t_yes x 4 h6
        clear h6
        have HC := Lib.hid (count_any lo r l f wr hr)
        go_wp2_with (fail)
        refine HC.out.mono ?_
        rintro e w3 ⟨rfl, hr3, hg3⟩
        have ht3 := ht.grown hg3 hwr (by omega)
        have hb3 := below_only hbl hg3 hbl.size hwr
        have HC2 := Lib.hid (tupto_any w.heap.size τ l f 65536 w3 ht3 (by omega))
        go_wp2_with (fail)
        refine HC2.out.mono ?_
        rintro e w4 ⟨rfl, ht4, hg4⟩
        have hr4 := hr3.grown hg4 (by omega) hlo
        have hb4 := below_only hb3 hg4 hb3.size hτ
        have HD := Lib.hid (done_any lo r _ _ w4 hr4)
        have HE := Lib.hid (tend_any w.heap.size τ _ _ w4 ht4)
        clear HC HC2 hr ht hr3 ht3 hg3 hg4 hb3 hbl
        go_wp2_with (fail)
        refine HD.out.mono ?_
        rintro e w5 ⟨rfl, rfl⟩
        go_wp2_with (fail)
        refine HE.out.mono ?_
        rintro e w5 ⟨rfl, hb5⟩
        have hr5 := hr4.below hb5 hr4.lt
        have ht5 := ht4.below hb5 ht4.lt
        have hbw5 := hb4.trans (hb5.mono hb4.size)
        clear HD HE hr4 ht4 hb4 hb5
        go_wp2
        go_roundw
        case rel => exact ⟨k + 1, _, _, by omega, by go_num, hr5, ht5, hbw5⟩
        case measure => simp [intOf]; omega
      · have t0 := t_no x 5 0 h6 (by omega)
        have t1 := t_no x 5 1 h6 (by omega)
        have t2 := t_no x 5 2 h6 (by omega)
        have t3 := t_no x 5 3 h6 (by omega)
        have t4 := t_no x 5 4 h6 (by omega)
        clear h6
        have HD := Lib.hid (done_any lo r _ _ wr hr)
        have HE := Lib.hid (tend_any w.heap.size τ _ _ wr ht)
        obtain ⟨w4, rfl⟩ : ∃ w4 : World, w4 = wr := ⟨_, rfl⟩
        have hr4 := hr
        have ht4 := ht
        have hb4 := hbl
        clear hr ht hbl
        go_wp2_with (fail)
        refine HD.out.mono ?_
        rintro e w5 ⟨rfl, rfl⟩
        go_wp2_with (fail)
        refine HE.out.mono ?_
        rintro e w5 ⟨rfl, hb5⟩
        have hr5 := hr4.below hb5 hr4.lt
        have ht5 := ht4.below hb5 ht4.lt
        have hbw5 := hb4.trans (hb5.mono hb4.size)
        clear HD HE hr4 ht4 hb4 hb5
        go_wp2
        go_roundw
        case rel => exact ⟨k + 1, _, _, by omega, by go_num, hr5, ht5, hbw5⟩
        case measure => simp [intOf]; omega
    · have hex : k = cs.length ∨ (k < cs.length ∧ 40 ≤ k) := by omega
      have hlt2 : τ < wr.heap.size := ht.lt
      have HD := Lib.hid (done_any lo r _ _ wr hr)
      have HE := Lib.hid (tend_any w.heap.size τ _ _ wr ht)
      have HH := Lib.hid hbl
      rcases hex with hex | ⟨hlt, h40⟩
      · have hge : ¬ k < cs.length := by omega
        clear hr ht hin hbl hex
        go_wp2_with (fail)
        refine HD.out.mono ?_
        rintro e w5 ⟨rfl, rfl⟩
        go_wp2_with (fail)
        refine HE.out.mono ?_
        rintro e w5 ⟨rfl, hb5⟩
        have hb5' := HH.out.trans (hb5.mono HH.out.size)
        clear HD HE HH hb5
        go_wp2_with (fail)
        refine (rnum_nil _).mono ?_
        rintro e w6 ⟨rfl, rfl⟩
        go_wp2_with (fail)
        refine (rbytes_nil _).mono ?_
        rintro e w6 ⟨g, rfl, _, hb6⟩
        have hb6' := hb5'.trans (hb6.mono hb5'.size)
        clear hb5' hb6
        go_wp2_with (fail)
        refine (hash_nil _).mono ?_
        rintro e w7 ⟨rfl, hb7⟩
        have hb7' := hb6'.trans (hb7.mono hb6'.size)
        clear hb6' hb7
        rw [zlit32]
        have heq := zequal32
        have hgd := guard39
        go_wp2_with (fail)
        refine (sig_nil _).mono ?_
        rintro e w8 ⟨rfl, hb8⟩
        have hb8' := hb7'.trans (hb8.mono hb7'.size)
        clear hb7' hb8 heq hgd
        rw [zlit64]
        have heq := zequal64
        have hgd := guard41
        go_wp2_with (fail)
        refine (count_nil _).mono ?_
        rintro e w9 ⟨rfl, rfl⟩
        clear heq hgd
        go_wp2_with (fail)
        refine (done_nil _).mono ?_
        rintro e w9 ⟨rfl, rfl⟩
        go_wp2
        go_ret
        exact ⟨rfl, hb8'⟩
      · obtain ⟨ad, rfl, _, had, hcell⟩ := hk.2.2.2 (by omega)
        have hx := (hbl.cell (p := ad.add k) (by rw [block_add]; omega)).trans (hcell k cs[k] (List.getElem?_eq_getElem hlt))
        generalize cs[k] = x at *
        clear hcell hr ht hin hbl
        go_wp2_with (fail)
        refine HD.out.mono ?_
        rintro e w5 ⟨rfl, rfl⟩
        go_wp2_with (fail)
        refine HE.out.mono ?_
        rintro e w5 ⟨rfl, hb5⟩
        have hb5' := HH.out.trans (hb5.mono HH.out.size)
        clear HD HE HH hb5
        go_wp2_with (fail)
        refine (rnum_nil _).mono ?_
        rintro e w6 ⟨rfl, rfl⟩
        go_wp2_with (fail)
        refine (rbytes_nil _).mono ?_
        rintro e w6 ⟨g, rfl, _, hb6⟩
        have hb6' := hb5'.trans (hb6.mono hb5'.size)
        clear hb5' hb6
        go_wp2_with (fail)
        refine (hash_nil _).mono ?_
        rintro e w7 ⟨rfl, hb7⟩
        have hb7' := hb6'.trans (hb7.mono hb6'.size)
        clear hb6' hb7
        rw [zlit32]
        have heq := zequal32
        have hgd := guard39
        go_wp2_with (fail)
        refine (sig_nil _).mono ?_
        rintro e w8 ⟨rfl, hb8⟩
        have hb8' := hb7'.trans (hb8.mono hb7'.size)
        clear hb7' hb8 heq hgd
        rw [zlit64]
        have heq := zequal64
        have hgd := guard41
        go_wp2_with (fail)
        refine (count_nil _).mono ?_
        rintro e w9 ⟨rfl, rfl⟩
        clear heq hgd
        go_wp2_with (fail)
        refine (done_nil _).mono ?_
        rintro e w9 ⟨rfl, rfl⟩
        go_wp2
        go_ret
        exact ⟨rfl, hb8'⟩

end Go.Proofs.Ytipakpcdaaoboaa
