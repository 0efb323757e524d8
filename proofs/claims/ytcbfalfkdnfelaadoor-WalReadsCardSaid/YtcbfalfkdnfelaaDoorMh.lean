/-
  SEVERAL TEXTS IN ONE: Long256, Turn256, Lay256, Sum256, WlA, TpW, Vy, WlB, WlC.
-/
import Derived.Test.YtcbfalfkdnfelaaDoorMf
import Derived.Test.YtcbfalfkdnfelaaDoorMg
import Derived.Test.YtcbfalfkdnfelaaDoorMe
/-
  THE DIGESTS: long256: a block's words, and those that are made of them.
-/
namespace Go.Proofs.YtcbfalfkdnfelaaDoor
open Go.RowKit Go.IntWalk Nums

def z64w : List Nat := List.replicate 64 0
theorem z64w_len : z64w.length = 64 := by decide
theorem own_long256 : Own 58 := fun _ _ => by go_simp
theorem arr64w : Arr 95 64 := ⟨_, Tryd.underlying95, by kernel_rfl⟩
theorem kw32 : KW .u32 32 := .inr ⟨rfl, rfl⟩
theorem ben_or4 {f : Nat → Nat} (hf : ∀ j, f j < 256) : bits .or .u32 (bits .or .u32 (bits .or .u32 (IntKind.u32.wrap (IntKind.u32.wrap (f 0 : Int) * 2 ^ min 24 IntKind.u32.bits)) (IntKind.u32.wrap (IntKind.u32.wrap (f 1 : Int) * 2 ^ min 16 IntKind.u32.bits))) (IntKind.u32.wrap (IntKind.u32.wrap (f 2 : Int) * 2 ^ min 8 IntKind.u32.bits))) (IntKind.u32.wrap (f 3 : Int)) = ((ben f 4 : Nat) : Int) := by
  have h0 := hf 0
  have h1 := hf 1
  have h2 := hf 2
  have h3 := hf 3
  have key : ∀ x : Nat, x < 256 → IntKind.u32.wrap (x : Int) = (x : Int) := fun x hx => by rw [IntKind.wrap_u32]; omega
  rw [key _ h0, key _ h1, key _ h2, key _ h3]
  rw [show ((f 0 : Int) * 2 ^ min 24 IntKind.u32.bits) = ((f 0 * 16777216 : Nat) : Int) from rfl, show ((f 1 : Int) * 2 ^ min 16 IntKind.u32.bits) = ((f 1 * 65536 : Nat) : Int) from rfl, show ((f 2 : Int) * 2 ^ min 8 IntKind.u32.bits) = ((f 2 * 256 : Nat) : Int) from rfl, kw32.wrap, kw32.wrap, kw32.wrap,
    Nat.mod_eq_of_lt (by omega), Nat.mod_eq_of_lt (by omega), Nat.mod_eq_of_lt (by omega), orV 24 _ _ (by omega) (by omega) (by omega) (by omega), orV 16 _ _ (by omega) (by omega) (by omega) (by omega), orV 8 _ _ (by omega) h3 (by omega) (by omega)]
  exact congrArg _ (show _ = (((0 * 256 + f 0) * 256 + f 1) * 256 + f 2) * 256 + f 3 by omega)
theorem long256_C {F : World → Prop} [Pst F] {b : List UInt8} (hb : b.length = 64) : Ct F 58 [eY 64 b] (one (.q (eZ 64 (mxl (sx s256 b) z64w 64)))) := ⟨own_long256, by
  have hX := sx_lt s256 b (by decide)
  have hlen : ∀ t, (mxl (sx s256 b) z64w t).length = 64 := fun t => by rw [mxl_len, z64w_len]
  have h16 : ∀ t, t < 16 → sx s256 b t = ben (fun k => (b[4 * t + k]!).toNat) 4 := fun t ht => by
    rw [sx, dif_pos ht]
    show ben (fun k => (b[t * 4 + k]!).toNat) 4 = _
    rw [Nat.mul_comm]
  have hrec : ∀ t, 16 ≤ t → (loww 32 (17, 19, 10) (sx s256 b (t - 2)) + sx s256 b (t - 7) + loww 32 (7, 18, 3) (sx s256 b (t - 15)) + sx s256 b (t - 16)) % 2 ^ 32 = sx s256 b t := fun t ht => by
    conv => rhs; rw [sx, dif_neg (by omega)]
    rfl
  generalize sx s256 b = X at *
  refine spec_S [eY 64 b] 89 Tryd.func58 rfl (by rw [Tryd.ntmps58]; rfl) (one_ok (eY_ok hb).1) fun B => ?_
  refine s_auto TY_ok rfl ?_
  refine s_auto TY_ok rfl ?_
  let L : List Nat → List LV := fun l => [⟨3, none, 95, [.agg 64 (Uw l).toArray]⟩, ⟨2, none, 95, [.agg 64 (Uw (List.replicate 64 0)).toArray]⟩, ⟨1, none, 89, [.agg 64 (By b).toArray]⟩]
  let P : Nat × List Nat → Env := fun s => ⟨[(11, .v (.int .i64 (s.1 : Int))), (1, .a 1 0), (2, .a 2 0), (3, .a 3 0)], L s.2, [], F, fun _ => True⟩
  refine s_seq fun K1 hK1 => ?_
  refine s_auto TY_ok rfl ?_
  refine s_block ?_
  refine c_weak (e' := P (0, List.replicate 64 0)) ⟨⟨rfl, rfl, rfl, rfl, trivial⟩, ⟨rfl, rfl, rfl, rfl, rfl, rfl, trivial⟩, .refl _, fun _ h _ => h, fun _ _ => trivial⟩ (s_loop (fun s => 16 - s.1) P (fun s => s.1 ≤ 16 ∧ s.2 = mxl X z64w s.1) ?_ (0, List.replicate 64 0) ⟨Nat.zero_le _, (mxl_zero X z64w).symm⟩)
  · rintro ⟨t, l⟩ ⟨ht, hl⟩
    dsimp only at ht hl
    subst hl
    refine s_auto TY_ok rfl ?_
    refine s_seq fun K2 hK2 => ?_
    refine s_ifD ((t : Int) < 16) rfl (fun hlt => ?_) (fun hge => ?_)
    · have hlt : t < 16 := by omega
      refine s_skip (hK2 _ ?_)
      refine s_seq fun K3 hK3 => ?_
      refine s_block ?_
      refine s_auto TY_ok rfl ?_
      refine s_reg fun K hK => l_autoS TY_ok rfl (l_num 15 ((4 * t : Nat) : Int) rfl (mulI 4 t (by omega)) (l_num 18 ((4 * t + 4 : Nat) : Int) rfl (by show IntKind.i64.wrap (IntKind.i64.wrap (((4 : Nat) : Int) * (t : Int)) + ((4 : Nat) : Int)) = _; rw [mulI 4 t (by omega)]; exact addI _ _ (by omega)) ?_))
      refine l_cutV (4 * t) (4 * t + 4) rfl rfl arr64 rfl rfl rfl (by omega) (by omega) (by omega) (l_N hK rfl ?_)
      have rd : ∀ j, j < 4 → (catP [.agg 64 (By b).toArray])[0 + 4 * t + j]? = some (.int .u8 ((b[4 * t + j]!).toNat : Int)) := fun j hj => by rw [Nat.zero_add]; exact By_get (by omega)
      refine s_drawnN 24 (by kernel_rfl) fun G S w0 hst => ?_
      refine n_auto2 hst rfl (n_cellS hst 0 rfl rfl rfl rfl rfl (by omega) Tryd.underlying33 size_u8 rfl (rd 0 (by decide)) Tryd.underlying5 rfl ?_)
      refine n_auto2 hst rfl (n_cellS hst 1 rfl rfl rfl rfl rfl (by omega) Tryd.underlying33 size_u8 rfl (rd 1 (by decide)) Tryd.underlying5 rfl ?_)
      refine n_auto2 hst rfl (n_cellS hst 2 rfl rfl rfl rfl rfl (by omega) Tryd.underlying33 size_u8 rfl (rd 2 (by decide)) Tryd.underlying5 rfl ?_)
      refine n_auto2 hst rfl (n_cellS hst 3 rfl rfl rfl rfl rfl (by omega) Tryd.underlying33 size_u8 rfl (rd 3 (by decide)) Tryd.underlying5 rfl ?_)
      refine n_auto2 hst rfl (n_num 42 ((X t : Nat) : Int) rfl ((ben_or4 (f := fun k => (b[4 * t + k]!).toNat) fun j => UInt8.toNat_lt _).trans (by rw [h16 t hlt])) (n_ix hst rfl arr64w (by show t < 64; omega) ?_))
      refine n_L hst rfl ?_
      refine l_st1 rfl [.agg 64 (Uw (mxl X z64w (t + 1))).toArray] (eZ_ok (hlen _)) ?_ ?_ (s_end (hK3 _ ?_))
      · show 0 + t < (Uw (mxl X z64w t)).toArray.size
        rw [List.size_toArray, Uw_len, hlen]
        omega
      · show Uw (mxl X z64w (t + 1)) = (Uw (mxl X z64w t)).set (0 + t) _
        rw [Nat.zero_add, Uw, Uw, ← mxl_set, List.map_set]
      refine s_autoE TY_ok rfl ?_
      exact k_next (t + 1, _) ⟨hlt, rfl⟩ (by show 16 - (t + 1) < 16 - t; omega) ⟨⟨congrArg (fun x => some (SV.v (.int .i64 x))) (addI t 1 (by omega)), rfl, rfl, rfl, trivial⟩, ⟨rfl, rfl, rfl, rfl, rfl, rfl, trivial⟩, .refl _, fun _ h _ => h, fun _ h => h⟩
    · obtain rfl : t = 16 := by omega
      refine s_exit (k_pass (k_pass (k_out (hK1 _ ?_))))
      let Q : Nat × List Nat → Env := fun s => ⟨[(6, .v (.int .i64 (s.1 : Int))), (1, .a 1 0), (2, .a 2 0), (3, .a 3 0)], L s.2, [], F, fun _ => True⟩
      refine s_seq fun K1 hK1 => ?_
      refine s_auto TY_ok rfl ?_
      refine s_block ?_
      refine c_weak (e' := Q (16, mxl X z64w 16)) ⟨⟨rfl, rfl, rfl, rfl, trivial⟩, ⟨rfl, rfl, rfl, rfl, rfl, rfl, trivial⟩, .refl _, fun _ h _ => h, fun _ h => h⟩ (s_loop (fun s => 64 - s.1) Q (fun s => 16 ≤ s.1 ∧ s.1 ≤ 64 ∧ s.2 = mxl X z64w s.1) ?_ (16, mxl X z64w 16) ⟨Nat.le_refl _, Nat.le_of_ble_eq_true rfl, rfl⟩)
      rintro ⟨t, l⟩ ⟨ht0, ht, hl⟩
      dsimp only at ht0 ht hl
      subst hl
      have rd : ∀ j, j < t → (catP [.agg 64 (Uw (mxl X z64w t)).toArray])[0 + j]? = some (.int .u32 ((X j : Nat) : Int)) := fun j hj => (Uw_in (by rw [hlen]; omega)).trans (by rw [mxl_in hj (by rw [z64w_len]; omega)])
      refine s_seq fun K3 hK3 => ?_
      refine s_auto TY_ok rfl ?_
      refine s_ifD ((t : Int) < 64) rfl (fun hlt => ?_) (fun hge => ?_)
      · have hlt : t < 64 := by omega
        refine s_skip (hK3 _ ?_)
        refine s_seq fun K4 hK4 => ?_
        refine s_block ?_
        refine s_N 10 [] (by kernel_rfl) fun K hK G S w0 hst => ?_
        refine n_auto2 hst rfl (n_num 50 ((t - 2 : Nat) : Int) rfl (subI t 2 (by omega) (by omega)) ?_)
        refine n_cell hst rfl arr64w (by show t - 2 < 64; omega) (.int .u32 ((X (t - 2) : Nat) : Int)) (rd (t - 2) (by omega)) ?_
        refine n_auto2 hst rfl (n_num 54 ((t - 15 : Nat) : Int) rfl (subI t 15 (by omega) (by omega)) ?_)
        refine n_cell hst rfl arr64w (by show t - 15 < 64; omega) (.int .u32 ((X (t - 15) : Nat) : Int)) (rd (t - 15) (by omega)) ?_
        refine n_N hst rfl hK rfl ?_
        refine s_reg fun K hK => l_X (rot32_C 17 (hX (t - 2)) (by decide)) (fun _ => rfl) rfl fun _ => l_X (rot32_C 19 (hX (t - 2)) (by decide)) (fun _ => rfl) rfl fun _ => l_auto2 rfl (l_num 9 _ rfl (kw32.low (17, 19, 10) (by decide) (hX (t - 2))) (s_end (hK _ ?_)))
        refine s_reg fun K hK => l_X (rot32_C 7 (hX (t - 15)) (by decide)) (fun _ => rfl) rfl fun _ => l_X (rot32_C 18 (hX (t - 15)) (by decide)) (fun _ => rfl) rfl fun _ => l_auto2 rfl (l_num 10 _ rfl (kw32.low (7, 18, 3) (by decide) (hX (t - 15))) (s_end (hK _ ?_)))
        refine s_drawnN 15 (by kernel_rfl) fun G S w0 hst => ?_
        refine n_auto2 hst rfl (n_num 76 ((t - 7 : Nat) : Int) rfl (subI t 7 (by omega) (by omega)) ?_)
        refine n_cell hst rfl arr64w (by show t - 7 < 64; omega) (.int .u32 ((X (t - 7) : Nat) : Int)) (rd (t - 7) (by omega)) ?_
        refine n_auto2 hst rfl (n_num 83 ((t - 16 : Nat) : Int) rfl (subI t 16 (by omega) (by omega)) ?_)
        refine n_cell hst rfl arr64w (by show t - 16 < 64; omega) (.int .u32 ((X (t - 16) : Nat) : Int)) (rd (t - 16) (by omega)) ?_
        refine n_auto2 hst rfl (n_num 86 _ rfl (kw32.sum4.trans (by rw [hrec t ht0])) (n_ix hst rfl arr64w hlt ?_))
        refine n_L hst rfl ?_
        refine l_st1 rfl [.agg 64 (Uw (mxl X z64w (t + 1))).toArray] (eZ_ok (hlen _)) ?_ ?_ (s_end (hK4 _ ?_))
        · show 0 + t < (Uw (mxl X z64w t)).toArray.size
          rw [List.size_toArray, Uw_len, hlen]
          omega
        · show Uw (mxl X z64w (t + 1)) = (Uw (mxl X z64w t)).set (0 + t) _
          rw [Nat.zero_add, Uw, Uw, ← mxl_set, List.map_set]
        refine s_autoE TY_ok rfl ?_
        exact k_next (t + 1, _) ⟨by show 16 ≤ t + 1; omega, hlt, rfl⟩ (by show 64 - (t + 1) < 64 - t; omega) ⟨⟨congrArg (fun x => some (SV.v (.int .i64 x))) (addI t 1 (by omega)), rfl, rfl, rfl, trivial⟩, ⟨rfl, rfl, rfl, rfl, rfl, rfl, trivial⟩, .refl _, fun _ h _ => h, fun _ h => h⟩
      · obtain rfl : t = 64 := by omega
        refine s_exit (k_pass (k_pass (k_out (hK1 _ ?_))))
        refine s_auto TY_ok rfl (s_ret ?_)
        exact k_ret TY_ok () rfl (by decide) rfl rfl rfl (fun _ _ _ => trivial) fun _ _ => trivial⟩
end Go.Proofs.YtcbfalfkdnfelaaDoor
/-
  THE DIGESTS: turn256: the eight words turned by a block.
-/
namespace Go.Proofs.YtcbfalfkdnfelaaDoor
open Go.RowKit Go.IntWalk Nums

theorem own_turn256 : Own 55 := fun _ _ => by go_simp
theorem arr8w : Arr 87 8 := ⟨_, Tryd.underlying87, by kernel_rfl⟩
theorem step32 {t : Nat} (ht : t < 80) : IntKind.u32.wrap (Int.fdiv ((cbs[t]! : Nat) : Int) (2 ^ min 32 IntKind.u64.bits)) = ((cbs[t]! / 4294967296 : Nat) : Int) := by
  have h1 := cbs_lt ht
  rw [kw64.shr 32 (by decide), kw32.wrap, Nat.mod_eq_of_lt (Nat.div_lt_of_lt_mul h1)]
theorem turn256_C {o : Oct} (ho : OB 32 o) {b : List UInt8} (hb : b.length = 64) : Ct Ts 55 [eZ 8 o.list, eY 64 b] (one (.q (eZ 8 (turnw s256 o b).list))) := ⟨own_turn256, by
  have hxn : (mxl (sx s256 b) z64w 64).length = 64 := by rw [mxl_len, z64w_len]
  have hO := fun t => OB.rnds (s := s256) (b := b) ho t
  refine spec_S [eZ 8 o.list, eY 64 b] 137 Tryd.func55 rfl (by rw [Tryd.ntmps55]; rfl) (two_ok (eZ_ok rfl) (eY_ok hb).1) fun B => ?_
  refine s_auto TY_ok rfl ?_
  refine s_reg fun K hK => l_X (long256_C hb) (fun _ => rfl) rfl fun _ => l_N hK rfl ?_
  refine s_N 24 [] (by kernel_rfl) fun K hK G S w0 hst => ?_
  refine n_cell hst rfl arr8w (Nat.le_of_ble_eq_true rfl) (.int .u32 (o.a : Int)) rfl ?_
  refine n_cell hst rfl arr8w (Nat.le_of_ble_eq_true rfl) (.int .u32 (o.b : Int)) rfl ?_
  refine n_cell hst rfl arr8w (Nat.le_of_ble_eq_true rfl) (.int .u32 (o.c : Int)) rfl ?_
  refine n_cell hst rfl arr8w (Nat.le_of_ble_eq_true rfl) (.int .u32 (o.d : Int)) rfl ?_
  refine n_cell hst rfl arr8w (Nat.le_of_ble_eq_true rfl) (.int .u32 (o.e : Int)) rfl ?_
  refine n_cell hst rfl arr8w (Nat.le_of_ble_eq_true rfl) (.int .u32 (o.f : Int)) rfl ?_
  refine n_cell hst rfl arr8w (Nat.le_of_ble_eq_true rfl) (.int .u32 (o.g : Int)) rfl ?_
  refine n_cell hst rfl arr8w (Nat.le_of_ble_eq_true rfl) (.int .u32 (o.h : Int)) rfl ?_
  refine n_N hst rfl hK rfl ?_
  refine s_seq fun K1 hK1 => ?_
  refine s_auto TY_ok rfl ?_
  refine s_block ?_
  let P : Nat × Oct → Env := fun s => ⟨[(37, .v (.int .i64 (s.1 : Int))), (6, .v (.int .u32 (s.2.a : Int))), (7, .v (.int .u32 (s.2.b : Int))), (8, .v (.int .u32 (s.2.c : Int))), (9, .v (.int .u32 (s.2.d : Int))), (10, .v (.int .u32 (s.2.e : Int))), (11, .v (.int .u32 (s.2.f : Int))), (12, .v (.int .u32 (s.2.g : Int))), (13, .v (.int .u32 (s.2.h : Int))), (2, .a 2 0), (4, .a 4 0), (5, .a 5 0)],
    [⟨5, none, 95, [.agg 64 (Uw (mxl (sx s256 b) z64w 64)).toArray]⟩, ⟨4, none, 87, [.agg 8 (Uw (List.replicate 8 0)).toArray]⟩, ⟨2, none, 87, [.agg 8 (Uw o.list).toArray]⟩], [], Ts, fun _ => True⟩
  refine c_weak (e' := P (0, o)) ⟨⟨rfl, rfl, rfl, rfl, rfl, rfl, rfl, rfl, rfl, rfl, rfl, rfl, trivial⟩, ⟨rfl, rfl, rfl, rfl, rfl, rfl, trivial⟩, .refl _, fun _ h _ => h, fun _ _ => trivial⟩ (s_loop (fun s => 64 - s.1) P (fun s => s.1 ≤ 64 ∧ s.2 = rnds s256 b o s.1) ?_ (0, o) ⟨Nat.zero_le _, rfl⟩)
  rintro ⟨t, q⟩ ⟨ht, hq⟩
  dsimp only at ht hq
  have hB := hO t
  rw [← hq] at hB
  refine s_auto TY_ok rfl ?_
  refine s_seq fun K2 hK2 => ?_
  refine s_ifD ((t : Int) < 64) rfl (fun hlt => ?_) (fun hge => ?_)
  · have hlt : t < 64 := by omega
    refine s_skip (hK2 _ ?_)
    refine s_seq fun K3 hK3 => ?_
    refine s_block ?_
    refine s_auto TY_ok rfl ?_
    refine s_reg fun K hK => l_X (rot32_C 6 hB.e (by decide)) (fun _ => rfl) rfl fun _ => l_X (rot32_C 11 hB.e (by decide)) (fun _ => rfl) rfl fun _ => l_X (rot32_C 25 hB.e (by decide)) (fun _ => rfl) rfl fun _ => l_auto2 rfl (l_num 15 _ rfl (kw32.big (6, 11, 25) (by decide) hB.e) (s_end (hK _ ?_)))
    refine s_reg fun K hK => l_X (rot32_C 2 hB.a (by decide)) (fun _ => rfl) rfl fun _ => l_X (rot32_C 13 hB.a (by decide)) (fun _ => rfl) rfl fun _ => l_X (rot32_C 22 hB.a (by decide)) (fun _ => rfl) rfl fun _ => l_auto2 rfl (l_num 16 _ rfl (kw32.big (2, 13, 22) (by decide) hB.a) (s_end (hK _ ?_)))
    refine s_N 23 [] (by kernel_rfl) fun K hK G S w0 hst => ?_
    refine n_auto2 hst rfl ?_
    refine n_tab hst rfl rfl rfl rfl arr80 (by show t < 80; omega) Tryd.underlying57 rfl (fun w h => h.cell t (by omega)) ?_
    refine n_auto2 hst rfl ?_
    refine n_cell hst rfl arr64w hlt (.int .u32 ((sx s256 b t : Nat) : Int)) ((Uw_in (by rw [hxn]; exact hlt)).trans (by rw [mxl_in hlt (by rw [z64w_len]; exact hlt)])) ?_
    refine n_auto2 hst rfl (n_num 17 (((q.h + bigw 32 (6, 11, 25) q.e + chw 32 q.e q.f q.g + cbs[t]! / 4294967296 + sx s256 b t) % 2 ^ 32 : Nat) : Int) rfl (by rw [step32 (t := t) (by omega)]; exact kw32.t1c hB.e hB.f hB.g) (n_N hst rfl hK rfl ?_))
    refine s_reg fun K hK => l_auto2 rfl (l_num 18 _ rfl (kw32.t2 hB.a hB.b hB.c) (s_end (hK _ ?_)))
    refine s_lit (l_auto2 rfl (l_num 10 _ rfl kw32.sum1 (l_num 6 _ rfl kw32.sum (s_end (hK3 _ ?_)))))
    refine s_autoE TY_ok rfl ?_
    exact k_next (t + 1, rnd s256 (cbs[t]! / 4294967296) (sx s256 b t) q) ⟨hlt, by rw [hq]; rfl⟩ (by show 64 - (t + 1) < 64 - t; omega) ⟨⟨congrArg (fun x => some (SV.v (.int .i64 x))) (addI t 1 (by omega)), rfl, rfl, rfl, rfl, rfl, rfl, rfl, rfl, rfl, rfl, rfl, trivial⟩, ⟨rfl, rfl, rfl, rfl, rfl, rfl, trivial⟩, .refl _, fun _ h _ => h, fun _ h => h⟩
  · obtain rfl : t = 64 := by omega
    refine s_exit (k_pass (k_pass (k_out (hK1 _ ?_))))
    refine s_reg fun K hK => ?_
    refine l_cell rfl arr8w (Nat.le_of_ble_eq_true rfl) (.int .u32 (o.a : Int)) rfl (l_auto2 rfl (l_num 107 _ rfl (kw32.add (b := q.a)) ?_))
    refine l_cell rfl arr8w (Nat.le_of_ble_eq_true rfl) (.int .u32 (o.b : Int)) rfl (l_auto2 rfl (l_num 111 _ rfl (kw32.add (b := q.b)) ?_))
    refine l_cell rfl arr8w (Nat.le_of_ble_eq_true rfl) (.int .u32 (o.c : Int)) rfl (l_auto2 rfl (l_num 115 _ rfl (kw32.add (b := q.c)) ?_))
    refine l_cell rfl arr8w (Nat.le_of_ble_eq_true rfl) (.int .u32 (o.d : Int)) rfl (l_auto2 rfl (l_num 119 _ rfl (kw32.add (b := q.d)) ?_))
    refine l_cell rfl arr8w (Nat.le_of_ble_eq_true rfl) (.int .u32 (o.e : Int)) rfl (l_auto2 rfl (l_num 123 _ rfl (kw32.add (b := q.e)) ?_))
    refine l_cell rfl arr8w (Nat.le_of_ble_eq_true rfl) (.int .u32 (o.f : Int)) rfl (l_auto2 rfl (l_num 127 _ rfl (kw32.add (b := q.f)) ?_))
    refine l_cell rfl arr8w (Nat.le_of_ble_eq_true rfl) (.int .u32 (o.g : Int)) rfl (l_auto2 rfl (l_num 131 _ rfl (kw32.add (b := q.g)) ?_))
    refine l_cell rfl arr8w (Nat.le_of_ble_eq_true rfl) (.int .u32 (o.h : Int)) rfl (l_auto2 rfl (l_num 135 _ rfl (kw32.add (b := q.h)) ?_))
    refine l_f (.p [.agg 8 (Uw (add8 32 o q).list).toArray]) (eZ_ok rfl) (fun G S w C0 Q' _ _ hQ => f_build ([(o.a + q.a) % 2 ^ 32, (o.b + q.b) % 2 ^ 32, (o.c + q.c) % 2 ^ 32, (o.d + q.d) % 2 ^ 32, (o.e + q.e) % 2 ^ 32, (o.f + q.f) % 2 ^ 32, (o.g + q.g) % 2 ^ 32, (o.h + q.h) % 2 ^ 32].zipIdx.map fun x => (x.2, .int .u32 ((x.1 : Nat) : Int))) (Uw (add8 32 o q).list).toArray rfl rfl rfl rfl rfl (by kernel_rfl) hQ) rfl ?_
    refine l_N hK rfl (s_ret ?_)
    rw [hq]
    exact k_ret TY_ok () rfl (by decide) rfl rfl rfl (fun _ _ _ => trivial) fun _ _ => trivial⟩
theorem size_v8 (cs : Array Value) (h : cs.size = 8) : (Tryd.prog.info? 87).map (·.size) = some cs.size := by
  rw [h]
  kernel_rfl
def z8v : Array Value := (Uw [0, 0, 0, 0, 0, 0, 0, 0]).toArray
end Go.Proofs.YtcbfalfkdnfelaaDoor
/-
  THE DIGESTS: lay256: the eight words' bytes, the greatest first; first256: what they begin as.
-/
namespace Go.Proofs.YtcbfalfkdnfelaaDoor
open Go.RowKit Go.IntWalk Nums

def z32b : List UInt8 := List.replicate 32 0
theorem zb32 : (Tryd.prog.info? 54).bind (fun i => i.zero.map (·.cells)) = some (By z32b).toArray := by kernel_rfl

/-- What lay256's rows lie in. -/
structure LY2 (w wr : World) (cs : Array Value) (m : List UInt8) : Prop where
  b0 : Blk wr w.heap.size 87 cs
  b1 : Blk wr (w.heap.size + 1) 54 (By z32b).toArray
  b2 : Blk wr (w.heap.size + 1 + 1) 54 (By m).toArray
  be : Below w.heap.size w wr
theorem LY2.set {w wr : World} {cs : Array Value} {m : List UInt8} (h : LY2 w wr cs m) (k : Nat) (x : UInt8) : LY2 w (wr.setCell ⟨w.heap.size + 1 + 1, k, none⟩ (.int .u8 (x.toNat : Int))) cs (m.set k x) where
  b0 := h.b0.far (by show w.heap.size ≠ w.heap.size + 1 + 1; omega) _
  b1 := h.b1.far (by show w.heap.size + 1 ≠ w.heap.size + 1 + 1; omega) _
  b2 := by
    have h4 := h.b2.set k (.int .u8 (x.toNat : Int))
    rw [By_set] at h4
    exact h4
  be := h.be.setCell (by show w.heap.size ≤ w.heap.size + 1 + 1; omega) _

set_option maxRecDepth 100000 in
set_option maxHeartbeats 2000000 in
theorem lay256_f {l : List Nat} (hl : l.length = 8) (hw : ∀ x ∈ l, x < 4294967296) (w : World) :
    Calls Tryd.prog 56 #[.agg (Uw l).toArray] w fun e w' => e = .returned (.agg (By (l.map (layw s256)).flatten).toArray) ∧ Below w.heap.size w w' := by
  have hD := flat_lenB (layw s256) (n := 4) (fun x => layw_len s256 x) l
  rw [hl] at hD
  have hg : ∀ i j, i < 8 → j < 4 → (((l.map (layw s256)).flatten)[4 * i + 3 - j]!).toNat = l[i]! / 256 ^ j % 256 := fun i j hi hj => by
    have h1 := flat_get (layw s256) (n := 4) (fun x => layw_len s256 x) l (i := i) (j := 3 - j) (by omega) (by omega)
    rw [show 4 * i + 3 - j = 4 * i + (3 - j) by omega, h1]
    exact layw_get (s := s256) (j := j) hj
  have hzs : (Uw l).toArray.size = 8 := by rw [List.size_toArray, Uw_len, hl]
  have hix : ∀ i, i < 8 → ∀ w1, (Instr.index 87 (.agg (Uw l).toArray) (.int .i64 ((i : Nat) : Int))).run Tryd.prog w1 = .ok (.int .u32 (l[i]! : Nat)) w1 := fun i hi w1 => by
    have h0 : (Uw l).toArray[i]? = some (.int .u32 (l[i]! : Nat)) := Uw_at (by omega)
    have h1 : ((i : Nat) : Int) < 8 := by omega
    have h2 : (0 : Int) ≤ (i : Nat) := by omega
    generalize l[i]! = c at *
    generalize (Uw l).toArray = cs at *
    unfold Instr.index Go.part
    go_simp
    obtain ⟨_, h⟩ := Array.getElem?_eq_some_iff.1 h0
    exact h
  have hwl : ∀ i, i < 8 → l[i]! < 4294967296 := fun i hi => by
    rw [getElem!_pos l i (by omega)]
    exact hw _ (List.getElem_mem _)
  generalize (l.map (layw s256)).flatten = D at *
  generalize (Uw l).toArray = cs at *
  go_enter Tryd.func56, Tryd.ntmps56
  refine wp_seq_k fun K hK => ?_
  refine wp_region_lit ?_
  refine wpl_box cs rfl rfl rfl ?_
  refine wpl_alloc (zs := (By z32b).toArray) rfl rfl zb32 ?_
  refine wpl_nil ?_
  go_simp
  refine hK _ _ ?_
  clear hK K
  refine wp_seq_k fun K hK => ?_
  refine wp_region_lit ?_
  refine wpl_alloc (zs := (By z32b).toArray) rfl rfl zb32 ?_
  refine wpl_nil ?_
  go_simp
  refine hK _ _ ?_
  clear hK K
  refine wp_at (fun W => LY2 w W cs z32b) ⟨blk3_0 w _ _ _ _, blk3_1 w _ _ _ _, blk3_2 w _ _ _ _, (((Below.refl _ _).alloc (Nat.le_refl _) _).alloc (by simp) _).alloc (by simp; omega) _⟩ ?_
  intro W hW
  have k0 := hW.b0
  have HW := Lib.hid hW
  clear hW
  go_wp2_with (refine wpList_load_row rfl 87 _ rfl w.heap.size rfl 87 cs (0, 0) _ k0 Tryd.underlying87 rfl (size_v8 _ hzs) ?_)
  clear k0
  go_loopw [8] (fun i wr => ∃ t : Nat, t ≤ 8 ∧ i = .int .i64 t ∧ LY2 w wr cs (pf D fun m => decide (m < 4 * t))) (fun i _ => 8 - (intOf i).toNat)
  case atStart =>
    refine ⟨0, by omega, rfl, ?_⟩
    rw [pf_none (fun m _ => decide_eq_false (by omega)), hD]
    exact HW.out
  case round =>
    clear HW
    obtain ⟨t, ht, rfl, hS⟩ := hrel
    by_cases htl : t < 8
    · have hi := hix t htl
      have hx := hwl t htl
      have hby := fun j hj => hg t j htl hj
      generalize l[t]! = x at *
      have g4 : (0 : Int) ≤ (t : Int) := by omega
      have HS := Lib.hid hS
      clear hS hg hix hwl
      go_wp2
      go_loopw [12, 5] (fun j v wq => ∃ n : Nat, n ≤ 4 ∧ j = .int .i64 n ∧ v = .int .u32 ((x / 256 ^ n : Nat) : Int) ∧ LY2 w wq cs (pf D fun m => decide (m < 4 * t ∨ 4 * t + 4 - n ≤ m ∧ m < 4 * t + 4))) (fun j _ _ => 4 - (intOf j).toNat)
      case atStart =>
        refine ⟨0, by omega, rfl, by rw [Nat.pow_zero, Nat.div_one], ?_⟩
        rw [pf_congr (q := fun m => decide (m < 4 * t)) (fun m _ => decide_eq_decide.2 (by omega))]
        exact HS.out
      case round =>
        clear HS
        obtain ⟨n, hn, rfl, rfl, hS⟩ := hrel
        by_cases hnl : n < 4
        · have hN := hS.set (4 * t + 3 - n) D[4 * t + 3 - n]!
          rw [pf_set (q := fun m => decide (m < 4 * t ∨ 4 * t + 4 - (n + 1) ≤ m ∧ m < 4 * t + 4)) (fun m _ => by rw [← Bool.decide_or]; exact decide_eq_decide.2 (by omega))] at hN
          have hb := hby n hnl
          have hdiv : x / 256 ^ (n + 1) = x / 256 ^ n / 256 := by rw [Nat.pow_succ, Nat.div_div_eq_div_mul]
          have hle : x / 256 ^ n < 4294967296 := Nat.lt_of_le_of_lt (Nat.div_le_self _ _) hx
          have c2 := (hS.b2.cell (4 * t + 3 - n)).trans (By_get (by rw [pf_len, hD]; omega))
          have f2 := hS.b2.free (4 * t + 3 - n)
          generalize x / 256 ^ n = y at *
          have q4 : IntKind.u8.wrap (y : Int) = ((D[4 * t + 3 - n]!).toNat : Int) := by
            rw [IntKind.wrap_u8', hb]
            omega
          have g5 : (0 : Int) ≤ (n : Int) := by omega
          have q5 : (y : Int) / 256 = ((y / 256 : Nat) : Int) := by omega
          have HN := Lib.hid (And.intro hN hdiv)
          clear hS hN hdiv hb hby hi
          generalize (D[4 * t + 3 - n]!).toNat = v at *
          generalize ((pf D fun m => decide (m < 4 * t ∨ 4 * t + 4 - n ≤ m ∧ m < 4 * t + 4))[4 * t + 3 - n]!).toNat = old at *
          generalize y / 256 = y2 at *
          go_wp2
          go_roundw
          case rel =>
            obtain ⟨hN, hdiv⟩ := HN.out
            refine ⟨n + 1, by omega, by go_num, by rw [hdiv], hN⟩
          case measure => simp [intOf]; omega
        · obtain rfl : n = 4 := by omega
          rw [pf_congr (q := fun m => decide (m < 4 * (t + 1))) (fun m _ => decide_eq_decide.2 (by omega))] at hS
          have HS := Lib.hid hS
          clear hS
          go_wp2
          go_roundw
          case rel => exact ⟨t + 1, by omega, by go_num, HS.out⟩
          case measure => simp [intOf]; omega
    · obtain rfl : t = 8 := by omega
      rw [pf_all (fun m hm => decide_eq_true (by omega))] at hS
      obtain ⟨b0, b1, b2, be⟩ := hS
      have hz : (By D).toArray.size = 32 := by rw [List.size_toArray, By_len, hD]
      clear b0
      go_wp2_with (first
        | (refine wpList_load_row rfl 54 _ rfl (w.heap.size + 1 + 1) rfl 54 (By D).toArray (0, 0) _ b2 Tryd.underlying54 rfl (size_hash _ hz) ?_)
        | (refine wpList_store_row rfl 54 _ _ rfl (w.heap.size + 1) rfl (By D).toArray rfl 54 _ b1 (size_hash _ hz) (by rw [hz]; rfl) (By_one _) ?_))
      refine bodyPost_ret (results_cell_row rfl _ _ (w.heap.size + 1) 54 (By D).toArray (0, 0) _ rfl (b1.row _) Tryd.underlying54 rfl (size_hash _ hz)) rfl ⟨rfl, ?_⟩
      exact below_setRow be (by omega) _

/-! ### first256 -/
theorem zv8 : (Tryd.prog.info? 87).bind (fun i => i.zero.map (·.cells)) = some z8v := by kernel_rfl
/-- The starts' table lies where it lay. -/
structure Tst (w : World) : Prop where
  cell : ∀ i, i < 8 → w.cell? ⟨0, i, none⟩ = some (.int .u64 (sqs[i]! : Nat))
  lt : 0 < w.heap.size
theorem Tst.below {w w' : World} (h : Tst w) (hb : Below w.heap.size w w') : Tst w' :=
  ⟨fun i hi => (hb.cell (p := ⟨0, i, none⟩) h.lt).trans (h.cell i hi), Nat.lt_of_lt_of_le h.lt hb.size⟩
/-- What first256's rows lie in. -/
structure FI2 (w wr : World) (l : List Nat) : Prop where
  b0 : Blk wr w.heap.size 87 z8v
  b1 : Blk wr (w.heap.size + 1) 87 (Uw l).toArray
  be : Below w.heap.size w wr
theorem FI2.set {w wr : World} {l : List Nat} (h : FI2 w wr l) (k x : Nat) : FI2 w (wr.setCell ⟨w.heap.size + 1, k, none⟩ (.int .u32 (x : Int))) (l.set k x) where
  b0 := h.b0.far (by show w.heap.size ≠ w.heap.size + 1; omega) _
  b1 := by
    have h4 := h.b1.set k (.int .u32 (x : Int))
    rw [Uw_set] at h4
    exact h4
  be := h.be.setCell (by show w.heap.size ≤ w.heap.size + 1; omega) _
theorem sqs_lt {t : Nat} (h : t < 8) : sqs[t]! < 18446744073709551616 := by
  have h1 : ∀ x ∈ sqs, x < 18446744073709551616 := by decide
  have h2 : t < sqs.length := h
  rw [getElem!_pos sqs t h2]
  exact h1 _ (List.getElem_mem _)
def sqh (t : Nat) : Nat := sqs[t]! / 4294967296
def z8n : List Nat := [0, 0, 0, 0, 0, 0, 0, 0]
theorem first_all : mxl sqh z8n 8 = s256.start := by decide +kernel

set_option maxRecDepth 100000 in
set_option maxHeartbeats 2000000 in
theorem first256_f (w : World) (hT : Tst w) :
    Calls Tryd.prog 52 #[] w fun e w' => e = .returned (.agg (Uw s256.start).toArray) ∧ Below w.heap.size w w' := by
  rw [← first_all]
  have hlen : ∀ t, (mxl sqh z8n t).length = 8 := fun t => by rw [mxl_len]; rfl
  go_enter Tryd.func52, Tryd.ntmps52
  refine wp_seq_k fun K hK => ?_
  refine wp_region_lit ?_
  refine wpl_alloc (zs := z8v) rfl rfl zv8 ?_
  refine wpl_nil ?_
  go_simp
  refine hK _ _ ?_
  clear hK K
  refine wp_seq_k fun K hK => ?_
  refine wp_region_lit ?_
  refine wpl_alloc (zs := z8v) rfl rfl zv8 ?_
  refine wpl_nil ?_
  go_simp
  refine hK _ _ ?_
  clear hK K
  have hb2 : Blk ((w.alloc (.cells z8v 87)).alloc (.cells z8v 87)) (w.heap.size + 1) 87 z8v := by
    have h := Blk.new (w.alloc (.cells z8v 87)) 87 z8v
    rwa [World.size_alloc] at h
  refine wp_at (fun W => FI2 w W z8n) ⟨(Blk.new w _ _).alloc _, hb2, ((Below.refl _ _).alloc (Nat.le_refl _) _).alloc (by simp) _⟩ ?_
  intro W hW
  clear hb2
  have HW := Lib.hid hW
  clear hW
  go_wp2
  go_loopw [3] (fun i wr => ∃ t : Nat, t ≤ 8 ∧ i = .int .i64 t ∧ FI2 w wr (mxl sqh z8n t)) (fun i _ => 8 - (intOf i).toNat)
  case atStart =>
    refine ⟨0, by omega, rfl, ?_⟩
    rw [mxl_zero]
    exact HW.out
  case round =>
    clear HW
    obtain ⟨t, ht, rfl, hS⟩ := hrel
    by_cases htl : t < 8
    · have hN := hS.set t (sqh t)
      rw [mxl_set] at hN
      have hg := (hT.below hS.be).cell t htl
      have hlt := sqs_lt htl
      have c1 := (hS.b1.cell t).trans (Uw_at (by rw [hlen]; omega))
      have f1 := hS.b1.free t
      have e1 : sqh t = sqs[t]! / 4294967296 := rfl
      have hq : sqh t < 4294967296 := by omega
      have q1 : ((sqs[t]! : Nat) : Int) / 4294967296 = ((sqh t : Nat) : Int) := by omega
      have q2 : IntKind.u32.wrap ((sqh t : Nat) : Int) = ((sqh t : Nat) : Int) := by rw [IntKind.wrap_u32]; omega
      have g4 : (0 : Int) ≤ (t : Int) := by omega
      have HN := Lib.hid hN
      clear hS hN e1 hT hlen
      generalize sqh t = y at *
      generalize sqs[t]! = x at *
      generalize (mxl sqh z8n t)[t]! = old at *
      go_wp2
      go_roundw
      case rel => exact ⟨t + 1, by omega, by go_num, HN.out⟩
      case measure => simp [intOf]; omega
    · obtain rfl : t = 8 := by omega
      obtain ⟨b0, b1, be⟩ := hS
      have hz : (Uw (mxl sqh z8n 8)).toArray.size = 8 := by rw [List.size_toArray, Uw_len, hlen]
      clear hT
      go_wp2_with (first
        | (refine wpList_load_row rfl 87 _ rfl (w.heap.size + 1) rfl 87 (Uw (mxl sqh z8n 8)).toArray (0, 0) _ b1 Tryd.underlying87 rfl (size_v8 _ hz) ?_)
        | (refine wpList_store_row rfl 87 _ _ rfl w.heap.size rfl (Uw (mxl sqh z8n 8)).toArray rfl 87 _ b0 (size_v8 _ hz) (by rw [hz]; rfl) (Uw_one _) ?_))
      refine bodyPost_ret (results_cell_row rfl _ _ w.heap.size 87 (Uw (mxl sqh z8n 8)).toArray (0, 0) _ rfl (b0.row _) Tryd.underlying87 rfl (size_v8 _ hz)) rfl ⟨rfl, ?_⟩
      exact below_setRow be (Nat.le_refl _) _
end Go.Proofs.YtcbfalfkdnfelaaDoor
/-
  THE DIGESTS, over states: Sum256.
-/
namespace Go.Proofs.YtcbfalfkdnfelaaDoor
open Go.RowKit Go.IntWalk Nums

theorem own_lay256 : Own 56 := fun _ _ => by go_simp
theorem own_first256 : Own 52 := fun _ _ => by go_simp
theorem own_sum256 : Own 48 := fun _ _ => by go_simp
def start256 : Oct := ⟨s256.start[0]!, s256.start[1]!, s256.start[2]!, s256.start[3]!, s256.start[4]!, s256.start[5]!, s256.start[6]!, s256.start[7]!⟩
theorem start256_ob : OB 32 start256 := by
  constructor <;> decide
theorem start256_list : start256.list = s256.start := by decide
theorem OB.list_lt2 {o : Oct} (h : OB 32 o) : ∀ x ∈ o.list, x < 4294967296 := by
  intro x hx
  simp only [Oct.list, List.mem_cons, List.not_mem_nil, or_false] at hx
  rcases hx with rfl | rfl | rfl | rfl | rfl | rfl | rfl | rfl
  · exact h.a
  · exact h.b
  · exact h.c
  · exact h.d
  · exact h.e
  · exact h.f
  · exact h.g
  · exact h.h
theorem own_take256 : Own 54 := fun _ _ => by go_simp
instance pst_st : Pst Tst := ⟨fun _ _ h hb => h.below hb⟩
theorem first256_C : Ct Tst 52 [] (one (.q (eZ 8 start256.list))) := ⟨own_first256, Spec.pure (eZ_ok rfl) fun w h => by
  rw [start256_list]
  exact first256_f w h⟩
/-- What a full block does. -/
def k256 : BK := ⟨s256, 64, 87, 89, fun o => [.agg 8 (Uw o.list).toArray], 54⟩
theorem k256_ok : k256.Ok where
  n64 := by decide
  n128 := by decide
  own := own_take256
  tk := fun {gh gb o b} ho hb => by
    refine spec_S (own := k256.R gh gb o b) [.c (.v (atG gh)), .c (.v (atG gb))] 5 Tryd.func54 rfl (by rw [Tryd.ntmps54]; rfl) (two_ok trivial trivial) fun B => ?_
    refine s_lit (l_ldO TY_ok rfl rfl rfl rfl rfl rfl (rd_obj 0 rfl) (l_ldO TY_ok rfl rfl rfl rfl rfl rfl (rd_obj 1 rfl) ?_))
    refine l_X (turn256_C ho hb) (fun _ => rfl) rfl fun _ => l_stO TY_ok 0 rfl rfl rfl rfl rfl rfl rfl (l_E rfl ?_)
    exact k_ret TY_ok () rfl (by decide) rfl rfl rfl (fun _ _ _ => trivial) fun _ _ => trivial
theorem lay256_C {F : World → Prop} {o : Oct} (ho : OB 32 o) : Ct F 56 [eZ 8 o.list] (one (.q (eY 32 (o.list.map (layw s256)).flatten))) := ⟨own_lay256, Spec.pure (eY_ok (by rw [flat_lenB (layw s256) fun x => layw_len s256 x]; rfl)).1 fun w _ => lay256_f rfl (OB.list_lt2 ho) w⟩
theorem sum256_C {P : Option Addr} {pc : Nat} {ss : List Seg} (hn : ss.length ≤ 9223372036854775807) : Ct (fun w => Tsh w ∧ PartsF P pc ss w) 48 [.c (.v (.slice P ss.length pc))] (one (.q (eY 32 (digest s256 (ss.map Seg.l).flatten)))) := ⟨own_sum256, by
  refine spec_S [.c (.v (.slice P ss.length pc))] 12 Tryd.func48 rfl (by rw [Tryd.ntmps48]; rfl) (one_ok trivial) fun B => ?_
  refine s_auto TY_ok rfl ?_
  refine s_reg fun K hK => l_X ((first256_C).imp fun _ h => ⟨h.1.cell, h.1.lt⟩) (fun _ => rfl) rfl fun _ => l_N hK rfl ?_
  refine s_reg fun K hK => l_auto2 rfl (s_end (k_give 4 rfl (E' := [(0, .v (.slice P ss.length pc)), (2, .a 2 0), (3, .a 3 0)]) ⟨rfl, rfl, rfl, trivial⟩ fun gb => k_give 3 rfl (E' := [(4, .v (atG gb)), (0, .v (.slice P ss.length pc)), (2, .a 2 0)]) ⟨rfl, rfl, rfl, trivial⟩ fun gh => hK _ ?_))
  refine s_reg fun K hK => l_op (.v (.slice (some ⟨gb, 0, none⟩) 64 64)) trivial rfl rfl rfl (runO_allP rfl Tryd.underlying89 size_u8 rfl) (l_autoS TY_ok rfl (l_op (.v (k256.take gh gb)) trivial rfl rfl rfl (run_makeF (vals := [atG gh, atG gb]) rfl rfl fun _ => rfl) ?_))
  refine l_callA (own := k256.R gh gb start256 (List.replicate 64 0)) (R' := []) [.slice (some ⟨gb, 0, none⟩) 64 64, .slice P ss.length pc, k256.take gh gb] rfl rfl rfl own_fill rfl rfl (fun _ _ => rfl) (fill_S k256_ok start256_ob List.length_replicate hn) (fun w h _ => ⟨h.1.steps, h.2⟩) fun b' => ?_
  have hD : ((runw s256 64 start256 ((ss.map Seg.l).flatten ++ tailw 64 ((ss.map Seg.l).flatten.length % 64) (8 * (ss.map Seg.l).flatten.length))).list.map (layw s256)).flatten = digest s256 (ss.map Seg.l).flatten := rfl
  have hO : OB 32 (runw s256 64 start256 ((ss.map Seg.l).flatten ++ tailw 64 ((ss.map Seg.l).flatten.length % 64) (8 * (ss.map Seg.l).flatten.length))) := ob_runw (s := s256) _ _ _ (Nat.le_refl _) start256_ob
  refine l_R (k256.R gh gb (runw s256 64 start256 ((ss.map Seg.l).flatten ++ tailw 64 ((ss.map Seg.l).flatten.length % 64) (8 * (ss.map Seg.l).flatten.length))) b'.1) rfl (l_N hK rfl ?_)
  generalize runw s256 64 start256 ((ss.map Seg.l).flatten ++ tailw 64 ((ss.map Seg.l).flatten.length % 64) (8 * (ss.map Seg.l).flatten.length)) = o at *
  refine s_freeO 0 rfl (s_freeO 0 rfl ?_)
  refine s_reg fun K hK => l_ldO TY_ok rfl rfl rfl rfl rfl rfl (fun _ _ _ hv => hv.fact.2.1) (l_X (lay256_C hO) (fun _ => rfl) rfl fun _ => l_N hK rfl (s_ret ?_))
  rw [hD]
  exact k_ret TY_ok () rfl (by decide) rfl rfl rfl (fun _ _ _ => trivial) fun _ _ => trivial⟩
end Go.Proofs.YtcbfalfkdnfelaaDoor
/-
  ROWS OF A LOG, made: their sums, their bytes.
-/
namespace Go.Proofs.YtcbfalfkdnfelaaDoor
open Go.RowKit Go.IntWalk Nums

theorem own_wsum : Own 38 := fun _ _ => by go_simp
theorem own_wrow : Own 29 := fun _ _ => by go_simp
theorem own_wbig : Own 28 := fun _ _ => by go_simp
theorem own_windex : Own 36 := fun _ _ => by go_simp
theorem own_whas : Own 27 := fun _ _ => by go_simp
theorem own_bequal : Own 42 := fun _ _ => by go_simp
section
variable {P : Program} {N : Nat} {E : SE} {o : Oper} {x y : Operand} {t e : TypeId} {g off n j : Nat} {K : IntKind}
/-- A slice of the first of a row behind a pointer. -/
theorem runO_hiP (ho : o.op = .slice t x none (some y) none) (ht : P.underlying t = some (.array n e)) (he : (P.info? e).map (·.size) = some 1) (hx : evS E x = some (.v (.pointer (some ⟨g, off, none⟩)))) (hy : evS E y = some (.v (.int K (j : Int)))) (hj : j ≤ n) (h0 : 0 < n) :
    ∀ (G : Nat → Nat) (a : Act) (w : World), Fr N (denE G E) a → (execOp a.eval o).run P w = .ok (.value ((SV.v (.slice (some ⟨g, off, none⟩) j n)).den G)) w := fun G a w ha => by
  have h1 : a.eval x = .pointer (some ⟨g, off, none⟩) := ha.eval (evS_ok hx)
  have h2 : a.eval y = .int K (j : Int) := ha.eval (evS_ok hy)
  have h3 := run_cutA (P := P) (g := g) (off := off) ht he (lo := none) (hi := some (.int K (j : Int))) (.inl ⟨rfl, rfl⟩) (.inr ⟨K, rfl⟩) (Nat.zero_le _) hj h0 w
  unfold execOp
  simp only [ho, Option.map, h1, h2, Sem.run_bind, h3, Result.andThen_ok, Sem.run_pure]
  rfl
end
set_option maxRecDepth 100000 in
set_option maxHeartbeats 1000000 in
theorem wsum_S {A : Option Addr} {c : Nat} (i : Nat) (x : List UInt8) (hi : i ≤ 9223372036854775807) : Spec 38 [.int .i64 (i : Int), .slice A x.length c] [] (fun w => Tsh w ∧ Rd 1 eB A c x w)
    { ret := fun g : Nat => .v (.slice (some ⟨g, 0, none⟩) (sumD i x).length 32), p := fun g => Rd 1 eB (some ⟨g, 0, none⟩) 32 (sumD i x) } := by
  refine spec_S [.c (.v (.int .i64 (i : Int))), .c (.v (.slice A x.length c))] 14 Tryd.func38 rfl (by rw [Tryd.ntmps38]; rfl) (two_ok trivial trivial) fun b => ?_
  refine s_auto TY_ok rfl ?_
  refine s_regA TY_ok rfl fun K1 hK1 => ?_
  refine l_list TY_ok b.B.heap.size [(6 : UInt8)] (fe := eB) rfl rfl rfl rfl rfl (fun _ => rfl) rfl (by decide) (by decide) (okF_B _) (Nat.le_refl _) fun B1 => ?_
  refine l_free 0 rfl ?_
  refine l_autoS TY_ok rfl ?_
  refine l_num 8 (i : Int) rfl (wrapU rfl (by omega) (by omega)) ?_
  refine l_call0 [.slice none 0 0, .int .u64 (i : Int)] rfl rfl rfl own_wnum rfl rfl (fun _ _ => rfl) (wnum_S (A := none) (c := 0) [] i (by omega) (by decide)) (fun w _ _ => Rd.nil _ _ _) fun g1 => ?_
  refine l_autoS TY_ok rfl ?_
  refine l_list TY_ok b.B.heap.size [⟨B1, 1, [6]⟩, ⟨some ⟨g1, 0, none⟩, (be8 i).length, be8 i⟩, ⟨A, c, x⟩] (fe := eSeg) rfl rfl rfl rfl rfl (fun _ => rfl) rfl (by decide) (by decide) (okF_seg _) (Nat.le_refl _) fun P => ?_
  refine l_free 0 rfl ?_
  obtain ⟨H, hH, hl, ht⟩ : ∃ H, digest s256 (List.map Seg.l [⟨B1, 1, [6]⟩, ⟨some ⟨g1, 0, none⟩, (be8 i).length, be8 i⟩, ⟨A, c, x⟩]).flatten = H ∧ H.length = 32 ∧ H.take 8 = sumD i x := ⟨_, rfl, digest256_len _, by rw [sumD_is]; simp only [List.map_cons, List.map_nil, List.flatten_cons, List.flatten_nil, List.append_nil, List.append_assoc]⟩
  have hs := (sum256_C (P := P) (pc := 3) (ss := [⟨B1, 1, [6]⟩, ⟨some ⟨g1, 0, none⟩, (be8 i).length, be8 i⟩, ⟨A, c, x⟩]) (show (3 : Nat) ≤ 9223372036854775807 by decide)).spec
  rw [hH] at hs
  refine l_call0 [.slice P 3 3] rfl rfl rfl own_sum256 rfl rfl (fun _ _ => rfl) hs (fun w hF hM => ⟨hF.2.2.2.1, fun _ => hF.1, fun s hs => ?_⟩) fun _ => ?_
  · rcases List.mem_cons.1 hs with rfl | hs
    · exact hF.2.2.1
    rcases List.mem_cons.1 hs with rfl | hs
    · exact hM.1
    · rw [List.mem_singleton.1 hs]
      exact hF.2.2.2.2
  refine l_autoS TY_ok rfl ?_
  refine s_end (k_give 5 rfl (E' := []) trivial fun g => hK1 _ ?_)
  refine s_freeO 0 rfl ?_
  refine s_regA TY_ok rfl fun K2 hK2 => ?_
  refine l_op (.v (.slice (some ⟨g, 0, none⟩) 8 32)) trivial rfl rfl rfl (runO_hiP rfl Tryd.underlying54 (by kernel_rfl) rfl rfl (by decide) (by decide)) ?_
  refine l_autoS TY_ok rfl ?_
  refine s_end (hK2 _ ?_)
  refine s_ret (k_ret TY_ok g rfl (by decide) rfl (by rw [sumD_len]; rfl) rfl (fun w h _ => ?_) (fun _ _ => trivial))
  rw [← ht]
  exact (obj_rd (n := 32) h.1 (by decide)).take 8
set_option maxRecDepth 100000 in
set_option maxHeartbeats 1000000 in
theorem wrow_S {A : Option Addr} {c : Nat} (i : Nat) (x : List UInt8) (hi : i ≤ 9223372036854775807) (hx : x.length ≤ 140737488355328) : Spec 29 [.int .i64 (i : Int), .slice A x.length c] [] (fun w => Tsh w ∧ Rd 1 eB A c x w)
    { ret := fun g : Nat => .v (.slice (some ⟨g, 0, none⟩) (rowD i x).length (rowD i x).length), n := fun g => Rd 1 eB (some ⟨g, 0, none⟩) (rowD i x).length (rowD i x) } := by
  refine spec_S [.c (.v (.int .i64 (i : Int))), .c (.v (.slice A x.length c))] 15 Tryd.func29 rfl (by rw [Tryd.ntmps29]; rfl) (two_ok trivial trivial) fun b => ?_
  refine s_auto TY_ok rfl ?_
  refine s_regA TY_ok rfl fun K1 hK1 => ?_
  refine l_num 7 (x.length : Int) rfl (wrapU rfl (by omega) (by omega)) ?_
  refine l_call0 [.slice none 0 0, .int .u64 (x.length : Int)] rfl rfl rfl own_wnum rfl rfl (fun _ _ => rfl) (wnum_S (A := none) (c := 0) [] x.length (by omega) (by decide)) (fun w _ _ => Rd.nil _ _ _) fun g1 => ?_
  refine l_autoS TY_ok rfl ?_
  refine l_call0 [.int .i64 (i : Int), .slice A x.length c] rfl rfl rfl own_wsum rfl rfl (fun _ _ => rfl) (wsum_S i x hi) (fun w h _ => h.2) fun g2 => ?_
  refine l_autoS TY_ok rfl ?_
  refine l_list TY_ok b.B.heap.size [⟨some ⟨g1, 0, none⟩, (be8 x.length).length, be8 x.length⟩, ⟨some ⟨g2, 0, none⟩, 32, sumD i x⟩, ⟨A, c, x⟩] (fe := eSeg) rfl rfl rfl rfl rfl (fun _ => rfl) rfl (by decide) (by decide) (okF_seg _) (Nat.le_refl _) fun P => ?_
  refine l_free 0 rfl ?_
  have e0 : (List.map Seg.l [⟨some ⟨g1, 0, none⟩, (be8 x.length).length, be8 x.length⟩, ⟨some ⟨g2, 0, none⟩, 32, sumD i x⟩, ⟨A, c, x⟩]).flatten = rowD i x := by
    unfold rowD
    simp only [List.map_cons, List.map_nil, List.flatten_cons, List.flatten_nil, List.append_nil]
  have hj := join_S (A := P) (c := 3) [⟨some ⟨g1, 0, none⟩, (be8 x.length).length, be8 x.length⟩, ⟨some ⟨g2, 0, none⟩, 32, sumD i x⟩, ⟨A, c, x⟩] (by rw [e0, rowD_len]; omega)
  rw [e0] at hj
  refine l_call0 [.slice P 3 3] rfl rfl rfl own_join rfl rfl (fun _ _ => rfl) hj (fun w hF hM => ⟨hF.1, fun s hs => ?_⟩) fun g => ?_
  · rcases List.mem_cons.1 hs with rfl | hs
    · exact hM.2.1
    rcases List.mem_cons.1 hs with rfl | hs
    · exact hF.2.1
    · rw [List.mem_singleton.1 hs]
      exact hF.2.2.2.2
  refine l_autoS TY_ok rfl ?_
  refine s_end (hK1 _ ?_)
  exact s_ret (k_ret TY_ok g rfl (by decide) rfl rfl rfl (fun _ _ _ => trivial) (fun w h => h.1))
set_option maxRecDepth 100000 in
theorem wbig_S {A : Option Addr} {c : Nat} (n : Nat) : Spec 28 [.slice A n c] [] (fun _ => True) (one (.q (eT (decide (1048576 < n))))) := by
  refine spec_S [.c (.v (.slice A n c))] 6 Tryd.func28 rfl (by rw [Tryd.ntmps28]; rfl) (one_ok trivial) fun b => ?_
  refine s_auto TY_ok rfl ?_
  refine s_auto TY_ok rfl ?_
  exact s_ret (k_ret TY_ok () rfl (by decide) rfl (congrArg (fun z => RV.q (eT z)) (decide_eq_decide.2 (by omega))) rfl (fun _ _ _ => trivial) (fun _ _ => trivial))
end Go.Proofs.YtcbfalfkdnfelaaDoor
/-
  THE DOCUMENT'S TAPE, over states.
-/
namespace Go.Proofs.YtcbfalfkdnfelaaDoor
open Go.RowKit Go.IntWalk

/-- What lies in a tape: its bytes, how far they are read, the error. -/
def tpW (A : Option Addr) (c : Nat) (B : List UInt8) (p e : Nat) : List Pt := [.one (.v (.slice A B.length c)), .one (.v (.int .i64 (p : Int))), .one (.v (.int .i64 (e : Int)))]
abbrev TapS (g : Nat) (A : Option Addr) (c : Nat) (B : List UInt8) (p e : Nat) : Res := ObjS g 61 (tpW A c B p e)
theorem own_ttake : Own 31 := fun _ _ => by go_simp
theorem own_tnum : Own 39 := fun _ _ => by go_simp
theorem own_tupto : Own 30 := fun _ _ => by go_simp
section
variable {N : Nat} {E : SE} {o : Oper} {x y z : Operand}
/-- A cut at both ends: s[i:j] of bytes. -/
theorem run_cut2 {A : Option Addr} {n c i j : Nat} (hi : i ≤ j) (hj : j ≤ c) (hA : A = none → c = 0) (ho : o.op = .slice 33 x (some y) (some z) none) (hx : evS E x = some (.v (.slice A n c))) (hy : evS E y = some (.v (.int .i64 (i : Int)))) (hz : evS E z = some (.v (.int .i64 (j : Int)))) :
    ∀ (G : Nat → Nat) (a : Act) (w : World), Fr N (denE G E) a → (execOp a.eval o).run Tryd.prog w = .ok (.value ((SV.v (.slice (cutA A c i) (j - i) (c - i))).den G)) w := fun G a w ha => by
  have h1 : a.eval x = .slice A n c := ha.eval (evS_ok hx)
  have h2 : a.eval y = .int .i64 (i : Int) := ha.eval (evS_ok hy)
  have h6 : a.eval z = .int .i64 (j : Int) := ha.eval (evS_ok hz)
  have h3 : (i : Int) ≤ (j : Int) := by omega
  have h4 : (0 : Int) ≤ (i : Int) := by omega
  have h5 : (j : Int) ≤ (c : Int) := by omega
  have h7 : (0 : Int) ≤ (j : Int) := by omega
  unfold execOp
  simp only [ho]
  generalize a.eval = ρ at *
  simp only [Option.map, h1, h2, h6]
  show _ = Result.ok (Next.value (.slice (cutA A c i) (j - i) (c - i))) w
  cases A with
  | none =>
    obtain rfl : c = 0 := hA rfl
    obtain rfl : j = 0 := by omega
    obtain rfl : i = 0 := by omega
    go_simp
    rfl
  | some ad =>
    unfold cutA
    by_cases e : c = i
    · rw [if_pos e]
      obtain rfl : j = i := by omega
      subst e
      go_simp
    · rw [if_neg e]
      go_simp
end
set_option maxRecDepth 100000 in
set_option maxHeartbeats 1000000 in
theorem ttake_S (g : Nat) {A : Option Addr} {c p : Nat} {B : List UInt8} (s : Rds) (k : Nat) (hp : p ≤ B.length) (hs : B.drop p = s.1) : Spec 31 [ptr g, .int .i64 (k : Int)] [TapS g A c B p s.2] (Rd 1 eB A c B)
    { ret := fun x : Option Addr × Nat × Nat => .v (.slice x.1 (tkO k s).length x.2.1), own := fun x => [TapS g A c B x.2.2 (tkS k s).2], p := fun x w => (x.2.2 ≤ B.length ∧ B.drop x.2.2 = (tkS k s).1) ∧ Rd 1 eB x.1 x.2.1 (tkO k s) w } := by
  refine spec_S [.c (.v (ptr g)), .c (.v (.int .i64 (k : Int)))] 48 Tryd.func31 rfl (by rw [Tryd.ntmps31]; rfl) (two_ok trivial trivial) fun b => ?_
  refine s_pure (B.length ≤ c ∧ (A = none → c = 0) ∧ c ≤ 9223372036854775807) (fun w h _ => ⟨h.1, h.2.2.1, h.2.1⟩) fun ⟨hlc, hA, hcm⟩ => ?_
  have hsl : s.1.length = B.length - p := by rw [← hs, List.length_drop]
  refine s_auto TY_ok rfl ?_
  refine s_seq fun K hK => ?_
  refine s_regA TY_ok rfl fun K1 hK1 => ?_
  refine l_ldO TY_ok rfl rfl rfl rfl rfl rfl (obj_own 0 rfl) ?_
  refine l_autoS TY_ok rfl ?_
  refine s_end (hK1 _ ?_)
  refine s_ifD ((s.2 : Int) ≠ 0) rfl (fun h0 => ?_) (fun h0 => ?_)
  · have h0 : s.2 ≠ 0 := by omega
    obtain ⟨e1, e2⟩ := tk_stick (k := k) h0
    refine s_auto TY_ok rfl ?_
    exact s_ret (k_ret TY_ok (none, 0, p) rfl (by decide) rfl (by rw [e1]; rfl) (by rw [e2]) (fun w hF _ => by rw [e1, e2]; exact ⟨⟨hp, hs⟩, Rd.nil _ _ _⟩) (fun _ _ => trivial))
  have h0 : s.2 = 0 := by omega
  refine s_skip (hK _ ?_)
  refine s_seq fun K2 hK2 => ?_
  refine s_regD 12 (by decide) (by kernel_rfl) (by kernel_rfl) fun K3 hK3 G S w0 hst => ?_
  refine g_autoS TY_ok hst rfl ?_
  refine g_ldO TY_ok hst rfl rfl rfl rfl rfl rfl (obj_own 0 rfl) ?_
  refine g_autoS TY_ok hst rfl ?_
  refine g_ldO TY_ok hst rfl rfl rfl rfl rfl rfl (obj_own 0 rfl) ?_
  refine g_autoS TY_ok hst rfl ?_
  refine g_endS hst ?_
  refine l_eq 21 (.b (decide (B.length - p < k))) rfl (congrArg SV.b (decide_eq_decide.2 (by rw [wrapI (r := ((B.length - p : Nat) : Int)) (by omega) (by omega) (by omega)]; omega))) ?_
  refine s_end (hK3 _ ?_)
  refine s_ifD (B.length - p < k) rfl (fun h1 => ?_) (fun h1 => ?_)
  · obtain ⟨e1, e2⟩ := tk_less (k := k) h0 (by omega)
    refine s_regA TY_ok rfl fun K4 hK4 => ?_
    refine l_stO TY_ok 0 rfl rfl rfl rfl rfl rfl rfl ?_
    refine s_end (hK4 _ ?_)
    refine s_auto TY_ok rfl ?_
    exact s_ret (k_ret TY_ok (none, 0, p) rfl (by decide) rfl (by rw [e1]; rfl) (by rw [e2]; rfl) (fun w hF _ => by rw [e1, e2]; exact ⟨⟨hp, hs⟩, Rd.nil _ _ _⟩) (fun _ _ => trivial))
  have hkl : k ≤ s.1.length := by omega
  obtain ⟨e1, e2⟩ := tk_take (k := k) h0 hkl
  refine s_skip (hK2 _ ?_)
  refine s_regA TY_ok rfl fun K5 hK5 => ?_
  refine l_ldO TY_ok rfl rfl rfl rfl rfl rfl (obj_own 0 rfl) ?_
  refine l_autoS TY_ok rfl ?_
  refine l_num 30 ((p + k : Nat) : Int) rfl (wrapI (by omega) (by omega) (by omega)) ?_
  refine l_stO TY_ok 0 rfl rfl rfl rfl rfl rfl rfl ?_
  refine s_end (hK5 _ ?_)
  refine s_regD 16 (by decide) (by kernel_rfl) (by kernel_rfl) fun K6 hK6 G S w0 hst => ?_
  refine g_autoS TY_ok hst rfl ?_
  refine g_ldO TY_ok hst rfl rfl rfl rfl rfl rfl (obj_own 0 rfl) ?_
  refine g_autoS TY_ok hst rfl ?_
  refine g_ldO TY_ok hst rfl rfl rfl rfl rfl rfl (obj_own 0 rfl) ?_
  refine g_autoS TY_ok hst rfl ?_
  refine g_num 42 (p : Int) rfl (wrapI (by omega) (by omega) (by omega)) ?_
  refine g_ldO TY_ok hst rfl rfl rfl rfl rfl rfl (obj_own 0 rfl) ?_
  refine g_opS (.v (.slice (cutA A c p) (p + k - p) (c - p))) trivial rfl rfl rfl (run_cut2 (by omega) (by omega) hA rfl rfl rfl rfl) ?_
  refine g_autoS TY_ok hst rfl ?_
  refine g_endS hst ?_
  refine s_end (hK6 _ ?_)
  have e4 : (tkO k s).length = p + k - p := by rw [e1, List.length_take]; omega
  refine s_ret (k_ret TY_ok (cutA A c p, c - p, p + k) rfl (by decide) rfl (by rw [e4]; rfl) (by rw [e2]; dsimp only [TapS, tpW]; rw [h0]; rfl) (fun w hF _ => ?_) (fun _ _ => trivial))
  rw [e1, e2]
  refine ⟨⟨by show p + k ≤ _; omega, by show B.drop (p + k) = s.1.drop k; rw [← hs, List.drop_drop]⟩, ?_⟩
  rw [← hs]
  exact (hF.part hp).take k
theorem step_u (a : Nat) (x : UInt8) : IntKind.u64.wrap (IntKind.u64.wrap (256 * (a : Int)) + IntKind.u64.wrap (x.toNat : Int)) = (step a x : Int) := by
  rw [u64_is, u64_is, u64_is]
  unfold step
  have := x.toNat_lt
  omega
set_option maxRecDepth 100000 in
set_option maxHeartbeats 1000000 in
theorem tnum_S (g : Nat) {A : Option Addr} {c p : Nat} {B : List UInt8} (s : Rds) (hp : p ≤ B.length) (hs : B.drop p = s.1) : Spec 39 [ptr g] [TapS g A c B p s.2] (Rd 1 eB A c B)
    { ret := fun _ : Nat => .v (.int .u64 (nuO s : Int)), own := fun x => [TapS g A c B x (nuS s).2], p := fun x _ => x ≤ B.length ∧ B.drop x = (nuS s).1 } := by
  refine spec_S [.c (.v (ptr g))] 20 Tryd.func39 rfl (by rw [Tryd.ntmps39]; rfl) (one_ok trivial) fun b => ?_
  refine s_auto TY_ok rfl ?_
  refine s_auto TY_ok rfl ?_
  refine s_seq fun K hK => ?_
  refine s_regA TY_ok rfl fun K1 hK1 => ?_
  refine l_callA [ptr g, .int .i64 ((8 : Nat) : Int)] rfl rfl rfl own_ttake rfl rfl (fun _ _ => rfl) (ttake_S g s 8 hp hs) (fun w h _ => h) fun ⟨A1, c1, p'⟩ => ?_
  refine l_R [TapS g A c B p' (nuS s).2] rfl ?_
  refine l_autoS TY_ok rfl ?_
  refine s_end (hK1 _ ?_)
  have hl : (tkO 8 s).length ≤ 8 := (tkO_le 8 s).1
  have hv0 : nuO s = val (tkO 8 s) := rfl
  generalize tkO 8 s = l at *
  refine s_block ?_
  let F : Nat → Env := fun i => ⟨[(9, .v (.int .i64 (i : Int))), (8, .v (.int .i64 (l.length : Int))), (7, .v (.slice A1 l.length c1)), (3, .v (.int .u64 (val (l.take i) : Int)))], [], [TapS g A c B p' (nuS s).2], fun w => (p' ≤ B.length ∧ B.drop p' = (nuS s).1) ∧ Rd 1 eB A1 c1 l w, fun _ => True⟩
  refine c_weak (e' := F 0) ⟨⟨rfl, rfl, rfl, rfl, trivial⟩, trivial, .refl _, fun _ h _ => h.1, fun _ _ => trivial⟩ (s_loop (fun i => l.length - i) F (fun i => i ≤ l.length) ?_ 0 (Nat.zero_le _))
  intro i hi
  refine s_auto TY_ok rfl ?_
  refine s_seq fun K1 hK1 => ?_
  refine s_ifD ((i : Int) < (l.length : Int)) rfl (fun hlt => ?_) (fun hge => ?_)
  · have hlt : i < l.length := by omega
    obtain ⟨x, hx⟩ : ∃ x, l[i]? = some x := ⟨_, List.getElem?_eq_getElem hlt⟩
    have hv := val_next hx
    refine s_skip (hK1 _ ?_)
    refine s_seq fun K2 hK2 => ?_
    refine s_block ?_
    refine s_regA TY_ok rfl fun K3 hK3 => ?_
    refine l_elem TY_ok rfl rfl rfl i rfl hx rfl rfl (rd_fact fun w h _ => h.2) ?_
    refine l_autoS TY_ok rfl ?_
    refine s_end (hK3 _ ?_)
    refine s_lit ?_
    refine l_autoS TY_ok rfl ?_
    refine l_num 3 (val (l.take (i + 1)) : Int) rfl (by rw [hv]; exact step_u _ _) ?_
    refine s_end (hK2 _ ?_)
    refine s_autoE TY_ok rfl ?_
    exact k_next (i + 1) hlt (by omega) ⟨⟨congrArg some (congrArg SV.v (congrArg (Value.int .i64) (wrapI rfl (by omega) (by omega)))), rfl, rfl, rfl, trivial⟩, trivial, .refl _, fun _ h _ => h, fun _ h => h⟩
  · obtain rfl : l.length = i := by omega
    refine s_exit (k_pass (k_pass (k_out ?_)))
    refine hK _ ?_
    rw [List.take_length]
    refine s_auto TY_ok rfl ?_
    exact s_ret (k_ret TY_ok p' rfl (by decide) rfl (by rw [hv0]; rfl) rfl (fun _ h _ => h.1) (fun _ _ => trivial))
set_option maxRecDepth 100000 in
theorem tupto_S (g : Nat) {A : Option Addr} {c p : Nat} {B : List UInt8} (s : Rds) (m : Nat) (hm : m ≤ 9223372036854775807) (hp : p ≤ B.length) (hs : B.drop p = s.1) : Spec 30 [ptr g, .int .u64 (m : Int)] [TapS g A c B p s.2] (Rd 1 eB A c B)
    { ret := fun _ : Nat => .v (.int .i64 (moO m s : Int)), own := fun x => [TapS g A c B x (moS m s).2], p := fun x _ => x ≤ B.length ∧ B.drop x = (moS m s).1 } := by
  refine spec_S [.c (.v (ptr g)), .c (.v (.int .u64 (m : Int)))] 16 Tryd.func30 rfl (by rw [Tryd.ntmps30]; rfl) (two_ok trivial trivial) fun b => ?_
  refine s_auto TY_ok rfl ?_
  refine s_regA TY_ok rfl fun K1 hK1 => ?_
  refine l_callA [ptr g] rfl rfl rfl own_tnum rfl rfl (fun _ _ => rfl) (tnum_S g s hp hs) (fun w h _ => h) fun p' => ?_
  refine l_R [TapS g A c B p' (nuS s).2] rfl ?_
  refine l_autoS TY_ok rfl ?_
  refine s_end (hK1 _ ?_)
  refine s_seq fun K2 hK2 => ?_
  refine s_auto TY_ok rfl ?_
  refine s_ifD ((nuO s : Int) > (m : Int)) rfl (fun h1 => ?_) (fun h1 => ?_)
  · have e1 : moO m s = 0 := if_pos (by omega)
    have e2 : moS m s = ((nuS s).1, 12) := if_pos (by omega)
    refine s_regA TY_ok rfl fun K4 hK4 => ?_
    refine l_stO TY_ok 0 rfl rfl rfl rfl rfl rfl rfl ?_
    refine s_end (hK4 _ ?_)
    refine s_auto TY_ok rfl ?_
    exact s_ret (k_ret TY_ok p' rfl (by decide) rfl (by rw [e1]; rfl) (by rw [e2]; rfl) (fun w h _ => by rw [e2]; exact h.1) (fun _ _ => trivial))
  · have e1 : moO m s = nuO s := if_neg (by omega)
    have e2 : moS m s = nuS s := if_neg (by omega)
    refine s_skip (hK2 _ ?_)
    refine s_regA TY_ok rfl fun K4 hK4 => ?_
    refine l_num 4 (nuO s : Int) rfl (wrapI rfl (by omega) (by omega)) ?_
    refine s_end (hK4 _ ?_)
    exact s_ret (k_ret TY_ok p' rfl (by decide) rfl (by rw [e1]; rfl) (by rw [e2]) (fun w h _ => by rw [e2]; exact h.1) (fun _ _ => trivial))
end Go.Proofs.YtcbfalfkdnfelaaDoor
/-
  DRAWN REGIONS WITH MEMORY, over states: any operations that only read may be taken first, the others in their order.
-/
namespace Go.Proofs.YtcbfalfkdnfelaaDoor
open Go.RowKit Go.IntWalk

section
variable {P : Program} {ops : Array Oper} {Q : Exit → Act → World → Prop} {Inv : World → Prop}
def wpAnyP (P : Program) (ops : Array Oper) (Q : Exit → Act → World → Prop) (Inv : World → Prop) (p : Nat → Bool) (Fin : Array Bool → Act → World → Prop) : Nat → Array Bool → Act → World → Prop
  | 0, listed, a, w => (∀ j ∈ Region.ready .any ops listed, ∀ i, p i = true → waitsT .any ops ops.size j i = true) ∧ Fin listed a w
  | fuel + 1, listed, a, w => Region.ready .any ops listed ≠ [] ∧ ∀ i ∈ Region.ready .any ops listed, wpOp P ops Q i (fun a' w' => Inv w' ∧ wpAnyP P ops Q Inv p Fin fuel (listed.setIfInBounds i true) a' w') a w
/-- The rest, whatever the order. -/
abbrev FinA (P : Program) (ops : Array Oper) (Q : Exit → Act → World → Prop) (m : Nat) : Array Bool → Act → World → Prop := fun listed a w => wpAny P .any ops Q m listed a w
theorem wpAny_of_P {p : Nat → Bool} {m : Nat} : ∀ (fuel : Nat) (listed : Array Bool) (a : Act) (w : World), wpAnyP P ops Q Inv p (FinA P ops Q m) fuel listed a w → wpAny P .any ops Q (m + fuel) listed a w
  | 0, _, _, _, h => h.2
  | fuel + 1, _, _, _, h => ⟨fun h0 => absurd h0 h.1, fun i hi => wpOp_mono (fun a' w' h' => wpAny_of_P fuel _ a' w' h'.2) (h.2 i hi)⟩
theorem P_first {p : Nat → Bool} {Fin : Array Bool → Act → World → Prop} {i : Nat} {oi : Oper} {v : Value} (hin : p i = true) (hi : ops[i]? = some oi) (hst : stillG oi.op = true) (hsel : ∀ (j : Nat) (o : Oper) cs b, ops[j]? = some o → o.op ≠ .select cs b) (hQ : ∀ c a d v w, Q (.panic c) (a.put d v) w → Q (.panic c) a w) :
    ∀ (fuel : Nat) (listed : Array Bool) (a : Act) (w : World), Inv w → Closed .any ops listed →
      (∀ j oj, ops[j]? = some oj → j ≠ i → listed.getD j true = false → (∀ e ∈ oj.after, Region.binds .any e = true → e.on ≠ i) → oi.apart ops oj = true) →
      i ∈ Region.ready .any ops listed → YieldsB P ops Inv oi (· = v) a → wpAnyP P ops Q Inv p Fin fuel (listed.setIfInBounds i true) (a.put oi.dst v) w → wpAnyP P ops Q Inv p Fin (fuel + 1) listed a w := by
  intro fuel
  induction fuel with
  | zero =>
    intro listed a w hC hcs _ hr hy H
    refine ⟨fun h => (by rw [h] at hr; cases hr), fun j hj => ?_⟩
    by_cases hji : j = i
    · subst hji
      exact still_wpOp hi hst hy hC ⟨hC, H⟩
    · have h1 := H.1 j (ready_mono hj hji) i hin
      obtain ⟨_, oj, hoj, hall⟩ := mem_ready.1 hj
      have h6 := hcs.waits _ j i oj hoj hall h1
      rw [getD_ready hr] at h6
      cases h6
  | succ fuel ih =>
    intro listed a w hC hcs hfree hr hy H
    refine ⟨fun h => (by rw [h] at hr; cases hr), fun j hj => ?_⟩
    by_cases hji : j = i
    · subst hji
      exact still_wpOp hi hst hy hC ⟨hC, H⟩
    · obtain ⟨hjun, oj, hoj, hall⟩ := mem_ready.1 hj
      have hnot : ∀ e ∈ oj.after, Region.binds .any e = true → e.on ≠ i := fun e he hb heq => by
        have h1 := hall e he hb
        rw [heq, getD_ready hr] at h1
        cases h1
      have h2 := wpOp_putB (V := (· = v)) hoj (hfree j oj hoj hji hjun hnot) (fun cs b => hsel i oi cs b hi) (fun cs b => hsel j oj cs b hoj) ⟨v, rfl⟩ (.inr ⟨v, fun _ h => h⟩) hQ hy (fun u hu => by
        subst hu
        exact H.2 j (ready_mono hj hji))
      have hun' : ∀ k, (listed.setIfInBounds j true).getD k true = false → listed.getD k true = false := fun k hun => by
        by_cases hjk : j = k
        · subst hjk; exact hjun
        · rw [getD_set_ne true hjk] at hun; exact hun
      refine wpOp_mono (fun a' w' h3 => ?_) h2
      obtain ⟨hy', h4⟩ := h3
      obtain ⟨hC', h5⟩ := h4 v rfl
      refine ⟨hC', ih (listed.setIfInBounds j true) a' w' hC' (hcs.set hj) (fun k ok hk hki hun hno => hfree k ok hk hki (hun' k hun) hno) (ready_mono hr (Ne.symm hji)) hy' ?_⟩
      rw [Array.setIfInBounds_comm _ _ hji]
      exact h5
end
def pS (P : Program) (b : Base) (Q : Exit → Act → World → Prop) (N : Nat) (ops : Array Oper) (Inv : World → Prop) (p : Nat → Bool) (Fin : Array Bool → Act → World → Prop) (fuel : Nat) (listed : Array Bool) (e : Env) : Prop := Closed .any ops listed → ∀ a w, St b N e a w → Inv w → wpAnyP P ops (NoPanic Q) Inv p Fin fuel listed a w
/-- May it be taken here, ahead of all that is left? -/
def frontP (ops : Array Oper) (p : Nat → Bool) (i : Nat) (listed : Array Bool) : Bool := p i && (Region.ready .any ops listed).contains i && Region.free .any ops listed i && Region.noSelect ops
section
variable {P : Program} {T : List TyR} {b : Base} {ops : Array Oper} {Q : Exit → Act → World → Prop} {N fuel : Nat} {p : Nat → Bool} {Fin : Array Bool → Act → World → Prop} {listed : Array Bool} {E : SE} {L L0 : List LV} {R : List Res} {F M : World → Prop} {Inv : World → Prop} {e : Env}
theorem panic_putP : ∀ c (a : Act) d v w, NoPanic Q (.panic c) (a.put d v) w → NoPanic Q (.panic c) a w := fun _ _ _ _ _ h => h
/-- A step that only reads is taken first. -/
theorem p_front {o : Oper} {k : Nat} {v : SV} (hT : OkT P T) (i : Nat) (hc : frontP ops p i listed = true) (ho : ops[i]? = some o) (hg : o.guard = none) (hd : o.dst = some k) (hk : Nat.blt k N = true) (hs : stillG o.op = true) (hv : stepS T E L0 o.op = some v) (hsub : ∀ x ∈ L0, x ∈ L)
    (hn : pS P b Q N ops (InvL L0) p Fin fuel (listed.setIfInBounds i true) ⟨(k, v) :: E, L, R, F, M⟩) : pS P b Q N ops (InvL L0) p Fin (fuel + 1) listed ⟨E, L, R, F, M⟩ := fun hcs a w hst hI => by
  obtain ⟨G, S, h1, h2, h3⟩ := hst
  simp only [frontP, Bool.and_eq_true] at hc
  obtain ⟨⟨⟨hin, hr⟩, hfr⟩, hsel⟩ := hc
  have hr' : i ∈ Region.ready .any ops listed := by simpa using hr
  obtain ⟨h4, h5⟩ := stepS_ok hT h2 (fun x hx => (h3.var x (hsub x hx)).2.1) hv
  have h6 := hn (hcs.set hr') (a.put (some k) (v.den G)) w ⟨G, S, h1.put hk _, h2.cons h4, h3⟩ hI
  refine P_first hin ho hs (Region.noSelect_spec hsel) panic_putP fuel listed a w hI hcs (Region.free_spec ho hfr) hr' (v := v.den G) (.inl ⟨by simp [Region.wanted, hg], fun w' hw' => ?_⟩) (by rw [hd]; exact h6)
  unfold atB
  rw [h5 h1 fun x hx => by
    obtain ⟨g, e1, e2⟩ := hw' x hx
    rw [(h3.var x (hsub x hx)).2.2 g e1]
    exact e2]
  exact ⟨rfl, rfl⟩
/-- A step whose value hangs on the frame alone is taken first. -/
theorem p_frontO {o : Oper} {k : Nat} (v : SV) (hvo : v.Ok) (i : Nat) (hc : frontP ops p i listed = true) (ho : ops[i]? = some o) (hg : o.guard = none) (hd : o.dst = some k) (hk : Nat.blt k N = true) (hs : stillG o.op = true) (hv : ∀ (G : Nat → Nat) (a : Act) (w : World), Fr N (denE G E) a → (execOp a.eval o).run P w = .ok (.value (v.den G)) w)
    (hn : pS P b Q N ops Inv p Fin fuel (listed.setIfInBounds i true) ⟨(k, v) :: E, L, R, F, M⟩) : pS P b Q N ops Inv p Fin (fuel + 1) listed ⟨E, L, R, F, M⟩ := fun hcs a w hst hI => by
  obtain ⟨G, S, h1, h2, h3⟩ := hst
  simp only [frontP, Bool.and_eq_true] at hc
  obtain ⟨⟨⟨hin, hr⟩, hfr⟩, hsel⟩ := hc
  have hr' : i ∈ Region.ready .any ops listed := by simpa using hr
  have h6 := hn (hcs.set hr') (a.put (some k) (v.den G)) w ⟨G, S, h1.put hk _, h2.cons hvo, h3⟩ hI
  refine P_first hin ho hs (Region.noSelect_spec hsel) panic_putP fuel listed a w hI hcs (Region.free_spec ho hfr) hr' (v := v.den G) (.inl ⟨by simp [Region.wanted, hg], fun w' _ => ?_⟩) (by rw [hd]; exact h6)
  unfold atB
  rw [hv G a w' h1]
  exact ⟨rfl, rfl⟩
/-- The only one that may come next. -/
theorem p_step {o : Oper} (i : Nat) (hr : Region.ready .any ops listed = [i]) (ho : ops[i]? = some o) (h : ∀ K : Act → World → Prop, (∀ e', (∀ a w, St b N e' a w → Inv w) → pS P b Q N ops Inv p Fin fuel (listed.setIfInBounds i true) e' → kS b K N e') → lS P b ops (Exit.then K (NoPanic Q)) N [o] e) : pS P b Q N ops Inv p Fin (fuel + 1) listed e := fun hcs a w hst _ =>
  ⟨by rw [hr]; simp, fun j hj => by
    rw [hr, List.mem_singleton] at hj
    subst hj
    have hcs' := hcs.set (i := j) (by rw [hr]; simp)
    exact wpOp_of_list ho (h (fun a' w' => Inv w' ∧ wpAnyP P ops (NoPanic Q) Inv p Fin fuel (listed.setIfInBounds j true) a' w') (fun e' hI' ha a' w' hs' => ⟨hI' a' w' hs', ha hcs' a' w' hs' (hI' a' w' hs')⟩) a w hst)⟩
/-- What can be seen, taken first: whatever the worlds with Inv say. -/
theorem p_frontI {o : Oper} {k : Nat} (v : SV) (hvo : v.Ok) (i : Nat) (hc : frontP ops p i listed = true) (ho : ops[i]? = some o) (hg : o.guard = none) (hd : o.dst = some k) (hk : Nat.blt k N = true) (hs : stillG o.op = true) (hv : ∀ (G : Nat → Nat) (a : Act) (w : World), Fr N (denE G E) a → Inv w → (execOp a.eval o).run P w = .ok (.value (v.den G)) w)
    (hn : pS P b Q N ops Inv p Fin fuel (listed.setIfInBounds i true) ⟨(k, v) :: E, L, R, F, M⟩) : pS P b Q N ops Inv p Fin (fuel + 1) listed ⟨E, L, R, F, M⟩ := fun hcs a w hst hI => by
  obtain ⟨G, S, h1, h2, h3⟩ := hst
  simp only [frontP, Bool.and_eq_true] at hc
  obtain ⟨⟨⟨hin, hr⟩, hfr⟩, hsel⟩ := hc
  have hr' : i ∈ Region.ready .any ops listed := by simpa using hr
  have h6 := hn (hcs.set hr') (a.put (some k) (v.den G)) w ⟨G, S, h1.put hk _, h2.cons hvo, h3⟩ hI
  refine P_first hin ho hs (Region.noSelect_spec hsel) panic_putP fuel listed a w hI hcs (Region.free_spec ho hfr) hr' (v := v.den G) (.inl ⟨by simp [Region.wanted, hg], fun w' hw' => ?_⟩) (by rw [hd]; exact h6)
  unfold atB
  rw [hv G a w' h1 hw']
  exact ⟨rfl, rfl⟩
theorem p_frontS {o : Oper} {k : Nat} {v : SV} (hT : OkT P T) (i : Nat) (hc : frontP ops p i listed = true) (ho : ops[i]? = some o) (hg : o.guard = none) (hd : o.dst = some k) (hk : Nat.blt k N = true) (hs : stillG o.op = true) (hv : stepS T E L0 o.op = some v) (hsub : ∀ x ∈ L0, x ∈ L) (hI : ∀ w, Inv w → InvL L0 w)
    (hn : pS P b Q N ops Inv p Fin fuel (listed.setIfInBounds i true) ⟨(k, v) :: E, L, R, F, M⟩) : pS P b Q N ops Inv p Fin (fuel + 1) listed ⟨E, L, R, F, M⟩ := fun hcs a w hst hI0 => by
  obtain ⟨G, S, h1, h2, h3⟩ := hst
  simp only [frontP, Bool.and_eq_true] at hc
  obtain ⟨⟨⟨hin, hr⟩, hfr⟩, hsel⟩ := hc
  have hr' : i ∈ Region.ready .any ops listed := by simpa using hr
  obtain ⟨h4, h5⟩ := stepS_ok hT h2 (fun x hx => (h3.var x (hsub x hx)).2.1) hv
  have h6 := hn (hcs.set hr') (a.put (some k) (v.den G)) w ⟨G, S, h1.put hk _, h2.cons h4, h3⟩ hI0
  refine P_first hin ho hs (Region.noSelect_spec hsel) panic_putP fuel listed a w hI0 hcs (Region.free_spec ho hfr) hr' (v := v.den G) (.inl ⟨by simp [Region.wanted, hg], fun w' hw' => ?_⟩) (by rw [hd]; exact h6)
  unfold atB
  rw [h5 h1 fun x hx => by
    obtain ⟨g, e1, e2⟩ := hI w' hw' x hx
    rw [(h3.var x (hsub x hx)).2.2 g e1]
    exact e2]
  exact ⟨rfl, rfl⟩
/-- What lies behind a pointer, taken first. -/
theorem p_ldO {o : Oper} {k : Nat} {t ty : TypeId} {x : Operand} {g off : Nat} {ps : List Pt} {q : SQ} (hT : OkT P T) (i : Nat) (hc : frontP ops p i listed = true) (ho : ops[i]? = some o) (hg : o.guard = none) (hd : o.dst = some k) (hk : Nat.blt k N = true) (hop : o.op = .load t x) (hx : evS E x = some (.v (.pointer (some ⟨g, off, none⟩)))) (hl : loadS T ps t off = some q) (hok : OkP ps) (hI : ∀ w, Inv w → ObjF g ty ps w)
    (hn : pS P b Q N ops Inv p Fin fuel (listed.setIfInBounds i true) ⟨(k, .q q) :: E, L, R, F, M⟩) : pS P b Q N ops Inv p Fin (fuel + 1) listed ⟨E, L, R, F, M⟩ :=
  p_frontI (.q q) (loadS_at hT hok hl).1 i hc ho hg hd hk (by rw [hop]; rfl) (fun _ _ w ha hw => (load_obj hT hop hx hl ha (hI w hw)).2) hn
/-! ### The rest in its order -/
def forcedJ (ops : Array Oper) : List Nat → Array Bool → Bool
  | [], listed => (Region.ready .any ops listed).isEmpty
  | k :: ks, listed => decide (Region.ready .any ops listed = [k]) && forcedJ ops ks (listed.setIfInBounds k true)
/-- The operations of these numbers. -/
def opsJ (l : List Oper) : List Nat → List Oper
  | [] => []
  | k :: ks => match l[k]? with
    | some o => o :: opsJ l ks
    | none => []
theorem wpAny_forcedJ {l : List Oper} : ∀ (ks : List Nat) (listed : Array Bool) (a : Act) (w : World), (∀ k ∈ ks, k < l.length) → forcedJ l.toArray ks listed = true →
    wpList P l.toArray Q (opsJ l ks) a w → wpAny P .any l.toArray Q ks.length listed a w
  | [], _, _, _, _, hB, h => ⟨by simpa [forcedJ] using hB, h⟩
  | k :: ks, listed, a, w, hl, hB, h => by
    obtain ⟨o, ho⟩ : ∃ o, l[k]? = some o := ⟨_, List.getElem?_eq_getElem (hl k List.mem_cons_self)⟩
    have h0 : l.toArray[k]? = some o := by simpa using ho
    simp only [forcedJ, Bool.and_eq_true, decide_eq_true_eq] at hB
    obtain ⟨hr, hB'⟩ := hB
    unfold opsJ at h
    rw [ho] at h
    dsimp only at h
    refine ⟨fun e => (by rw [hr] at e; cases e), fun i hi => ?_⟩
    rw [hr, List.mem_singleton] at hi
    subst hi
    have hl' : ∀ j ∈ ks, j < l.length := fun j hj => hl j (List.mem_cons_of_mem _ hj)
    unfold wpOp
    simp only [h0]
    unfold wpList at h
    split
    · rename_i hw
      simp only [hw, if_true] at h
      exact h.imp (Oper.wp_mono fun a' w' h' => wpAny_forcedJ ks _ a' w' hl' hB' h') id
    · rename_i hw
      simp only [hw] at h
      exact wpAny_forcedJ ks _ _ _ hl' hB' (by simpa using h)
def memJ (ks : List Nat) (i : Nat) : Bool := ks.any fun k => Nat.beq k i
/-- The rest is forced. -/
theorem p_tail {ks : List Nat} (js : List Nat) {l l' : List Oper} (hB : ((Region.ready .any l.toArray listed).all (fun j => ks.all fun i => waitsT .any l.toArray l.toArray.size j i) && js.all (fun k => decide (k < l.length)) && forcedJ l.toArray js listed) = true) (hl : opsJ l js = l') (h : lS P b l.toArray (NoPanic Q) N l' e) :
    pS P b Q N l.toArray Inv (memJ ks) (FinA P l.toArray (NoPanic Q) js.length) 0 listed e := fun _ a w hst _ => by
  subst hl
  simp only [Bool.and_eq_true, List.all_eq_true, decide_eq_true_eq] at hB
  refine ⟨fun j hj i hi => ?_, wpAny_forcedJ js listed a w hB.1.2 hB.2 (h a w hst)⟩
  obtain ⟨k, hk, e⟩ := List.any_eq_true.1 hi
  obtain rfl := Nat.eq_of_beq_eq_true e
  exact hB.1.1 j hj k hk
/-- A drawn region: so many steps in whatever order (those of ks that only read first), then the others (js) in their order. -/
theorem s_anyP {l : List Oper} {id : Nat} (ks : List Nat) (n m : Nat) (Inv : World → Prop) (hm : P.follows .mixedOrders = true) (hn : m + n = l.length) (h0 : ∀ a w, St b N e a w → Inv w) (h : pS P b Q N l.toArray Inv (memJ ks) (FinA P l.toArray (NoPanic Q) m) n (Array.replicate l.toArray.size false) e) : cS P b (.region id l.toArray true) Q N e := fun a w hst => by
  refine wp_region_noPanic (wp_region_any hm ?_)
  obtain ⟨G, S, h1, h2, h3⟩ := hst
  have hd : St b N e a w.drew := ⟨G, S, h1, h2, h3.drew⟩
  have h4 := wpAny_of_P n _ a w.drew (h (Closed.none _) a w.drew hd (h0 a _ hd))
  have e1 : m + n = l.toArray.size := by simpa using hn
  rw [e1] at h4
  exact h4
end
end Go.Proofs.YtcbfalfkdnfelaaDoor
/-
  ROWS OF A LOG, read: which bodies are too great; the row that bytes begin with.
-/
namespace Go.Proofs.YtcbfalfkdnfelaaDoor
open Go.RowKit Go.IntWalk Nums

abbrev vBig : Value := .func (.func 28) #[] #[]
set_option maxRecDepth 100000 in
set_option maxHeartbeats 1000000 in
theorem windex_S {P : Option Addr} {pc : Nat} (ss : List Seg) : Spec 36 [.slice P ss.length pc, vBig] [] (Rd 1 eSeg P pc ss)
    { ret := fun r : Int => .v (.int .i64 r), p := fun r _ => (0 ≤ r ↔ ∃ s ∈ ss, 1048576 < s.l.length) } := by
  refine spec_S [.c (.v (.slice P ss.length pc)), .c (.v vBig)] 19 Tryd.func36 rfl (by rw [Tryd.ntmps36]; rfl) (two_ok trivial trivial) fun b => ?_
  refine s_pure (ss.length ≤ pc ∧ pc ≤ 9223372036854775807) (fun w hw _ => ⟨hw.1, hw.2.1⟩) fun ⟨hd1, hd2⟩ => ?_
  refine s_auto TY_ok rfl ?_
  refine s_seq fun K hK => ?_
  refine s_auto TY_ok rfl ?_
  refine s_block ?_
  let F : Nat → Env := fun i => ⟨[(8, .v (.int .i64 (i : Int))), (7, .v (.int .i64 (ss.length : Int))), (6, .v (.slice P ss.length pc)), (0, .v (.slice P ss.length pc)), (1, .v vBig)], [], [], Rd 1 eSeg P pc ss, fun _ => True⟩
  refine c_weak (e' := F 0) ⟨⟨rfl, rfl, rfl, rfl, rfl, trivial⟩, trivial, .refl _, fun _ h _ => h, fun _ _ => trivial⟩ (s_loop (fun i => ss.length - i) F (fun i => i ≤ ss.length ∧ ∀ s ∈ ss.take i, ¬ 1048576 < s.l.length) ?_ 0 ⟨Nat.zero_le _, fun _ h => by simp at h⟩)
  intro i ⟨hi, hno⟩
  refine s_auto TY_ok rfl ?_
  refine s_seq fun K1 hK1 => ?_
  refine s_ifD ((i : Int) < (ss.length : Int)) rfl (fun hlt => ?_) (fun hge => ?_)
  · have hlt : i < ss.length := by omega
    obtain ⟨x, hx⟩ : ∃ x, ss[i]? = some x := ⟨_, List.getElem?_eq_getElem hlt⟩
    refine s_skip (hK1 _ ?_)
    refine s_seq fun K2 hK2 => ?_
    refine s_block ?_
    refine s_auto TY_ok rfl ?_
    refine s_regA TY_ok rfl fun K3 hK3 => ?_
    refine l_elem TY_ok rfl rfl rfl i rfl hx rfl rfl (rd_fact fun w h _ => h) ?_
    refine l_autoS TY_ok rfl ?_
    refine l_callV (own := []) (caps := []) [.slice x.A x.l.length x.c] rfl rfl rfl own_wbig rfl rfl rfl (fun _ _ => rfl) (wbig_S x.l.length) (fun _ _ _ => trivial) fun _ => ?_
    refine l_R [] rfl ?_
    refine s_end (hK3 _ ?_)
    refine s_ifD (1048576 < x.l.length) rfl (fun h => ?_) (fun h => ?_)
    · refine s_auto TY_ok rfl ?_
      exact s_ret (k_ret TY_ok (i : Int) rfl (by decide) rfl rfl rfl (fun _ _ _ => ⟨fun _ => ⟨x, List.mem_of_getElem? hx, h⟩, fun _ => Int.natCast_nonneg _⟩) (fun _ _ => trivial))
    · refine s_skip (hK2 _ ?_)
      refine s_autoE TY_ok rfl ?_
      exact k_next (i + 1) ⟨hlt, fun s hs => by
        rw [List.take_add_one, hx] at hs
        rcases List.mem_append.1 hs with hs | hs
        · exact hno s hs
        · obtain rfl : s = x := by simpa using hs
          exact h⟩ (by omega) ⟨⟨congrArg some (congrArg SV.v (congrArg (Value.int .i64) (wrapI rfl (by omega) (by omega)))), rfl, rfl, rfl, rfl, trivial⟩, trivial, .refl _, fun _ h _ => h.2, fun _ _ => trivial⟩
  · obtain rfl : ss.length = i := by omega
    rw [List.take_length] at hno
    refine s_exit (k_pass (k_pass (k_out ?_)))
    refine hK _ ?_
    refine s_auto TY_ok rfl ?_
    exact s_ret (k_ret TY_ok (-1) rfl (by decide) rfl rfl rfl (fun _ _ _ => ⟨fun h => absurd h (by decide), fun ⟨s, h1, h2⟩ => absurd h2 (hno s h1)⟩) (fun _ _ => trivial))
set_option maxRecDepth 100000 in
theorem whas_S {P : Option Addr} {pc : Nat} (ss : List Seg) : Spec 27 [.slice P ss.length pc, vBig] [] (Rd 1 eSeg P pc ss)
    { ret := fun t : Bool => .q (eT t), p := fun t _ => (t = true ↔ ∃ s ∈ ss, 1048576 < s.l.length) } := by
  refine spec_S [.c (.v (.slice P ss.length pc)), .c (.v vBig)] 9 Tryd.func27 rfl (by rw [Tryd.ntmps27]; rfl) (two_ok trivial trivial) fun b => ?_
  refine s_auto TY_ok rfl ?_
  refine s_regA TY_ok rfl fun K1 hK1 => ?_
  refine l_call0 [.slice P ss.length pc, vBig] rfl rfl rfl own_windex rfl rfl (fun _ _ => rfl) (windex_S ss) (fun w h _ => h) fun r => ?_
  refine l_autoS TY_ok rfl ?_
  refine s_end (hK1 _ ?_)
  exact s_ret (k_ret TY_ok (decide (r ≥ 0)) rfl (by decide) rfl rfl rfl (fun _ h _ => decide_eq_true_iff.trans h.1) (fun _ _ => trivial))
set_option maxRecDepth 100000 in
theorem bequal_S {A B : Option Addr} {c d : Nat} (l m : List UInt8) : Spec 42 [.slice A l.length c, .slice B m.length d] [] (fun w => Rd 1 eB A c l w ∧ Rd 1 eB B d m w) (one (.q (eT (decide (l = m))))) := by
  refine spec_S [.c (.v (.slice A l.length c)), .c (.v (.slice B m.length d))] 10 Tryd.func42 rfl (by rw [Tryd.ntmps42]; rfl) (two_ok trivial trivial) fun b => ?_
  refine s_auto TY_ok rfl ?_
  refine s_regA TY_ok rfl fun K1 hK1 => ?_
  refine l_strB l rfl rfl rfl rfl rfl (rd_fact fun w h _ => h.1) ?_
  refine l_autoS TY_ok rfl ?_
  refine l_strB m rfl rfl rfl rfl rfl (rd_fact fun w h _ => h.2) ?_
  refine l_op (.b (decide (l = m))) trivial rfl rfl rfl (run_eqS rfl rfl rfl) ?_
  refine l_autoS TY_ok rfl ?_
  refine s_end (hK1 _ ?_)
  exact s_ret (k_ret TY_ok () rfl (by decide) rfl rfl rfl (fun _ _ _ => trivial) (fun _ _ => trivial))
theorem own_wfirst15 : Own 34 := fun _ _ => by go_simp
/-- What is answered of the row that bytes begin with. -/
def fsR : Option (List UInt8) → Option Addr × Nat → RV
  | none, _ => .t [.c (.v (.slice none 0 0)), .c (.v (.bool false))]
  | some y, x => .t [.c (.v (.slice x.1 y.length x.2)), .c (.v (.bool true))]
set_option maxRecDepth 100000 in
set_option maxHeartbeats 1000000 in
theorem wfirst15_S {A : Option Addr} {c : Nat} (B : List UInt8) (i : Nat) (hi : i ≤ 9223372036854775807) (hb : B.length ≤ 140737488355328) : Spec 34 [.slice A B.length c, .int .i64 (i : Int)] [] (fun w => Tsh w ∧ Rd 1 eB A c B w)
    { ret := fsR (firstD i B), p := fun x w => ∀ y, firstD i B = some y → Rd 1 eB x.1 x.2 y w } := by
  refine spec_S [.c (.v (.slice A B.length c)), .c (.v (.int .i64 (i : Int)))] 38 Tryd.func34 rfl (by rw [Tryd.ntmps34]; rfl) (two_ok trivial trivial) fun b => ?_
  refine s_pure (B.length ≤ c ∧ (A = none → c = 0)) (fun w hw _ => ⟨hw.2.1, hw.2.2.2.1⟩) fun ⟨hlc, hA⟩ => ?_
  have none_k : ∀ {E : SE} {R : List Res} {F M : World → Prop}, firstD i B = none → lookS E 4 = some (.v (.slice none 0 0)) → lookS E 5 = some (.v (.bool false)) → R = [] → kS b (bodyPost Tryd.prog Tryd.f34 (endS b { ret := fsR (firstD i B), p := fun x w => ∀ y, firstD i B = some y → Rd 1 eB x.1 x.2 y w }) .ret) 38 ⟨E, [], R, F, M⟩ := by
    intro E R F M h h4 h5 hR
    subst hR
    refine k_weak (e' := ⟨[(4, .v (.slice none 0 0)), (5, .v (.bool false))], [], [], F, M⟩) ⟨⟨h4, h5, trivial⟩, trivial, .refl _, fun _ h _ => h, fun _ h => h⟩ ?_
    exact k_ret TY_ok (none, 0) rfl (by decide) rfl (by rw [h]; rfl) rfl (fun _ _ _ y hy => by rw [h] at hy; cases hy) (fun _ _ => trivial)
  refine s_auto TY_ok rfl ?_
  refine s_seq fun K hK => ?_
  refine s_auto TY_ok rfl ?_
  refine s_ifD ((B.length : Int) < 16) rfl (fun h => ?_) (fun h => ?_)
  · refine s_auto TY_ok rfl ?_
    exact s_ret (none_k (by unfold firstD; rw [if_pos (by omega)]) rfl rfl rfl)
  have h1 : ¬ B.length < 16 := by omega
  refine s_skip (hK _ ?_)
  refine s_regA TY_ok rfl fun K1 hK1 => ?_
  have e8 : (B.take 8).length = 8 := by rw [List.length_take]; omega
  refine l_op (.v (.slice A (B.take 8).length c)) trivial rfl rfl rfl (by rw [e8]; exact run_cutHi (e := 5) (sz := 1) (by kernel_rfl) (by omega) hA rfl Tryd.underlying33 rfl rfl) ?_
  refine l_call0 [.slice A (B.take 8).length c] rfl rfl rfl own_rdnew rfl rfl (fun _ _ => rfl) (rdnew_S (B.take 8) (by omega)) (fun w h _ => h.2.take 8) fun ⟨g, gb⟩ => ?_
  refine l_callA (R' := []) [ptr g] rfl rfl rfl own_rnum rfl rfl (fun _ _ => rfl) (rnum_S g (B.take 8, 0)) (fun w _ h => h.1) fun ⟨A2, c2⟩ => ?_
  have ev : nuO (B.take 8, 0) = val (B.take 8) := by
    show val (tkO 8 (B.take 8, 0)) = _
    rw [(tk_take (s := (B.take 8, 0)) (k := 8) rfl (Nat.le_of_eq e8.symm)).1]
    show val ((B.take 8).take 8) = _
    rw [List.take_of_length_le (Nat.le_of_eq e8)]
  refine l_eq 14 (.v (.int .u64 (val (B.take 8) : Int))) rfl (by rw [← ev]; rfl) ?_
  obtain ⟨v, hv⟩ : ∃ v, val (B.take 8) = v := ⟨_, rfl⟩
  have hvl : v < 18446744073709551616 := by rw [← hv]; exact val_lt _
  rw [hv]
  refine l_autoS TY_ok rfl ?_
  refine s_end (k_drop 0 rfl (hK1 _ ?_))
  refine s_seq fun K2 hK2 => ?_
  refine s_regA TY_ok rfl fun K3 hK3 => ?_
  by_cases h2 : 1048576 < v
  · refine l_is 17 true rfl (decide_eq_true (by omega)) ?_
    refine l_autoS TY_ok rfl ?_
    refine s_end (hK3 _ ?_)
    refine s_yes rfl ?_
    refine s_auto TY_ok rfl ?_
    exact s_ret (none_k (by unfold firstD; rw [if_neg h1, hv, if_pos (.inl h2)]) rfl rfl rfl)
  refine l_is 17 false rfl (decide_eq_false (by omega)) ?_
  refine l_autoS TY_ok rfl ?_
  refine l_eq 24 (.b (decide (B.length - 16 < v))) rfl (congrArg SV.b (decide_eq_decide.2 (by rw [wrapI (r := (v : Int)) rfl (by omega) (by omega), wrapI (r := (B.length : Int) - 16) rfl (by omega) (by omega)]; omega))) ?_
  refine s_end (hK3 _ ?_)
  refine s_ifD (B.length - 16 < v) rfl (fun h3 => ?_) (fun h3 => ?_)
  · refine s_auto TY_ok rfl ?_
    exact s_ret (none_k (by unfold firstD; rw [if_neg h1, hv, if_pos (.inr h3)]) rfl rfl rfl)
  refine s_skip (hK2 _ ?_)
  refine s_regA TY_ok rfl fun K4 hK4 => ?_
  refine l_num 28 ((16 + v : Nat) : Int) rfl (by rw [wrapI (r := (v : Int)) rfl (by omega) (by omega)]; exact wrapI (by omega) (by omega) (by omega)) ?_
  obtain ⟨x, hx⟩ : ∃ x, (B.drop 16).take v = x := ⟨_, rfl⟩
  have hxl : x.length = v := by rw [← hx, List.length_take, List.length_drop]; omega
  refine l_op (.v (.slice (cutA A c 16) x.length (c - 16))) trivial rfl rfl rfl (by rw [show x.length = 16 + v - 16 by omega]; exact run_cut2 (by omega) (by omega) hA rfl rfl rfl rfl) ?_
  refine l_autoS TY_ok rfl ?_
  refine s_end (hK4 _ ?_)
  have hrx : ∀ w, Rd 1 eB A c B w → Rd 1 eB (cutA A c 16) (c - 16) x w := fun w h => by rw [← hx]; exact (h.part (by omega)).take v
  obtain ⟨z, hz⟩ : ∃ z, (B.drop 8).take 8 = z := ⟨_, rfl⟩
  have hzl : z.length = 8 := by rw [← hz, List.length_take, List.length_drop]; omega
  have hrz : ∀ w, Rd 1 eB A c B w → Rd 1 eB (cutA A c 8) (c - 8) z w := fun w h => by rw [← hz]; exact (h.part (by omega)).take 8
  refine s_seq fun K5 hK5 => ?_
  refine s_seq fun K6 hK6 => ?_
  refine s_anyP [0, 1, 2, 3] 5 2 (InvL []) (by kernel_rfl) rfl (fun _ _ _ x hx => by cases hx) ?_
  refine p_front TY_ok 0 (by kernel_rfl) rfl rfl rfl rfl rfl rfl (fun _ h => (by cases h)) ?_
  refine p_frontO (.v (.slice (cutA A c 8) z.length (c - 8))) trivial 1 (by kernel_rfl) rfl rfl rfl rfl rfl (by rw [show z.length = 16 - 8 by omega]; exact run_cut2 (by decide) (by omega) hA rfl rfl rfl rfl) ?_
  refine p_front TY_ok 2 (by kernel_rfl) rfl rfl rfl rfl rfl rfl (fun _ h => (by cases h)) ?_
  refine p_front TY_ok 3 (by kernel_rfl) rfl rfl rfl rfl rfl rfl (fun _ h => (by cases h)) ?_
  refine p_step 4 (by kernel_rfl) rfl fun Kd hKd => ?_
  refine l_call0 [.int .i64 (i : Int), .slice (cutA A c 16) x.length (c - 16)] rfl rfl rfl own_wsum rfl rfl (fun _ _ => rfl) (wsum_S i x hi) (fun w h _ => ⟨h.2.2.1, hrx w h.2.2.2⟩) fun g3 => ?_
  refine s_end (hKd _ (fun _ _ _ x hx => by cases hx) ?_)
  refine p_tail [5, 6] (by kernel_rfl) rfl ?_
  refine l_call0 [.slice (cutA A c 8) z.length (c - 8), .slice (some ⟨g3, 0, none⟩) (sumD i x).length 32] rfl rfl rfl own_bequal rfl rfl (fun _ _ => rfl) (bequal_S z (sumD i x)) (fun w h _ => ⟨hrz w h.2.2.2.2, h.1⟩) fun _ => ?_
  refine l_autoS TY_ok rfl ?_
  refine s_end (hK6 _ ?_)
  have e3 : firstD i B = if z = sumD i x then some x else none := by
    unfold firstD
    rw [if_neg h1, hv, if_neg (by omega), hx, hz]
  refine s_if (!decide (z = sumD i x)) rfl (fun h => ?_) (fun h => ?_)
  · have h4 : ¬ z = sumD i x := by simpa using h
    rw [if_neg h4] at e3
    refine s_auto TY_ok rfl ?_
    exact s_ret (none_k e3 rfl rfl rfl)
  · have h4 : z = sumD i x := by simpa using h
    rw [if_pos h4] at e3
    refine s_skip (hK5 _ ?_)
    refine s_auto TY_ok rfl ?_
    refine s_ret (k_ret TY_ok (cutA A c 16, c - 16) rfl (by decide) rfl (by rw [e3]; rfl) rfl (fun w h _ y hy => ?_) (fun _ _ => trivial))
    rw [e3] at hy
    obtain rfl := Option.some.inj hy
    exact hrx w h.2.2.2.2.2
end Go.Proofs.YtcbfalfkdnfelaaDoor
/-
  WHAT A DISK SAYS: all rows, one behind the other.
-/
namespace Go.Proofs.YtcbfalfkdnfelaaDoor
open Go.RowKit Go.IntWalk Nums

/-- A slice of slices of bytes: where it lies, where they lie, what they are. -/
structure SgX (rs : List (List UInt8)) where
  A : Option Addr
  c : Nat
  ss : List Seg
  is : ss.map Seg.l = rs
abbrev SgO (A : Option Addr) (c : Nat) (ss : List Seg) : Res := OwnS 0 33 1 eSeg A c ss
theorem own_wsaid : Own 23 := fun _ _ => by go_simp
theorem logD_ge : ∀ (i : Nat) (rs : List (List UInt8)), rs.length ≤ (logD i rs).length
  | _, [] => Nat.le_refl _
  | i, x :: r => by
    show r.length + 1 ≤ (rowD i x ++ logD (i + 1) r).length
    have := logD_ge (i + 1) r
    rw [List.length_append, rowD_len]
    omega
set_option maxRecDepth 100000 in
set_option maxHeartbeats 1000000 in
theorem wsaid_S {A : Option Addr} {c : Nat} (B : List UInt8) (hb : B.length ≤ 1073741824) : Spec 23 [.slice A B.length c] [] (fun w => Tsh w ∧ Rd 1 eB A c B w)
    { ret := fun x : SgX (saysD B) => .t [.c (.v (.slice x.A x.ss.length x.c)), .c (.v (.int .i64 ((logD 0 (saysD B)).length : Int)))], own := fun x => [SgO x.A x.c x.ss], n := fun x w => ∀ s ∈ x.ss, s.rd w } := by
  refine spec_S [.c (.v (.slice A B.length c))] 32 Tryd.func23 rfl (by rw [Tryd.ntmps23]; rfl) (one_ok trivial) fun b => ?_
  refine s_pure (B.length ≤ c ∧ (A = none → c = 0)) (fun w hw _ => ⟨hw.2.1, hw.2.2.2.1⟩) fun ⟨hlc, hA⟩ => ?_
  refine s_auto TY_ok rfl ?_
  refine s_nil0 0 33 1 eSeg ?_
  refine s_auto TY_ok rfl ?_
  refine s_auto TY_ok rfl ?_
  refine s_block ?_
  let V : Option Addr × Nat × List Seg × Nat → Env := fun s => ⟨[(5, .v (.int .i64 (s.2.2.2 : Int))), (4, .v (.slice s.1 s.2.2.1.length s.2.1)), (0, .v (.slice A B.length c))], [], [SgO s.1 s.2.1 s.2.2.1], fun w => Tsh w ∧ Rd 1 eB A c B w, fun w => ∀ x ∈ s.2.2.1, x.rd w⟩
  refine c_weak (e' := V (none, 0, [], 0)) ⟨⟨rfl, rfl, rfl, trivial⟩, trivial, .refl _, fun _ h _ => h, fun _ _ _ h => by cases h⟩ (s_loop (fun s => B.length - s.2.2.2) V (fun s => (∀ x ∈ s.2.2.1, x.l.length ≤ 1048576) ∧ (logD 0 (s.2.2.1.map Seg.l)).length = s.2.2.2 ∧ ∃ t, B = logD 0 (s.2.2.1.map Seg.l) ++ t) ?_ (none, 0, [], 0) ⟨fun _ h => (by cases h), rfl, B, rfl⟩)
  rintro ⟨P, pc, ss, e⟩ ⟨hsm, he, t, ht⟩
  dsimp only at hsm ht he
  have hBl : B.length = e + t.length := by rw [ht, List.length_append, he]
  have hdr : B.drop e = t := by rw [ht]; exact List.drop_left' he
  have hss : ss.length ≤ e := by rw [← he]; have := logD_ge 0 (ss.map Seg.l); rwa [List.length_map] at this
  refine s_block ?_
  refine s_regA TY_ok rfl fun K1 hK1 => ?_
  refine l_op (.v (.slice (cutA A c e) t.length (c - e))) trivial rfl rfl rfl (by rw [show t.length = B.length - e by omega]; exact run_cutLo (by omega) hlc hA rfl rfl rfl) ?_
  refine l_autoS TY_ok rfl ?_
  have hf := wfirst15_S (A := cutA A c e) (c := c - e) t ss.length (by omega) (by omega)
  have hrt : ∀ w, (Tsh w ∧ Rd 1 eB A c B w) → Tsh w ∧ Rd 1 eB (cutA A c e) (c - e) t w := fun w h => ⟨h.1, by rw [← hdr]; exact h.2.part (by omega)⟩
  cases hfi : firstD ss.length t with
  | none =>
    rw [hfi] at hf
    refine l_call0 [.slice (cutA A c e) t.length (c - e), .int .i64 (ss.length : Int)] rfl rfl rfl own_wfirst15 rfl rfl (fun _ _ => rfl) hf (fun w h _ => hrt w h) fun x => ?_
    refine l_autoS TY_ok rfl ?_
    refine s_end (hK1 _ ?_)
    have hsay : saysD B = ss.map Seg.l := saysD_of _ t ht (fun x hx => by
      obtain ⟨s, h1, rfl⟩ := List.mem_map.1 hx
      exact hsm s h1) (by rw [List.length_map]; exact hfi)
    refine s_seq fun K2 hK2 => ?_
    refine s_auto TY_ok rfl ?_
    refine s_yes rfl ?_
    refine s_auto TY_ok rfl ?_
    refine s_ret (k_ret TY_ok ⟨P, pc, ss, hsay.symm⟩ rfl (by decide) rfl (congrArg (fun n : Nat => RV.t [SQ.c (SC.v (.slice P ss.length pc)), SQ.c (SC.v (.int .i64 (n : Int)))]) (show (logD 0 (saysD B)).length = e by rw [hsay, he])) rfl (fun _ _ _ => trivial) (fun w h => h.2))
  | some y =>
    rw [hfi] at hf
    obtain ⟨hy1, hy2, hy3⟩ := firstD_some hfi
    refine l_call0 [.slice (cutA A c e) t.length (c - e), .int .i64 (ss.length : Int)] rfl rfl rfl own_wfirst15 rfl rfl (fun _ _ => rfl) hf (fun w h _ => hrt w h) fun ⟨Ay, cy⟩ => ?_
    refine l_autoS TY_ok rfl ?_
    refine s_end (hK1 _ ?_)
    refine s_seq fun K2 hK2 => ?_
    refine s_auto TY_ok rfl ?_
    refine s_no rfl ?_
    refine s_skip (hK2 _ ?_)
    refine s_regA TY_ok rfl fun K3 hK3 => ?_
    refine l_list TY_ok b.B.heap.size [⟨Ay, cy, y⟩] (fe := eSeg) rfl rfl rfl rfl rfl (fun _ => rfl) rfl (by decide) (by decide) (okF_seg _) (Nat.le_refl _) fun P1 => ?_
    refine l_free 0 rfl ?_
    have e0 : (List.map Seg.l [⟨Ay, cy, y⟩]).flatten = y := by simp
    have hj := join_S (A := P1) (c := 1) [⟨Ay, cy, y⟩] (by rw [e0]; omega)
    rw [e0] at hj
    refine l_call0 [.slice P1 1 1] rfl rfl rfl own_join rfl rfl (fun _ _ => rfl) hj (fun w hF _ => ⟨hF.1, fun s hs => by rw [List.mem_singleton.1 hs]; exact hF.2.1 y rfl⟩) fun g => ?_
    refine l_push TY_ok 0 (⟨some ⟨g, 0, none⟩, y.length, y⟩ : Seg) (fe := eSeg) rfl rfl rfl rfl rfl rfl rfl (eSeg_ok _) (by decide) (by decide) (by show (ss.length + 1) * 24 ≤ _; omega) (by show ss.length < _; omega) (Nat.zero_le _) fun P2 pc2 => ?_
    refine l_autoS TY_ok rfl ?_
    refine s_end (hK3 _ ?_)
    refine s_lit ?_
    refine l_autoS TY_ok rfl ?_
    have hmap : (ss ++ [⟨some ⟨g, 0, none⟩, y.length, y⟩] : List Seg).map Seg.l = ss.map Seg.l ++ [y] := by simp
    have hlog : logD 0 (ss.map Seg.l ++ [y]) = logD 0 (ss.map Seg.l) ++ rowD ss.length y := by rw [logD_app, Nat.zero_add, List.length_map, logD_one]
    have hll : (logD 0 (ss.map Seg.l ++ [y])).length = e + (16 + y.length) := by rw [hlog, List.length_append, he, rowD_len]
    have hw1 : IntKind.i64.wrap (16 + (y.length : Int)) = ((16 + y.length : Nat) : Int) := wrapI (by omega) (by omega) (by omega)
    refine l_num 5 ((logD 0 (ss.map Seg.l ++ [y])).length : Int) rfl (by rw [hll, hw1]; show IntKind.i64.wrap ((e : Int) + _) = _; exact wrapI (by omega) (by omega) (by omega)) ?_
    refine s_end ?_
    refine k_next (P2, pc2, ss ++ [⟨some ⟨g, 0, none⟩, y.length, y⟩], (logD 0 (ss.map Seg.l ++ [y])).length) ⟨fun s hs => ?_, congrArg (fun z => (logD 0 z).length) hmap, t.drop (16 + y.length), ?_⟩ ?_ ⟨⟨rfl, rfl, rfl, trivial⟩, trivial, .refl _, fun _ h _ => h.2.2.2, fun w h s hs => ?_⟩
    · rcases List.mem_append.1 hs with hs | hs
      · exact hsm s hs
      · rw [List.mem_singleton.1 hs]
        exact hy1
    · dsimp only
      rw [hmap, hlog, List.append_assoc, ← hy3]
      exact ht
    · show B.length - (logD 0 (ss.map Seg.l ++ [y])).length < B.length - e
      rw [hll]
      omega
    · rcases List.mem_append.1 hs with hs | hs
      · exact h.2.2 s hs
      · rw [List.mem_singleton.1 hs]
        exact h.1
end Go.Proofs.YtcbfalfkdnfelaaDoor
