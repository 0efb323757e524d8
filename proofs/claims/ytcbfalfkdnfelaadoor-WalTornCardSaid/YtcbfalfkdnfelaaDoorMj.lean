/-
  SEVERAL TEXTS IN ONE: WlI, DkF, DkL, WlJ, Law, OpenR, Opens, OpenK, LawW, OpenS, WlZ.
-/
import Derived.Test.YtcbfalfkdnfelaaDoorMi
import Derived.Test.YtcbfalfkdnfelaaDoorRows
import Derived.Test.YtcbfalfkdnfelaaDoorMa
import Derived.ProofKit
import Derived.OpenShut
import Derived.SizedLaws
import Derived.Test.YtcbfalfkdnfelaaDoorMd
import Derived.Deep.Slices
import Derived.LaidMore
import Derived.SevenTiedAt
import Derived.Stop.Joined
import Derived.Test.YtcbfalfkdnfelaaDoorMh
import Derived.Test.YtcbfalfkdnfelaaDoorCards
import Derived.Test.YtcbfalfkdnfelaaDoorTie
/-
  THE LAWS' first, of logs.
-/
namespace Go.Proofs.YtcbfalfkdnfelaaDoor
open Go.RowKit Go.IntWalk Nums

theorem own_first15 : Own 7 := fun _ _ => by go_simp
theorem saysD_nil : saysD [] = [] := rfl
set_option maxRecDepth 100000 in
set_option maxHeartbeats 1000000 in
theorem first15_S : Spec 7 [] [] Tsh (one (.v (.bool true))) := by
  refine spec_S [] 58 Tryd.func7 rfl (by rw [Tryd.ntmps7]; rfl) no_ok fun b => ?_
  refine s_auto TY_ok rfl ?_
  refine s_regA TY_ok rfl fun K hK => ?_
  refine l_call0 [.int .i64 100] rfl rfl rfl own_dnew rfl rfl (fun _ _ => rfl) (dnew_S 100 (by decide)) (fun _ _ _ => trivial) fun g => ?_
  refine l_R [DkO g 100 none 0 [] 0, DkB none 0 []] rfl ?_
  refine l_autoS TY_ok rfl ?_
  refine s_end (hK _ ?_)
  refine s_regA TY_ok rfl fun K1 hK1 => ?_
  have ho := wopen_S g 100 none 0 [] 0 (by decide)
  rw [saysD_nil] at ho
  refine l_callA (own := [DkO g 100 none 0 [] 0, DkB none 0 []]) (R' := []) [pD g] rfl rfl rfl own_wopen rfl rfl (fun _ _ => rfl) ho (fun _ h _ => h.2) fun ⟨h, P, pc, ss, hs⟩ => ?_
  obtain rfl : ss = [] := List.map_eq_nil_iff.1 hs
  refine l_R [DkO g 100 none 0 [] 0, DkB none 0 [], LgO h g P 0 pc false, SgO P pc []] rfl ?_
  refine l_autoS TY_ok rfl ?_
  refine s_end (hK1 _ ?_)
  refine s_seq fun K2 hK2 => ?_
  refine s_regA TY_ok rfl fun K3 hK3 => ?_
  refine l_is 23 false rfl rfl (l_autoS TY_ok rfl ?_)
  refine l_litS [97, 98] rfl rfl rfl rfl (fun _ => rfl) rfl (by decide) (by decide) rfl rfl rfl rfl rfl fun g1 => ?_
  refine l_autoS TY_ok rfl ?_
  refine l_list TY_ok b.B.heap.size [⟨some ⟨g1, 0, none⟩, 2, [97, 98]⟩] (fe := eSeg) rfl rfl rfl rfl rfl (fun _ => rfl) rfl (by decide) (by decide) (okF_seg _) (Nat.le_refl _) fun B1 => ?_
  refine l_freeM 0 rfl (Nat.le_refl _) ?_
  refine l_autoS TY_ok rfl ?_
  obtain ⟨LG, hLG, hLl, hLr⟩ : ∃ LG, logD 0 [[97, 98]] = LG ∧ LG.length = 18 ∧ saysD LG = [[97, 98]] := ⟨_, rfl, by rw [logD_one, rowD_len]; rfl, saysD_log (fun x hx => by rw [List.mem_singleton.1 hx]; decide)⟩
  have hw := wwrite_S h g 100 none 0 [] 0 P pc [] B1 1 [⟨some ⟨g1, 0, none⟩, 2, [97, 98]⟩] LG hLG true (by symm; exact decide_eq_true (by rw [hLl]; decide)) (by decide) (by decide) (Nat.le_of_ble_eq_true rfl) (Nat.le_of_ble_eq_true rfl) (fun x hx => by rw [List.mem_singleton.1 hx]; exact Nat.le_of_ble_eq_true rfl) (by rw [hLl]; decide)
  refine l_callA (own := [DkO g 100 none 0 [] 0, DkB none 0 [], LgO h g P 0 pc false, SgO P pc []]) (R' := []) [pD h, .slice B1 1 1] rfl rfl rfl own_wwrite rfl rfl (fun _ _ => rfl) hw (fun w hF hM => ⟨hF.2.2, hM.1, fun s hs => by rw [List.mem_singleton.1 hs]; exact hM.2.1⟩) fun ⟨dA, dc, P2, pc2, ss2, hs2⟩ => ?_
  refine l_R [DkO g 100 dA dc LG (LG.length : Int), DkB dA dc LG, LgO h g P2 ss2.length pc2 false, SgO P2 pc2 ss2] rfl ?_
  refine l_autoS TY_ok rfl ?_
  refine l_is 31 false rfl rfl (l_autoS TY_ok rfl ?_)
  refine l_callA (own := [DkO g 100 dA dc LG (LG.length : Int)]) (R' := [DkB dA dc LG, LgO h g P2 ss2.length pc2 false, SgO P2 pc2 ss2]) [pD g] rfl rfl rfl own_dlen rfl rfl (fun _ _ => rfl) (dlen_S g 100 dA dc LG (LG.length : Int)) (fun _ _ _ => trivial) fun _ => ?_
  refine l_R [DkO g 100 dA dc LG (LG.length : Int), DkB dA dc LG, LgO h g P2 ss2.length pc2 false, SgO P2 pc2 ss2] rfl ?_
  refine l_autoS TY_ok rfl ?_
  refine l_is 35 false rfl (decide_eq_false (by rw [hLl]; decide)) ?_
  refine s_end (hK3 _ ?_)
  refine s_no rfl ?_
  refine s_skip (hK2 _ ?_)
  refine s_regA TY_ok rfl fun K4 hK4 => ?_
  have ho2 := wopen_S g 100 dA dc LG LG.length (by rw [hLl]; decide)
  rw [hLr, hLG] at ho2
  refine l_callA (own := [DkO g 100 dA dc LG (LG.length : Int), DkB dA dc LG]) (R' := [LgO h g P2 ss2.length pc2 false, SgO P2 pc2 ss2]) [pD g] rfl rfl rfl own_wopen rfl rfl (fun _ _ => rfl) ho2 (fun _ h _ => h.2.2.2.2) fun ⟨h3, P3, pc3, ss3, hs3⟩ => ?_
  refine l_R [DkO g 100 dA dc LG (LG.length : Int), DkB dA dc LG, LgO h3 g P3 ss3.length pc3 false, SgO P3 pc3 ss3, LgO h g P2 ss2.length pc2 false, SgO P2 pc2 ss2] rfl ?_
  refine l_autoS TY_ok rfl ?_
  refine s_end (hK4 _ ?_)
  refine s_freeO 2 rfl (s_free 2 rfl ?_)
  have hl3 : ss3.length = 1 := by have := congrArg List.length hs3; rwa [List.length_map] at this
  obtain ⟨x3, rfl⟩ : ∃ x, ss3 = [x] := by
    match ss3, hl3 with
    | [x], _ => exact ⟨x, rfl⟩
  have hx3 : x3.l = [97, 98] := by simpa using hs3
  refine s_regA TY_ok rfl fun K5 hK5 => ?_
  refine l_call0 [pD h3] rfl rfl rfl own_wrows rfl rfl (fun _ _ => rfl) (wrows_T h3 g P3 pc3 [x3] false (Nat.le_of_ble_eq_true rfl) (fun x hx => by rw [List.mem_singleton.1 hx, hx3]; decide)) (fun w hF hM => ⟨hF.2.1, hF.1, hM.1⟩) fun ⟨P4, pc4, ss4, hs4⟩ => ?_
  refine l_R [DkO g 100 dA dc LG (LG.length : Int), DkB dA dc LG, LgO h g P2 ss2.length pc2 false, SgO P2 pc2 ss2] rfl ?_
  have hl4 : ss4.length = 1 := by have := congrArg List.length hs4; rwa [List.length_map] at this
  obtain ⟨x4, rfl⟩ : ∃ x, ss4 = [x] := by
    match ss4, hl4 with
    | [x], _ => exact ⟨x, rfl⟩
  have hx4 : x4.l = [97, 98] := by rw [← hx3]; simpa using hs4
  refine l_autoS TY_ok rfl ?_
  refine s_end (hK5 _ ?_)
  refine s_regA TY_ok rfl fun K6 hK6 => ?_
  refine l_is 46 true rfl rfl (l_autoS TY_ok rfl ?_)
  refine l_elem (fe := eSeg) (x := x4) (l := [x4]) TY_ok rfl rfl rfl 0 rfl rfl rfl rfl (rd_fact fun w h _ => h.1.1) ?_
  refine l_autoS TY_ok rfl ?_
  refine l_strB x4.l rfl rfl rfl rfl rfl (rd_fact fun w h _ => h.1.2 x4 List.mem_cons_self) ?_
  refine l_autoS TY_ok rfl ?_
  refine l_op (.b (decide (x4.l = [97, 98]))) trivial rfl rfl rfl (run_eqS rfl rfl rfl) ?_
  refine l_autoS TY_ok rfl ?_
  refine l_is 53 true rfl (decide_eq_true hx4) (l_autoS TY_ok rfl ?_)
  refine l_callA (own := [DkO g 100 dA dc LG (LG.length : Int), DkB dA dc LG]) (R' := [LgO h g P2 ss2.length pc2 false, SgO P2 pc2 ss2]) [pD g, .int .i64 ((17 : Nat) : Int)] rfl rfl rfl own_dcut rfl rfl (fun _ _ => rfl) (dcut_S g 100 17 dA dc LG LG.length (by omega)) (fun _ _ _ => trivial) fun _ => ?_
  refine l_autoS TY_ok rfl ?_
  refine l_is 0 true rfl rfl ?_
  refine s_end (hK6 _ ?_)
  refine s_ret (k_drop 0 rfl (k_drop 0 rfl (k_drop 0 rfl (k_drop 0 rfl ?_))))
  exact k_ret TY_ok () rfl (by decide) rfl rfl rfl (fun _ _ _ => trivial) (fun _ _ => trivial)
end Go.Proofs.YtcbfalfkdnfelaaDoor
/-
  THE LAWS' first, of disks.
-/
namespace Go.Proofs.YtcbfalfkdnfelaaDoor
open Go.RowKit Go.IntWalk

theorem seg1 (A : Option Addr) (c : Nat) (l : List UInt8) : segs [⟨A, c, l⟩] = l := by simp [segs]
end Go.Proofs.YtcbfalfkdnfelaaDoor
/-
  THE LAW DiskKeeps, walked.
-/
namespace Go.Proofs.YtcbfalfkdnfelaaDoor
open Go.RowKit Go.IntWalk

theorem crash_le (keep : Int) {s n : Nat} (h : s ≤ n) : s ≤ crashN keep s n ∧ crashN keep s n ≤ n ∧ ((n : Int) - s ≤ keep → crashN keep s n = n) := by
  unfold crashN
  omega
end Go.Proofs.YtcbfalfkdnfelaaDoor
/-
  THE LAW WalReads, walked.
-/
namespace Go.Proofs.YtcbfalfkdnfelaaDoor
open Go.RowKit Go.IntWalk Nums

set_option maxRecDepth 100000 in
set_option maxHeartbeats 1000000 in
theorem reads15_S {A : Option Addr} {c : Nat} (l : List UInt8) : Spec 4 [.slice A l.length c] [] (fun w => Tsh w ∧ Rd 1 eB A c l w) (one (.v (.bool true))) := by
  refine spec_S [.c (.v (.slice A l.length c))] 64 Tryd.func4 rfl (by rw [Tryd.ntmps4]; rfl) (one_ok trivial) fun b => ?_
  refine s_pure (l.length ≤ c ∧ (A = none → c = 0)) (fun w hw _ => ⟨hw.2.1, hw.2.2.2.1⟩) fun ⟨hlc, hA⟩ => ?_
  refine s_auto TY_ok rfl ?_
  refine s_seq fun K hK => ?_
  refine s_regA TY_ok rfl fun K1 hK1 => ?_
  refine l_call0 [] rfl rfl rfl own_first15 rfl rfl (fun _ _ => rfl) first15_S (fun _ h _ => h.1) fun _ => ?_
  refine l_R [] rfl ?_
  refine l_autoS TY_ok rfl ?_
  refine s_end (hK1 _ ?_)
  refine s_no rfl ?_
  refine s_skip (hK _ ?_)
  obtain ⟨x, hx⟩ : ∃ x, l.take (min l.length 5000) = x := ⟨_, rfl⟩
  have hxn : x.length = min l.length 5000 := by rw [← hx, List.length_take]; omega
  have hrx : ∀ w, Rd 1 eB A c l w → Rd 1 eB A c x w := fun w h => by rw [← hx]; exact h.take _
  refine s_regA TY_ok rfl fun K2 hK2 => ?_
  refine l_op (.v (.int .i64 ((min l.length 5000 : Nat) : Int))) trivial rfl rfl rfl (run_min rfl rfl rfl) ?_
  refine l_op (.v (.slice A x.length c)) trivial rfl rfl rfl (by rw [hxn]; exact run_cutHi (e := 5) (sz := 1) (by kernel_rfl) (by omega) hA rfl Tryd.underlying33 rfl rfl) ?_
  refine l_autoS TY_ok rfl ?_
  refine s_end (hK2 _ ?_)
  refine s_regA TY_ok rfl fun K3 hK3 => ?_
  refine l_call0 [.int .i64 (x.length : Int)] rfl rfl rfl own_dnew rfl rfl (fun _ _ => rfl) (dnew_S x.length (by omega)) (fun _ _ _ => trivial) fun g => ?_
  refine l_R [DkO g x.length none 0 [] 0, DkB none 0 []] rfl ?_
  refine l_autoS TY_ok rfl ?_
  refine s_end (hK3 _ ?_)
  refine s_regA TY_ok rfl fun K4 hK4 => ?_
  refine l_list TY_ok b.B.heap.size [⟨A, c, x⟩] (fe := eSeg) rfl rfl rfl rfl rfl (fun _ => rfl) rfl (by decide) (by decide) (okF_seg _) (Nat.le_refl _) fun B1 => ?_
  refine l_freeM 0 rfl (Nat.le_refl _) ?_
  refine l_callA (own := [DkO g x.length none 0 [] 0, DkB none 0 []]) (R' := []) [pD g, .slice B1 1 1] rfl rfl rfl own_dapp rfl rfl (fun _ _ => rfl) (dapp_fits g x.length none 0 [] x 0 B1 1 [⟨A, c, x⟩] (by omega) (by rw [seg1, List.length_nil]; omega) (by rw [seg1, List.length_nil]; omega) (by rw [seg1]; rfl)) (fun w h1 h => ⟨h.1, fun s hs => by rw [List.mem_singleton.1 hs]; exact hrx w h1.2.2.2⟩) fun ⟨A1, c1⟩ => ?_
  refine l_R [DkO g x.length A1 c1 x 0, DkB A1 c1 x] rfl ?_
  refine l_autoS TY_ok rfl ?_
  refine s_end (hK4 _ ?_)
  refine s_regA TY_ok rfl fun K5 hK5 => ?_
  refine l_callA (own := [DkO g x.length A1 c1 x ((0 : Nat) : Int), DkB A1 c1 x]) (R' := []) [pD g] rfl rfl rfl own_wopen rfl rfl (fun _ _ => rfl) (wopen_S g x.length A1 c1 x 0 (by omega)) (fun _ h _ => h.2.2.2.1) fun ⟨h, P, pc, ss, hs⟩ => ?_
  obtain ⟨LG, hLG⟩ : ∃ LG, logD 0 (saysD x) = LG := ⟨_, rfl⟩
  have e1 := saysD_take x
  have e2 := saysD_le x
  rw [hLG] at e1 e2
  refine l_R [DkO g x.length A1 c1 LG (LG.length : Int), DkB A1 c1 LG, LgO h g P ss.length pc false, SgO P pc ss] (by rw [← hLG]; rfl) ?_
  refine l_autoS TY_ok rfl ?_
  refine s_end (hK5 _ ?_)
  refine s_freeO 0 rfl (s_free 0 rfl (s_freeO 0 rfl (s_free 0 rfl ?_)))
  refine s_regA TY_ok rfl fun K6 hK6 => ?_
  refine l_call0 [.slice A x.length c] rfl rfl rfl own_rfsays rfl rfl (fun _ _ => rfl) (rfsays_S x (by omega)) (fun w h _ => hrx w h.2.2.2.2.2.2.2.2.2) fun ⟨P2, pc2, ss2, hs2⟩ => ?_
  refine l_free 0 rfl ?_
  refine l_eq 34 (.t [.c (.v (.slice P2 ss2.length pc2)), .c (.v (.int .i64 (LG.length : Int)))]) rfl (congrArg (fun z : List UInt8 => SV.t [.c (.v (.slice P2 ss2.length pc2)), .c (.v (.int .i64 (z.length : Int)))]) hLG) ?_
  refine l_autoS TY_ok rfl ?_
  refine s_end (hK6 _ ?_)
  have hsm : ∀ y ∈ ss, y.l.length ≤ 1048576 := fun y hy => saysD_small x y.l (by rw [← hs]; exact List.mem_map.2 ⟨y, hy, rfl⟩)
  have hsl : ss.length ≤ 5000 := by
    have h1 := logD_ge 0 (ss.map Seg.l)
    rw [hs, hLG] at h1
    have h2 := congrArg List.length hs
    rw [List.length_map] at h2
    omega
  refine c_weak (e' := ⟨[(3, .v (.slice A x.length c)), (4, .v (pD g)), (6, .v (pD h)), (7, .v (.int .i64 0)), (8, .v (.slice P2 ss2.length pc2)), (9, .v (.int .i64 (LG.length : Int)))], [], [], fun w => Rd 1 eB A c x w ∧ Rd 1 eSeg P2 pc2 ss2 w ∧ (Rd 1 eSeg P pc ss w ∧ ObjF h 53 (lgP g P ss.length pc false) w) ∧ Rd 1 eB A1 c1 LG w ∧ ObjF g 51 (dkP x.length A1 c1 LG (LG.length : Int)) w, fun w => (∀ s ∈ ss2, s.rd w) ∧ ∀ s ∈ ss, s.rd w⟩) ⟨⟨rfl, rfl, rfl, rfl, rfl, rfl, trivial⟩, trivial, .refl _, fun w h _ => ⟨hrx w h.2.2.2.2.2.2.2.2.2.2.2, h.1, ⟨h.2.2.1, h.2.2.2.1⟩, h.2.2.2.2.1, h.2.2.2.2.2.1⟩, fun w h => ⟨h.1, h.2.1⟩⟩ ?_
  have hI : ∀ {E : SE} {L : List LV} {R : List Res} {F M : World → Prop}, (∀ w, F w → M w → Rd 1 eB A c x w) → ∀ a w, St b 64 ⟨E, L, R, F, M⟩ a w → Rd 1 eB A c x w := fun h a w ⟨G, S, hst⟩ => h w hst.st.view.fact hst.st.view.fresh
  refine s_seq fun K7 hK7 => ?_
  refine s_anyP [0, 1, 2, 3, 4, 5, 7, 9, 13, 16, 17, 18, 19, 23] 25 3 (Rd 1 eB A c x) (by kernel_rfl) rfl (hI fun _ h _ => h.1) ?_
  refine p_frontF TY_ok 0 (by kernel_rfl) rfl rfl rfl rfl rfl rfl ?_
  refine p_frontF TY_ok 1 (by kernel_rfl) rfl rfl rfl rfl rfl rfl ?_
  refine p_frontF TY_ok 2 (by kernel_rfl) rfl rfl rfl rfl rfl rfl ?_
  refine p_frontF TY_ok 3 (by kernel_rfl) rfl rfl rfl rfl rfl rfl ?_
  refine p_frontF TY_ok 4 (by kernel_rfl) rfl rfl rfl rfl rfl rfl ?_
  refine p_frontF TY_ok 5 (by kernel_rfl) rfl rfl rfl rfl rfl rfl ?_
  refine p_step 6 (by kernel_rfl) rfl fun Ka hKa => ?_
  refine l_autoS TY_ok rfl (l_is 43 true rfl rfl ?_)
  refine s_end (hKa _ (hI fun _ h _ => h.1) ?_)
  refine p_frontF TY_ok 7 (by kernel_rfl) rfl rfl rfl rfl rfl rfl ?_
  refine p_frontF TY_ok 9 (by kernel_rfl) rfl rfl rfl rfl rfl rfl ?_
  refine p_step 8 (by kernel_rfl) rfl fun Ka hKa => ?_
  refine l_autoS TY_ok rfl ?_
  refine l_call0 [pD h] rfl rfl rfl own_wrows rfl rfl (fun _ _ => rfl) (wrows_T h g P pc ss false (by omega) hsm) (fun w hF hM => ⟨hF.2.2.1.2, hF.2.2.1.1, hM.2⟩) fun ⟨P4, pc4, ss4, hs4⟩ => ?_
  refine l_R [] rfl ?_
  refine s_end (hKa _ (hI fun _ h _ => h.2.1) ?_)
  refine p_step 10 (by kernel_rfl) rfl fun Ka hKa => ?_
  refine l_autoS TY_ok rfl ?_
  refine l_call0 [.slice P4 ss4.length pc4, .slice P2 ss2.length pc2] rfl rfl rfl own_rfsame15 rfl rfl (fun _ _ => rfl) (rfsame15_S ss4 ss2) (fun w hF hM => ⟨hF.1.1, hF.2.2.1, hF.1.2, hM.2.1⟩) fun _ => ?_
  refine l_R [] rfl ?_
  refine l_is 47 true rfl (decide_eq_true (by rw [hs4, hs, hs2])) ?_
  refine s_end (hKa _ (hI fun _ h _ => h.2.2.1) ?_)
  refine p_step 11 (by kernel_rfl) rfl fun Ka hKa => ?_
  refine l_autoS TY_ok rfl ?_
  refine s_end (hKa _ (hI fun _ h _ => h.2.2.1) ?_)
  refine p_step 12 (by kernel_rfl) rfl fun Ka hKa => ?_
  refine l_autoS TY_ok rfl ?_
  refine s_end (hKa _ (hI fun _ h _ => h.2.2.1) ?_)
  refine p_frontF TY_ok 13 (by kernel_rfl) rfl rfl rfl rfl rfl rfl ?_
  refine p_frontF TY_ok 16 (by kernel_rfl) rfl rfl rfl rfl rfl rfl ?_
  refine p_frontF TY_ok 17 (by kernel_rfl) rfl rfl rfl rfl rfl rfl ?_
  refine p_frontZ (.v (.slice A LG.length c)) trivial 18 (by kernel_rfl) rfl rfl rfl rfl rfl (fun G a w ha _ => run_cutHi (e := 5) (sz := 1) (by kernel_rfl) (by omega) hA rfl Tryd.underlying33 rfl rfl G a w ha) ?_
  refine p_frontZ (vS LG) trivial 19 (by kernel_rfl) rfl rfl rfl rfl rfl (fun G a w ha hw => run_strB rfl rfl ha (by rw [← e1]; exact hw.take _)) ?_
  refine p_step 14 (by kernel_rfl) rfl fun Ka hKa => ?_
  refine l_autoS TY_ok rfl ?_
  refine l_call0 [pD g] rfl rfl rfl own_dbytes rfl rfl (fun _ _ => rfl) (dbytes_T g x.length A1 c1 LG (LG.length : Int) (by omega)) (fun w hF hM => ⟨hF.2.2.2.2.2.2, hF.2.2.2.2.2.1⟩) fun ⟨A5, c5⟩ => ?_
  refine l_R [] rfl ?_
  refine s_end (hKa _ (hI fun _ h _ => h.2.2.2.1) ?_)
  refine p_step 15 (by kernel_rfl) rfl fun Ka hKa => ?_
  refine l_autoS TY_ok rfl ?_
  refine l_strB LG rfl rfl rfl rfl rfl (rd_fact fun w h _ => h.1) ?_
  refine s_end (hKa _ (hI fun _ h _ => h.2.2.2.1) ?_)
  refine p_step 20 (by kernel_rfl) rfl fun Ka hKa => ?_
  refine l_autoS TY_ok rfl ?_
  refine l_op (.b (decide (LG = LG))) trivial rfl rfl rfl (run_eqS rfl rfl rfl) ?_
  refine l_is 57 true rfl (decide_eq_true rfl) ?_
  refine s_end (hKa _ (hI fun _ h _ => h.2.2.2.1) ?_)
  refine p_step 21 (by kernel_rfl) rfl fun Ka hKa => ?_
  refine l_autoS TY_ok rfl ?_
  refine s_end (hKa _ (hI fun _ h _ => h.2.2.2.1) ?_)
  refine p_step 22 (by kernel_rfl) rfl fun Ka hKa => ?_
  refine l_autoS TY_ok rfl ?_
  refine s_end (hKa _ (hI fun _ h _ => h.2.2.2.1) ?_)
  refine p_frontF TY_ok 23 (by kernel_rfl) rfl rfl rfl rfl rfl rfl ?_
  refine p_step 24 (by kernel_rfl) rfl fun Ka hKa => ?_
  refine l_autoS TY_ok rfl ?_
  refine l_call0 [pD h] rfl rfl rfl own_wdown rfl rfl (fun _ _ => rfl) (wdown_T h g P ss.length pc false) (fun w hF hM => hF.2.2.2.2.2.1.2) fun _ => ?_
  refine l_R [] rfl ?_
  refine s_end (hKa _ (hI fun _ h _ => h.2.2.2.2.1) ?_)
  refine p_tail [25, 26, 27] (by kernel_rfl) rfl ?_
  refine l_autoS TY_ok rfl ?_
  refine s_end (hK7 _ ?_)
  exact s_ret (k_ret TY_ok () rfl (by decide) rfl rfl rfl (fun _ _ _ => trivial) (fun _ _ => trivial))
end Go.Proofs.YtcbfalfkdnfelaaDoor
/-
  FROM A WALK TO A LAW'S ROW: the arguments read behind the call as they read before; arrays of 32 bytes, opened.
-/
namespace Go.Proofs.YtcbfalfkdnfelaaDoor
open Go.ChangeShapes Go.WideShapes Go.ChangeAt Go.RowKit

theorem own : ownKnob Tryd.prog.godebug = none := by kernel_rfl
theorem laidOut : laidOutB Tryd.prog = true := by kernel_rfl

section
variable {H : Type} {enc : TypeId × Value → H} {W W' : World}

/-- All arguments at once. -/
theorem trodAll_below : ∀ {ts : List TypeId} {vs : List Value} {ds : List (DataW H)} {p : List MemPlace}, (∀ t ∈ ts, Tryd.prog.readableRec t = true ∧ t < Tryd.prog.types.size) →
    DataW.TrodAll enc Tryd.prog W 0 (fun _ => true) true ts vs ds p → Below W.heap.size W W' → (∀ x ∈ p, x.block < W.heap.size) → DataW.TrodAll enc Tryd.prog W' 0 (fun b => decide (b < W.heap.size)) true ts vs ds p
  | [], _, _, _, _, h, _, _ => by
    obtain ⟨rfl, rfl, rfl⟩ := trodAll_nil h
    exact trodAll_mk0
  | t :: ts, _, _, _, hts, h, hb, hlt => by
    obtain ⟨v, vs', d, ds', p, q, rfl, rfl, rfl, h0, h1⟩ := trodAll_cons h
    obtain ⟨hr, hz⟩ := hts t (by simp)
    exact trodAll_cons_mk (Below.trod laidOut hr hz h0 hb (fun x hx => hlt x (by simp [hx]))) (trodAll_below (fun u hu => hts u (by simp [hu])) h1 hb (fun x hx => hlt x (by simp [hx])))

theorem law_post {f : Func} {s : ChangeSpec} {args : Array Value} {ds gs : List (DataW H)} {before : List MemPlace} (hf : f.resultTypes = #[4]) (hvars : s.vars = [])
    (hts : ∀ t ∈ f.params.toList, Tryd.prog.readableRec t = true ∧ t < Tryd.prog.types.size)
    (hW : DataW.Whole enc Tryd.prog f.params.toList s.vars false W args.toList ds gs before) (hs : s.fn H (ds ++ gs) = { results := [.lit (.bool true)], args := ds }) (hb : Below W.heap.size W W') :
    s.post enc Tryd.prog f false true false false W args (.bool true) W' := by
  have hW' := hW
  obtain ⟨p, q, hA, hV, rfl, _, _⟩ := hW
  rw [hvars] at hV
  obtain ⟨rfl, rfl⟩ := trodVars_none hV
  have hlt : ∀ x ∈ p, x.block < W.heap.size := fun x hx => hW'.lt x (by simp [hx])
  refine ⟨ds, [], p ++ [], [], p, [], hW', ?_, ?_, ?_, hb.frame _, fun h => by cases h⟩
  · rw [hs, hf]
    exact trodAll_mk1 (shut_bool Tryd.underlying4 true)
  · rw [hs]
    exact trodAll_below hts hA hb hlt
  · rw [hs, hvars]
    rfl
end

theorem cells8 : Tryd.prog.cellsOf 5 = 1 := by kernel_rfl
theorem one_of {l : List Value} {i : Nat} {v : Value} (h : (l.drop (i * 1)).take 1 = [v]) : l[i]? = some v := by
  rw [Nat.mul_one] at h
  have h1 : ((l.drop i).take 1)[0]? = some v := by rw [h]; rfl
  rw [List.getElem?_take, if_pos (by omega), List.getElem?_drop] at h1
  simpa using h1

/-! ### Arrays of 32 bytes -/
end Go.Proofs.YtcbfalfkdnfelaaDoor
/-
  FROM A WALK TO A LAW'S ROW: slices of anything, opened; hashes.
-/
namespace Go.Proofs.YtcbfalfkdnfelaaDoor
open Go.RowKit Go.IntWalk
open Go.ChangeShapes Go.WideShapes Go.ChangeAt

theorem pick_list {α : Type} (P : Nat → α → Prop) : ∀ n, (∀ i, i < n → ∃ l, P i l) → ∃ ks : List α, ks.length = n ∧ ∀ i l, ks[i]? = some l → P i l
  | 0, _ => ⟨[], rfl, fun i l h => by simp at h⟩
  | n + 1, h => by
    obtain ⟨ks, hl, hk⟩ := pick_list P n fun i hi => h i (by omega)
    obtain ⟨l, hp⟩ := h n (by omega)
    refine ⟨ks ++ [l], by simp [hl], fun i x hx => ?_⟩
    by_cases hi : i < ks.length
    · rw [List.getElem?_append_left hi] at hx
      exact hk i x hx
    · rw [List.getElem?_append_right (by omega)] at hx
      have h0 : i - ks.length = 0 := by
        by_cases e : i - ks.length = 0
        · exact e
        · rw [List.getElem?_eq_none (by simp; omega)] at hx
          cases hx
      rw [h0] at hx
      obtain rfl : l = x := by simpa using hx
      obtain rfl : i = n := by omega
      exact hp
end Go.Proofs.YtcbfalfkdnfelaaDoor
/-
  FROM A WALK TO A LAW'S ROW: slices of bytes and arrays of 64 bytes, opened.
-/
namespace Go.Proofs.YtcbfalfkdnfelaaDoor
open Go.RowKit Go.IntWalk
open Go.ChangeShapes Go.WideShapes Go.ChangeAt

theorem open_bytes {H : Type} {enc : TypeId × Value → H} {W : World} {held : Bool} {fuel : Nat} {cs : List Value} {x : DataW H × List MemPlace} (h : DataW.trod enc Tryd.prog W 0 (fun _ => true) held fuel 33 cs = some x) :
    ∃ (A : Option Addr) (l : List UInt8) (c : Nat), cs = [.slice A l.length c] ∧ SL W 0 W.heap.size A l c := by
  rcases open_ints Tryd.underlying33 Tryd.underlying5 cells8 h with ⟨rfl, rfl⟩ | ⟨a, len, cap, zs, rfl, _, hl, hm, hz, rfl, hcell, hwz⟩
  · exact ⟨none, [], 0, rfl, SL.nil _ _ _⟩
  · have hz' : zs.length = cap := hz
    have hlen : ((zs.take len).map fun z => UInt8.ofNat z.toNat).length = len := by simp; omega
    refine ⟨some a, (zs.take len).map fun z => UInt8.ofNat z.toNat, cap, by rw [hlen], by rw [hlen]; exact hl, by unfold maxLen at hm; omega, fun h => (by cases h), fun hpos => ⟨a, rfl, Nat.zero_le _, ?_, fun j x hx => ?_⟩⟩
    · have h0 : 0 < zs.length := by rw [hlen] at hpos; omega
      have := World.block_lt_of_cell? W _ (hcell 0 h0)
      rwa [block_add] at this
    · simp only [List.getElem?_map, List.getElem?_take, Option.map_eq_some_iff] at hx
      obtain ⟨z, hz, rfl⟩ := hx
      split at hz
      · have hj := (List.getElem?_eq_some_iff.1 hz).1
        have hb := range_u8 hwz j
        have hg : zs.getD j 0 = z := by simp [List.getD, hz]
        rw [hz] at hb
        simp only [Option.getD_some] at hb
        rw [hcell j hj, hg]
        have e : (UInt8.ofNat z.toNat).toNat = z.toNat := by
          simp
          omega
        rw [e, Int.toNat_of_nonneg hb.1]
      · cases hz
theorem bulk_one {H : Type} (d : DataW H) : 1 ≤ Rows.uptoBulk d := by
  cases d with
  | lit l => cases l <;> simp [Rows.uptoBulk]
  | _ => simp [Rows.uptoBulk]
theorem bulk_len {H : Type} : ∀ l : List (DataW H), l.length ≤ Rows.uptoBulkAll l
  | [] => Nat.zero_le _
  | d :: l => by
    have h1 := bulk_one d
    have h2 := bulk_len l
    simp only [Rows.uptoBulkAll, List.length_cons]
    omega
theorem slice_bulk {H : Type} {enc : TypeId × Value → H} {W : World} {held : Bool} {fuel n c : Nat} {t e : TypeId} {A : Option Addr} {x : DataW H × List MemPlace} (ht : Tryd.prog.underlying t = some (.slice e)) (h : DataW.trod enc Tryd.prog W 0 (fun _ => true) held fuel t [.slice A n c] = some x) : n ≤ Rows.uptoBulk x.1 := by
  rcases DataW.trod_slice ht h with ⟨e, _⟩ | ⟨a, len, cap, elems, rest, m, _, e, rfl, _, _, _, hlen, _⟩
  · injection e with e
    injection e with _ e
    omega
  · injection e with e
    injection e with _ e
    have h1 := bulk_len (elems.map (·.1))
    rw [List.length_map] at h1
    simp only [Rows.uptoBulk]
    omega
end Go.Proofs.YtcbfalfkdnfelaaDoor
/-
  FROM A WALK TO A LAW'S ROW: slices of anything, opened, with what is known of each element.
-/
namespace Go.Proofs.YtcbfalfkdnfelaaDoor
open Go.RowKit Go.IntWalk
open Go.ChangeShapes Go.WideShapes Go.ChangeAt

theorem bulk_in {H : Type} {d : DataW H} : ∀ {l : List (DataW H)}, d ∈ l → Rows.uptoBulk d ≤ Rows.uptoBulkAll l
  | e :: l, h => by
    simp only [Rows.uptoBulkAll]
    rcases List.mem_cons.1 h with rfl | h
    · exact Nat.le_add_right _ _
    · exact Nat.le_trans (bulk_in h) (Nat.le_add_left _ _)
theorem open_rdP {α H : Type} {enc : TypeId × Value → H} {W : World} {held : Bool} {fuel : Nat} {t e : TypeId} {k : Nat} {fe : α → SQ} {p : DataW H → α → Prop} {cs : List Value} {x : DataW H × List MemPlace} (ht : Tryd.prog.underlying t = some (.slice e)) (hk : Tryd.prog.cellsOf e = k) (hk0 : 0 < k)
    (hel : ∀ n cs x, DataW.trod enc Tryd.prog W 0 (fun _ => true) held n e cs = some x → ∃ a : α, (cs = (fe a).cl ∧ OkP (fe a).parts1 ∧ (fe a).cl.length = k) ∧ p x.1 a)
    (h : DataW.trod enc Tryd.prog W 0 (fun _ => true) held fuel t cs = some x) :
    ∃ (A : Option Addr) (l : List α) (c : Nat), cs = [.slice A l.length c] ∧ Rd k fe A c l W ∧ ∀ y ∈ l, ∃ d, p d y ∧ Rows.uptoBulk d ≤ Rows.uptoBulk x.1 := by
  rcases DataW.trod_slice ht h with ⟨rfl, _⟩ | ⟨a, len, cap, elems, rest, n, rfl, rfl, rfl, _, hl, hm, hlen, hel2, _⟩
  · exact ⟨none, [], 0, rfl, Rd.nil _ _ _, fun _ h => by cases h⟩
  · rw [hk] at hel2
    obtain ⟨ks, hk1, hk2⟩ := pick_list (fun i (y : α) => ((OkP (fe y).parts1 ∧ (fe y).cl.length = k) ∧ W.cells? 0 (a.add (i * k)) k = some (fe y).cl) ∧ ∃ d ∈ elems.map (·.1), p d y) len fun i hi => by
      have h0 := hel2 i hi
      rw [List.getElem?_eq_getElem (by omega)] at h0
      cases hc : W.cells? 0 (a.add (i * k)) k with
      | none => rw [hc] at h0; cases h0
      | some cs =>
        rw [hc] at h0
        obtain ⟨y, ⟨rfl, h1⟩, h2⟩ := hel _ _ _ h0
        exact ⟨y, ⟨h1, rfl⟩, _, List.mem_map.2 ⟨_, List.getElem_mem _, rfl⟩, h2⟩
    subst hk1
    refine ⟨some a, ks, cap, rfl, ⟨hl, (by unfold maxLen at hm; omega), fun e => (by cases e), fun y hy => ?_, fun hpos => ?_⟩, fun y hy => ?_⟩
    · obtain ⟨i, hi, rfl⟩ := List.getElem_of_mem hy
      exact (hk2 i _ (List.getElem?_eq_getElem hi)).1.1
    · have hcell : ∀ i y, ks[i]? = some y → ∀ j v, (fe y).cl[j]? = some v → W.cell? (a.add (i * k + j)) = some v := fun i y hi j v hj => by
        obtain ⟨⟨⟨_, hkl⟩, hc⟩, _⟩ := hk2 i y hi
        obtain ⟨_, _, h3⟩ := World.cells?_some hc
        have hjk : j < k := by
          have := (List.getElem?_eq_some_iff.1 hj).1
          omega
        have := h3 j hjk
        rw [Addr.add_add, hj] at this
        exact this
      have h00 := (hk2 0 _ (List.getElem?_eq_getElem hpos)).1
      have hb := World.cells?_block h00.2 hk0
      rw [Nat.zero_mul] at hb
      obtain ⟨b, o, sp⟩ := a
      have hsp0 : sp = none := by
        obtain ⟨v, hv⟩ : ∃ v, (fe ks[0]).cl[0]? = some v := ⟨_, List.getElem?_eq_getElem (by rw [h00.1.2]; exact hk0)⟩
        have := hcell 0 _ (List.getElem?_eq_getElem hpos) 0 v hv
        rw [Nat.zero_mul, show (⟨b, o, sp⟩ : Addr).add (0 + 0) = ⟨b, o, sp⟩ from rfl, World.cell?] at this
        cases sp with
        | none => rfl
        | some s =>
          exfalso
          dsimp only at this
          split at this
          · simp at this
          · cases this
      subst hsp0
      refine ⟨b, o, rfl, hb, fun i y hi j v hj => ?_⟩
      have := hcell i y hi j v hj
      rw [Addr.add_mid] at this
      rwa [Nat.add_assoc, Nat.mul_comm k i]
    · obtain ⟨i, hi, rfl⟩ := List.getElem_of_mem hy
      obtain ⟨_, d, hd, hp⟩ := hk2 i _ (List.getElem?_eq_getElem hi)
      refine ⟨d, hp, ?_⟩
      have := bulk_in hd
      simp only [Rows.uptoBulk]
      omega
end Go.Proofs.YtcbfalfkdnfelaaDoor
/-
  FROM A WALK TO A LAW'S ROW: the cells of a table of words, from what the row lists.
-/
namespace Go.Proofs.YtcbfalfkdnfelaaDoor
open Go.ChangeShapes Go.WideShapes Go.ChangeAt Go.RowKit

theorem cells64 : Tryd.prog.cellsOf 57 = 1 := by kernel_rfl
set_option maxRecDepth 20000 in
/-- The cells of a table of words. -/
theorem table_cells {W : World} {nm : String} {g g0 t0 tid n fuel : Nat} {l : List Nat} {datum : DataW Unit} {cs : List Value} {p : List MemPlace} (hg : Tryd.prog.globalNamed nm = some g) (ht : (Tryd.prog.globals[g]?).map (·.type) = some tid) (hu : Tryd.prog.underlying tid = some (.array n 57))
    (hd : datum = .agg (l.map fun (x : Nat) => .lit (.int .u64 (x : Int)))) (hg0 : Tryd.prog.globalNamed nm = some g0) (ht0 : (Tryd.prog.globals[g0]?).map (·.type) = some t0) (hv0 : W.var? Tryd.prog nm = some cs.toArray) (hd0 : DataW.trod (fun _ => ()) Tryd.prog W 0 (fun _ => true) false fuel t0 cs = some (datum, p)) :
    ∀ i, i < n → W.cell? ⟨g, i, none⟩ = some (.int .u64 (l[i]! : Nat)) := by
  obtain rfl := Option.some.inj (hg.symm.trans hg0)
  obtain rfl := Option.some.inj (ht.symm.trans ht0)
  obtain ⟨xs, m1, rfl, hx1, hlen, hn5, hel⟩ := DataW.trod_array hu hd0
  have hx2 := congrArg Prod.fst hx1
  rw [hd] at hx2
  injection hx2 with hx2
  intro i hi
  have h0 := hel i hi
  rw [cells64] at h0
  obtain ⟨x, hxi⟩ : ∃ x, xs[i]? = some x := ⟨xs[i]'(by omega), List.getElem?_eq_getElem (by omega)⟩
  rw [hxi] at h0
  obtain ⟨n', e1, e2, _⟩ := DataW.trod_int Tryd.underlying57 h0
  have hll : l.length = n := by
    have := congrArg List.length hx2
    simp only [List.length_map] at this
    omega
  have h3 : (l.map fun (x : Nat) => (DataW.lit (.int .u64 (x : Int)) : DataW Unit))[i]? = (xs.map (·.1))[i]? := by rw [hx2]
  rw [List.getElem?_map, List.getElem?_map, hxi, List.getElem?_eq_getElem (by omega)] at h3
  simp only [Option.map_some, Option.some.injEq] at h3
  rw [e2] at h3
  have hn : n' = ((l[i]! : Nat) : Int) := by
    rw [getElem!_pos l i (by omega)]
    injection h3 with h3
    injection h3 with _ h3
    exact h3.symm
  subst hn
  have hcell := World.var?_cell hg hv0 i
  rw [hcell]
  have := one_of e1
  simpa using this
end Go.Proofs.YtcbfalfkdnfelaaDoor
/-
  FROM A WALK TO A LAW'S ROW: the two tables of the digests.
-/
namespace Go.Proofs.YtcbfalfkdnfelaaDoor
open Go.ChangeShapes Go.WideShapes Go.ChangeAt Go.RowKit Nums

def laid2 : List (String × DataW Unit) := [("witan/sha.starts", Rows.laid_witan_sha_starts), ("witan/sha.steps", Rows.laid_witan_sha_steps)]
/-- The door's own heap meets the condition. -/
theorem door_met2 (os : Os) (args : Array Value) : laidMetH Tryd.prog laid2 ((World.doorLaid Tryd.prog 400 os).forCall (fun _ _ => 0) ⟨#[], args, []⟩).memory :=
  laidMetH_of_parts3 (fuel := 8) (laidMet_of_run' 8 (by kernel_rfl) (by kernel_rfl)) (by kernel_rfl) (by kernel_rfl)
set_option maxRecDepth 20000 in
/-- What the condition gives the walks. -/
theorem of_laid2 {W : World} (h : laidMetH Tryd.prog laid2 W) : Tsh W := by
  rw [MakeChecks.laidMetH_plain _ _ _ (by kernel_rfl)] at h
  obtain ⟨ps, ⟨g1, t1, cs1, f1, p1, q1, hg1, ht1, hv1, hd1, ⟨g2, t2, cs2, f2, p2, q2, hg2, ht2, hv2, hd2, _, _⟩, _⟩, _, _⟩ := h
  have c1 := table_cells (l := sqs) (n := 8) (g := 0) (tid := 93) (by kernel_rfl) (by kernel_rfl) Tryd.underlying93 (by kernel_rfl) hg1 ht1 hv1 hd1
  have c2 := table_cells (l := cbs) (n := 80) (g := 1) (tid := 98) (by kernel_rfl) (by kernel_rfl) Tryd.underlying98 (by kernel_rfl) hg2 ht2 hv2 hd2
  exact ⟨⟨c2, World.block_lt_of_cell? W ⟨1, 0, none⟩ (c2 0 (by omega))⟩, c1, World.block_lt_of_cell? W ⟨0, 0, none⟩ (c1 0 (by omega))⟩
end Go.Proofs.YtcbfalfkdnfelaaDoor
/-
  FROM A WALK TO A LAW'S ROW: slices of slices of bytes, opened.
-/
namespace Go.Proofs.YtcbfalfkdnfelaaDoor
open Go.RowKit Go.IntWalk
open Go.ChangeShapes Go.WideShapes Go.ChangeAt

set_option maxRecDepth 20000 in
theorem seg_cells {H : Type} {enc : TypeId × Value → H} {W : World} {held : Bool} (n : Nat) (cs : List Value) (x : DataW H × List MemPlace) (h : DataW.trod enc Tryd.prog W 0 (fun _ => true) held n 33 cs = some x) :
    ∃ s : Seg, (cs = (eSeg s).cl ∧ OkP (eSeg s).parts1 ∧ (eSeg s).cl.length = 1) ∧ s.rd W ∧ s.l.length ≤ Rows.uptoBulk x.1 := by
  obtain ⟨A, l, c, rfl, hs⟩ := open_bytes h
  exact ⟨⟨A, c, l⟩, ⟨rfl, eSeg_ok _⟩, Rd.of_sl hs, slice_bulk Tryd.underlying33 h⟩
instance pst_segs {A : Option Addr} {c : Nat} {l : List Seg} : Pst (fun w => Tsh w ∧ Rd 1 eSeg A c l w ∧ ∀ x ∈ l, x.rd w) := ⟨fun _ _ h hb => ⟨Pst.later _ _ h.1 hb, h.2.1.later hb, fun x hx => (h.2.2 x hx).later hb⟩⟩
end Go.Proofs.YtcbfalfkdnfelaaDoor
