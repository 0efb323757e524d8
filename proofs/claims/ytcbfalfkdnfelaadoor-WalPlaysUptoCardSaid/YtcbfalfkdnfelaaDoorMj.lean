/-
  SEVERAL TEXTS IN ONE: Pgd, WlI, DkF, DkL, WlJ, WlK, WlL, WlM, WlY.
-/
import Derived.Test.YtcbfalfkdnfelaaDoorMh
import Derived.Test.YtcbfalfkdnfelaaDoorMd
import Derived.Test.YtcbfalfkdnfelaaDoorMe
import Derived.Test.YtcbfalfkdnfelaaDoorMi
import Derived.Test.YtcbfalfkdnfelaaDoorMg
/-
  DRAWN REGIONS WITH MEMORY, over states: operations behind guards that are met; some steps at once.
-/
namespace Go.Proofs.YtcbfalfkdnfelaaDoor
open Go.RowKit Go.IntWalk

section
variable {P : Program} {T : List TyR} {b : Base} {ops : Array Oper} {Q : Exit → Act → World → Prop} {N fuel : Nat} {p : Nat → Bool} {Fin : Array Bool → Act → World → Prop} {listed : Array Bool} {E : SE} {L : List LV} {R : List Res} {F M : World → Prop} {Inv : World → Prop} {e : Env}
/-- A step that only reads, wanted or without a guard, is taken first. -/
theorem p_frontZ {o : Oper} {k : Nat} (v : SV) (hvo : v.Ok) (i : Nat) (hc : frontP ops p i listed = true) (ho : ops[i]? = some o) (hw : wantS ops N E o = some true) (hd : o.dst = some k) (hk : Nat.blt k N = true) (hs : stillG o.op = true) (hv : ∀ (G : Nat → Nat) (a : Act) (w : World), Fr N (denE G E) a → Inv w → (execOp a.eval o).run P w = .ok (.value (v.den G)) w)
    (hn : pS P b Q N ops Inv p Fin fuel (listed.setIfInBounds i true) ⟨(k, v) :: E, L, R, F, M⟩) : pS P b Q N ops Inv p Fin (fuel + 1) listed ⟨E, L, R, F, M⟩ := fun hcs a w hst hI => by
  obtain ⟨G, S, h1, h2, h3⟩ := hst
  simp only [frontP, Bool.and_eq_true] at hc
  obtain ⟨⟨⟨hin, hr⟩, hfr⟩, hsel⟩ := hc
  have hr' : i ∈ Region.ready .any ops listed := by simpa using hr
  have h6 := hn (hcs.set hr') (a.put (some k) (v.den G)) w ⟨G, S, h1.put hk _, h2.cons hvo, h3⟩ hI
  refine P_first hin ho hs (Region.noSelect_spec hsel) panic_putP fuel listed a w hI hcs (Region.free_spec ho hfr) hr' (v := v.den G) (.inl ⟨wantS_ok h1 hw, fun w' hw' => ?_⟩) (by rw [hd]; exact h6)
  unfold atB
  rw [hv G a w' h1 hw']
  exact ⟨rfl, rfl⟩
/-- The same, reckoned, of the frame alone. -/
theorem p_frontF {o : Oper} {k : Nat} {v : SV} (hT : OkT P T) (i : Nat) (hc : frontP ops p i listed = true) (ho : ops[i]? = some o) (hw : wantS ops N E o = some true) (hd : o.dst = some k) (hk : Nat.blt k N = true) (hs : stillG o.op = true) (hv : stepS T E [] o.op = some v)
    (hn : pS P b Q N ops Inv p Fin fuel (listed.setIfInBounds i true) ⟨(k, v) :: E, L, R, F, M⟩) : pS P b Q N ops Inv p Fin (fuel + 1) listed ⟨E, L, R, F, M⟩ := fun hcs a w hst hI => by
  have h2 : OkE E := by
    obtain ⟨G, S, h1, h2, h3⟩ := hst
    exact h2
  obtain ⟨h4, h5⟩ := stepS_ok (N := N) hT h2 (L := []) (fun _ hx => by cases hx) hv
  exact p_frontZ v h4 i hc ho hw hd hk hs (fun G a w h1 _ => h5 h1 fun _ hx => by cases hx) hn hcs a w hst hI
end
/-- Bytes as a string, in a world where they lie. -/
theorem run_strB {N : Nat} {E : SE} {o : Oper} {x : Operand} {A : Option Addr} {c : Nat} {l : List UInt8} (ho : o.op = .convert 33 9 x) (hx : evS E x = some (.v (.slice A l.length c))) {G : Nat → Nat} {a : Act} {w : World} (ha : Fr N (denE G E) a) (h : Rd 1 eB A c l w) :
    (execOp a.eval o).run Tryd.prog w = .ok (.value ((vS l).den G)) w := by
  have h1 : a.eval x = .slice A l.length c := ha.eval (evS_ok hx)
  obtain ⟨A', c', e, hS⟩ := h.sb
  injection e with e1 _ e2
  subst e1
  subst e2
  unfold execOp
  simp only [ho, h1]
  cases A with
  | none =>
    obtain ⟨h3, h4⟩ := hS.none_ rfl
    obtain rfl := List.eq_nil_of_length_eq_zero h3
    have hr := run_convert_bytes_nil (P := Tryd.prog) w 33 5 Tryd.underlying33 Tryd.underlying5 0 c 9 Tryd.underlying9
    simp only [Sem.run_bind, List.length_nil, hr, Result.andThen_ok, Sem.run_pure]
    rfl
  | some ad =>
    have hr := run_convert_bytes_back (P := Tryd.prog) w 33 9 5 ad c l Tryd.underlying33 Tryd.underlying5 Tryd.underlying9 (fun j hj => hS.cells ad rfl j _ (by rw [By_at? hj, getElem!_pos l j hj]))
    simp only [Sem.run_bind, hr, Result.andThen_ok, Sem.run_pure]
    rfl
theorem xor_b255 (a : UInt8) : ∃ y : UInt8, bits .xor .u8 (a.toNat : Int) 255 = (y.toNat : Int) := by
  have key : ∀ m : Nat, m < 256 → 0 ≤ bits .xor .u8 (m : Int) 255 ∧ bits .xor .u8 (m : Int) 255 < 256 := by decide +kernel
  exact byte_z (key a.toNat a.toNat_lt)
end Go.Proofs.YtcbfalfkdnfelaaDoor
/-
  THE LAWS' first, of logs.
-/
namespace Go.Proofs.YtcbfalfkdnfelaaDoor
open Go.RowKit Go.IntWalk Nums

theorem own_first15 : Own 7 := fun _ _ => by go_simp
theorem saysD_nil : saysD [] = [] := rfl
set_option maxRecDepth 100000 in
set_option maxHeartbeats 1000000 in
theorem first15_S : Spec 7 [] [] Tsh (one (.v (.bool true))) := by
  refine spec_S [] 58 Tryd.func7 rfl (by rw [Tryd.ntmps7]; rfl) no_ok fun b => ?_
  refine s_auto TY_ok rfl ?_
  refine s_regA TY_ok rfl fun K hK => ?_
  refine l_call0 [.int .i64 100] rfl rfl rfl own_dnew rfl rfl (fun _ _ => rfl) (dnew_S 100 (by decide)) (fun _ _ _ => trivial) fun g => ?_
  refine l_R [DkO g 100 none 0 [] 0, DkB none 0 []] rfl ?_
  refine l_autoS TY_ok rfl ?_
  refine s_end (hK _ ?_)
  refine s_regA TY_ok rfl fun K1 hK1 => ?_
  have ho := wopen_S g 100 none 0 [] 0 (by decide)
  rw [saysD_nil] at ho
  refine l_callA (own := [DkO g 100 none 0 [] 0, DkB none 0 []]) (R' := []) [pD g] rfl rfl rfl own_wopen rfl rfl (fun _ _ => rfl) ho (fun _ h _ => h.2) fun ⟨h, P, pc, ss, hs⟩ => ?_
  obtain rfl : ss = [] := List.map_eq_nil_iff.1 hs
  refine l_R [DkO g 100 none 0 [] 0, DkB none 0 [], LgO h g P 0 pc false, SgO P pc []] rfl ?_
  refine l_autoS TY_ok rfl ?_
  refine s_end (hK1 _ ?_)
  refine s_seq fun K2 hK2 => ?_
  refine s_regA TY_ok rfl fun K3 hK3 => ?_
  refine l_is 23 false rfl rfl (l_autoS TY_ok rfl ?_)
  refine l_litS [97, 98] rfl rfl rfl rfl (fun _ => rfl) rfl (by decide) (by decide) rfl rfl rfl rfl rfl fun g1 => ?_
  refine l_autoS TY_ok rfl ?_
  refine l_list TY_ok b.B.heap.size [⟨some ⟨g1, 0, none⟩, 2, [97, 98]⟩] (fe := eSeg) rfl rfl rfl rfl rfl (fun _ => rfl) rfl (by decide) (by decide) (okF_seg _) (Nat.le_refl _) fun B1 => ?_
  refine l_freeM 0 rfl (Nat.le_refl _) ?_
  refine l_autoS TY_ok rfl ?_
  obtain ⟨LG, hLG, hLl, hLr⟩ : ∃ LG, logD 0 [[97, 98]] = LG ∧ LG.length = 18 ∧ saysD LG = [[97, 98]] := ⟨_, rfl, by rw [logD_one, rowD_len]; rfl, saysD_log (fun x hx => by rw [List.mem_singleton.1 hx]; decide)⟩
  have hw := wwrite_S h g 100 none 0 [] 0 P pc [] B1 1 [⟨some ⟨g1, 0, none⟩, 2, [97, 98]⟩] LG hLG true (by symm; exact decide_eq_true (by rw [hLl]; decide)) (by decide) (by decide) (Nat.le_of_ble_eq_true rfl) (Nat.le_of_ble_eq_true rfl) (fun x hx => by rw [List.mem_singleton.1 hx]; exact Nat.le_of_ble_eq_true rfl) (by rw [hLl]; decide)
  refine l_callA (own := [DkO g 100 none 0 [] 0, DkB none 0 [], LgO h g P 0 pc false, SgO P pc []]) (R' := []) [pD h, .slice B1 1 1] rfl rfl rfl own_wwrite rfl rfl (fun _ _ => rfl) hw (fun w hF hM => ⟨hF.2.2, hM.1, fun s hs => by rw [List.mem_singleton.1 hs]; exact hM.2.1⟩) fun ⟨dA, dc, P2, pc2, ss2, hs2⟩ => ?_
  refine l_R [DkO g 100 dA dc LG (LG.length : Int), DkB dA dc LG, LgO h g P2 ss2.length pc2 false, SgO P2 pc2 ss2] rfl ?_
  refine l_autoS TY_ok rfl ?_
  refine l_is 31 false rfl rfl (l_autoS TY_ok rfl ?_)
  refine l_callA (own := [DkO g 100 dA dc LG (LG.length : Int)]) (R' := [DkB dA dc LG, LgO h g P2 ss2.length pc2 false, SgO P2 pc2 ss2]) [pD g] rfl rfl rfl own_dlen rfl rfl (fun _ _ => rfl) (dlen_S g 100 dA dc LG (LG.length : Int)) (fun _ _ _ => trivial) fun _ => ?_
  refine l_R [DkO g 100 dA dc LG (LG.length : Int), DkB dA dc LG, LgO h g P2 ss2.length pc2 false, SgO P2 pc2 ss2] rfl ?_
  refine l_autoS TY_ok rfl ?_
  refine l_is 35 false rfl (decide_eq_false (by rw [hLl]; decide)) ?_
  refine s_end (hK3 _ ?_)
  refine s_no rfl ?_
  refine s_skip (hK2 _ ?_)
  refine s_regA TY_ok rfl fun K4 hK4 => ?_
  have ho2 := wopen_S g 100 dA dc LG LG.length (by rw [hLl]; decide)
  rw [hLr, hLG] at ho2
  refine l_callA (own := [DkO g 100 dA dc LG (LG.length : Int), DkB dA dc LG]) (R' := [LgO h g P2 ss2.length pc2 false, SgO P2 pc2 ss2]) [pD g] rfl rfl rfl own_wopen rfl rfl (fun _ _ => rfl) ho2 (fun _ h _ => h.2.2.2.2) fun ⟨h3, P3, pc3, ss3, hs3⟩ => ?_
  refine l_R [DkO g 100 dA dc LG (LG.length : Int), DkB dA dc LG, LgO h3 g P3 ss3.length pc3 false, SgO P3 pc3 ss3, LgO h g P2 ss2.length pc2 false, SgO P2 pc2 ss2] rfl ?_
  refine l_autoS TY_ok rfl ?_
  refine s_end (hK4 _ ?_)
  refine s_freeO 2 rfl (s_free 2 rfl ?_)
  have hl3 : ss3.length = 1 := by have := congrArg List.length hs3; rwa [List.length_map] at this
  obtain ⟨x3, rfl⟩ : ∃ x, ss3 = [x] := by
    match ss3, hl3 with
    | [x], _ => exact ⟨x, rfl⟩
  have hx3 : x3.l = [97, 98] := by simpa using hs3
  refine s_regA TY_ok rfl fun K5 hK5 => ?_
  refine l_call0 [pD h3] rfl rfl rfl own_wrows rfl rfl (fun _ _ => rfl) (wrows_T h3 g P3 pc3 [x3] false (Nat.le_of_ble_eq_true rfl) (fun x hx => by rw [List.mem_singleton.1 hx, hx3]; decide)) (fun w hF hM => ⟨hF.2.1, hF.1, hM.1⟩) fun ⟨P4, pc4, ss4, hs4⟩ => ?_
  refine l_R [DkO g 100 dA dc LG (LG.length : Int), DkB dA dc LG, LgO h g P2 ss2.length pc2 false, SgO P2 pc2 ss2] rfl ?_
  have hl4 : ss4.length = 1 := by have := congrArg List.length hs4; rwa [List.length_map] at this
  obtain ⟨x4, rfl⟩ : ∃ x, ss4 = [x] := by
    match ss4, hl4 with
    | [x], _ => exact ⟨x, rfl⟩
  have hx4 : x4.l = [97, 98] := by rw [← hx3]; simpa using hs4
  refine l_autoS TY_ok rfl ?_
  refine s_end (hK5 _ ?_)
  refine s_regA TY_ok rfl fun K6 hK6 => ?_
  refine l_is 46 true rfl rfl (l_autoS TY_ok rfl ?_)
  refine l_elem (fe := eSeg) (x := x4) (l := [x4]) TY_ok rfl rfl rfl 0 rfl rfl rfl rfl (rd_fact fun w h _ => h.1.1) ?_
  refine l_autoS TY_ok rfl ?_
  refine l_strB x4.l rfl rfl rfl rfl rfl (rd_fact fun w h _ => h.1.2 x4 List.mem_cons_self) ?_
  refine l_autoS TY_ok rfl ?_
  refine l_op (.b (decide (x4.l = [97, 98]))) trivial rfl rfl rfl (run_eqS rfl rfl rfl) ?_
  refine l_autoS TY_ok rfl ?_
  refine l_is 53 true rfl (decide_eq_true hx4) (l_autoS TY_ok rfl ?_)
  refine l_callA (own := [DkO g 100 dA dc LG (LG.length : Int), DkB dA dc LG]) (R' := [LgO h g P2 ss2.length pc2 false, SgO P2 pc2 ss2]) [pD g, .int .i64 ((17 : Nat) : Int)] rfl rfl rfl own_dcut rfl rfl (fun _ _ => rfl) (dcut_S g 100 17 dA dc LG LG.length (by omega)) (fun _ _ _ => trivial) fun _ => ?_
  refine l_autoS TY_ok rfl ?_
  refine l_is 0 true rfl rfl ?_
  refine s_end (hK6 _ ?_)
  refine s_ret (k_drop 0 rfl (k_drop 0 rfl (k_drop 0 rfl (k_drop 0 rfl ?_))))
  exact k_ret TY_ok () rfl (by decide) rfl rfl rfl (fun _ _ _ => trivial) (fun _ _ => trivial)
end Go.Proofs.YtcbfalfkdnfelaaDoor
/-
  THE LAWS' first, of disks.
-/
namespace Go.Proofs.YtcbfalfkdnfelaaDoor
open Go.RowKit Go.IntWalk

end Go.Proofs.YtcbfalfkdnfelaaDoor
/-
  THE LAW DiskKeeps, walked.
-/
namespace Go.Proofs.YtcbfalfkdnfelaaDoor
open Go.RowKit Go.IntWalk

theorem crash_le (keep : Int) {s n : Nat} (h : s ≤ n) : s ≤ crashN keep s n ∧ crashN keep s n ≤ n ∧ ((n : Int) - s ≤ keep → crashN keep s n = n) := by
  unfold crashN
  omega
end Go.Proofs.YtcbfalfkdnfelaaDoor
/-
  THE LAW WalReads, walked.
-/
namespace Go.Proofs.YtcbfalfkdnfelaaDoor
open Go.RowKit Go.IntWalk Nums

end Go.Proofs.YtcbfalfkdnfelaaDoor
/-
  THE LAW WalTorn, walked.
-/
namespace Go.Proofs.YtcbfalfkdnfelaaDoor
open Go.RowKit Go.IntWalk Nums

theorem logD_le {m : Nat} : ∀ (i : Nat) (l : List (List UInt8)), (∀ x ∈ l, x.length ≤ m) → (logD i l).length ≤ l.length * (16 + m)
  | _, [], _ => Nat.zero_le _
  | i, x :: r, h => by
    show (rowD i x ++ logD (i + 1) r).length ≤ (r.length + 1) * (16 + m)
    have h1 := logD_le (i + 1) r fun y hy => h y (List.mem_cons_of_mem _ hy)
    have h2 := h x List.mem_cons_self
    rw [List.length_append, rowD_len, Nat.add_mul]
    omega
end Go.Proofs.YtcbfalfkdnfelaaDoor
/-
  THE LAW WalAgain, walked.
-/
namespace Go.Proofs.YtcbfalfkdnfelaaDoor
open Go.RowKit Go.IntWalk Nums

theorem crash_all (keep : Int) (n : Nat) : crashN keep n n = n := by
  obtain ⟨h1, h2, _⟩ := crash_le keep (Nat.le_refl n)
  omega
end Go.Proofs.YtcbfalfkdnfelaaDoor
/-
  THE LAW WalPlays, walked: the code around the switch.
-/
namespace Go.Proofs.YtcbfalfkdnfelaaDoor
open Go.RowKit Go.IntWalk Nums

structure OpW where
  kd : Int
  n : Int
  A : Option Addr
  c : Nat
  l : List UInt8
  B : Option Addr
  d : Nat
  m : List UInt8
def OpW.parts (o : OpW) : List Pt := [.one (.v (.int .i64 o.kd)), .one (.v (.int .i64 o.n)), .one (.v (.slice o.A o.l.length o.c)), .one (.v (.slice o.B o.m.length o.d))]
def eOw (o : OpW) : SQ := .p o.parts
theorem eOw_ok (o : OpW) : OkP (eOw o).parts1 ∧ (eOw o).cl.length = 4 := ⟨fun q hq => by
  simp only [eOw, OpW.parts, SQ.parts1, List.mem_cons, List.not_mem_nil, or_false] at hq
  rcases hq with rfl | rfl | rfl | rfl <;> exact ⟨trivial, rfl, rfl⟩, rfl⟩
/-- What is known of the script. -/
def ScrW (S : Option Addr) (d : Nat) (ops : List OpW) (w : World) : Prop := Rd 4 eOw S d ops w ∧ ∀ o ∈ ops, Rd 1 eB o.A o.c o.l w ∧ Rd 1 eB o.B o.d o.m w
theorem rd_bag {ss : List Seg} {L : List LV} {R : List Res} {F M : World → Prop} (i : Nat) (hi : R[i]? = some (BagR ss)) : ∀ G S w, View G S L R F M w → ∀ s ∈ ss, s.rd w := fun G S w hv s hs => by
  obtain ⟨S1, _, h, _⟩ := hv.res.at hi
  obtain ⟨j, hj⟩ := List.getElem?_of_mem hs
  obtain ⟨S2, _, h2, _⟩ := starL.at (R := ss.map segR) (i := j) (r := segR s) h (by rw [List.getElem?_map, hj]; rfl)
  exact OwnS.rd h2
/-- A state of the law. -/
structure PlS where
  i : Nat
  dA : Option Addr
  dc : Nat
  h : Nat
  P : Option Addr
  pc : Nat
  ss : List Seg
  dn : Bool
  RA : Option Addr
  rc : Nat
  rs : List Seg
  bA : Option Addr
  bc : Nat
noncomputable def PlS.by (s : PlS) : List UInt8 := logD 0 (s.ss.map Seg.l)
/-- What is owned. -/
noncomputable def PlS.R (s : PlS) (g n : Nat) : List Res := [DkO g (n : Int) s.dA s.dc s.by (s.by.length : Int), DkB s.dA s.dc s.by, LgO s.h g s.P s.ss.length s.pc s.dn, SgO s.P s.pc s.ss, SgO s.RA s.rc s.rs, DkB s.bA s.bc s.by]
noncomputable def PlS.E (s : PlS) (g n m : Nat) (S : Option Addr) (d : Nat) : SE := [(54, .v (.int .i64 (s.i : Int))), (53, .v (.int .i64 (m : Int))), (52, .v (.slice S m d)), (5, .v (.int .i64 (n : Int))), (6, .v (pD g)), (8, .v (pD s.h)), (10, .v (.slice s.RA s.rs.length s.rc)), (11, .v (.slice s.bA s.by.length s.bc)), (12, .v (.bool s.dn))]
def PlS.F (s : PlS) (S : Option Addr) (d : Nat) (ops : List OpW) (w : World) : Prop := Tsh w ∧ ScrW S d ops w ∧ (∀ y ∈ s.ss, y.rd w) ∧ ∀ y ∈ s.rs, y.rd w
structure PlS.Ok (s : PlS) (n : Nat) : Prop where
  rows : s.rs.map Seg.l = s.ss.map Seg.l
  len : s.by.length ≤ n
  small : ∀ y ∈ s.ss, y.l.length ≤ 1048576
theorem PlS.Ok.count {s : PlS} {n : Nat} (h : s.Ok n) : s.ss.length ≤ n ∧ s.rs.length = s.ss.length := by
  have h1 := logD_ge 0 (s.ss.map Seg.l)
  have h2 := h.len
  have h3 := congrArg List.length h.rows
  unfold PlS.by at h2
  rw [List.length_map] at h1
  rw [List.length_map, List.length_map] at h3
  omega
/-- One of them. -/
theorem k_bag1 {b : Base} {N : Nat} {E : SE} {L : List LV} {R : List Res} {F M : World → Prop} {K : Act → World → Prop} {x : Seg} {t : List Seg} (h : kS b K N ⟨E, L, segR x :: BagR t :: R, F, M⟩) : kS b K N ⟨E, L, BagR (x :: t) :: R, F, M⟩ :=
  k_bagO (k_permR (t.map segR ++ (segR x :: R)) List.perm_middle.symm (k_bagC (k_permR (segR x :: BagR t :: R) (List.Perm.swap _ _ _) h)))
set_option maxRecDepth 100000 in
set_option maxHeartbeats 1000000 in
theorem plays15_S {S : Option Addr} {d : Nat} (size : Int) (ops : List OpW) (hops : ∀ o ∈ ops, o.l.length ≤ 1048576 ∧ o.m.length ≤ 1048576) :
    Spec 3 [.int .i64 size, .slice S ops.length d] [] (fun w => Tsh w ∧ ScrW S d ops w) (one (.v (.bool true))) := by
  refine spec_S [.c (.v (.int .i64 size)), .c (.v (.slice S ops.length d))] 251 Tryd.func3 rfl (by rw [Tryd.ntmps3]; rfl) (two_ok trivial trivial) fun b => ?_
  refine s_pure (ops.length ≤ d ∧ d ≤ 9223372036854775807) (fun w hw _ => ⟨hw.2.1.1, hw.2.1.2.1⟩) fun ⟨hpc, hcm⟩ => ?_
  refine s_auto TY_ok rfl ?_
  refine s_seq fun K hK => ?_
  refine s_regA TY_ok rfl fun K1 hK1 => ?_
  refine l_call0 [] rfl rfl rfl own_first15 rfl rfl (fun _ _ => rfl) first15_S (fun _ h _ => h.1) fun _ => ?_
  refine l_R [] rfl ?_
  refine l_autoS TY_ok rfl ?_
  refine s_end (hK1 _ ?_)
  refine s_no rfl ?_
  refine s_skip (hK _ ?_)
  obtain ⟨n, hn, _, en⟩ := wrapU_mod size 2000 (by decide) (by decide)
  refine s_regA TY_ok rfl fun K2 hK2 => ?_
  refine l_num 5 (n : Int) rfl en ?_
  refine s_end (hK2 _ ?_)
  refine s_regA TY_ok rfl fun K3 hK3 => ?_
  refine l_call0 [.int .i64 (n : Int)] rfl rfl rfl own_dnew rfl rfl (fun _ _ => rfl) (dnew_S n (by omega)) (fun _ _ _ => trivial) fun g => ?_
  refine l_R [DkO g n none 0 [] 0, DkB none 0 []] rfl ?_
  refine l_autoS TY_ok rfl ?_
  refine s_end (hK3 _ ?_)
  refine s_regA TY_ok rfl fun K4 hK4 => ?_
  have ho := wopen_S g n none 0 [] 0 (by decide)
  rw [saysD_nil] at ho
  refine l_callA (own := [DkO g n none 0 [] 0, DkB none 0 []]) (R' := []) [pD g] rfl rfl rfl own_wopen rfl rfl (fun _ _ => rfl) ho (fun _ h _ => h.2.2.1) fun ⟨h, P, pc, ss, hs⟩ => ?_
  obtain rfl : ss = [] := List.map_eq_nil_iff.1 hs
  refine l_R [DkO g n none 0 [] 0, DkB none 0 [], LgO h g P 0 pc false, SgO P pc []] rfl ?_
  refine l_autoS TY_ok rfl ?_
  refine s_end (hK4 _ ?_)
  refine s_seq fun K5 hK5 => ?_
  refine s_regA TY_ok rfl fun K6 hK6 => ?_
  refine l_is 51 false rfl rfl ?_
  refine s_end (hK6 _ ?_)
  refine s_no rfl ?_
  refine s_skip (hK5 _ ?_)
  refine s_auto TY_ok rfl ?_
  refine s_auto TY_ok rfl ?_
  refine s_auto TY_ok rfl ?_
  refine s_nil0 0 5 1 eB (s_nil0 0 33 1 eSeg ?_)
  refine s_seq fun K9 hK9 => ?_
  have fin : kS b K9 251 ⟨[], [], [], fun _ => True, fun _ => True⟩ := by
    refine hK9 _ ?_
    refine s_auto TY_ok rfl ?_
    refine s_regA TY_ok rfl fun Ka hKa => ?_
    refine l_call0 [.pointer none] rfl rfl rfl own_wopen rfl rfl (fun _ _ => rfl) wopen_no (fun _ _ _ => trivial) fun _ => ?_
    refine l_R [] rfl ?_
    refine l_autoS TY_ok rfl ?_
    refine s_end (hKa _ ?_)
    refine s_regA TY_ok rfl fun Kb hKb => ?_
    refine l_is 231 true rfl rfl (l_autoS TY_ok rfl ?_)
    refine l_call0 [.pointer none, .slice none 0 0] rfl rfl rfl own_wwrite rfl rfl (fun _ _ => rfl) (wwrite_no none 0 0) (fun _ _ _ => trivial) fun _ => ?_
    refine l_R [] rfl ?_
    refine l_autoS TY_ok rfl ?_
    refine l_is 236 true rfl rfl (l_autoS TY_ok rfl ?_)
    refine l_call0 [.pointer none] rfl rfl rfl own_wrows rfl rfl (fun _ _ => rfl) wrows_no (fun _ _ _ => trivial) fun _ => ?_
    refine l_R [] rfl ?_
    refine l_autoS TY_ok rfl ?_
    refine l_is 242 true rfl rfl (l_autoS TY_ok rfl ?_)
    refine l_call0 [.pointer none] rfl rfl rfl own_wlen rfl rfl (fun _ _ => rfl) wlen_no (fun _ _ _ => trivial) fun _ => ?_
    refine l_R [] rfl ?_
    refine l_autoS TY_ok rfl ?_
    refine l_is 247 true rfl rfl (l_autoS TY_ok rfl ?_)
    refine l_call0 [.pointer none] rfl rfl rfl own_wdown rfl rfl (fun _ _ => rfl) wdown_no (fun _ _ _ => trivial) fun _ => ?_
    refine l_R [] rfl ?_
    refine l_autoS TY_ok rfl ?_
    refine s_end (hKb _ ?_)
    exact s_ret (k_ret TY_ok () rfl (by decide) rfl rfl rfl (fun _ _ _ => trivial) (fun _ _ => trivial))
  refine s_auto TY_ok rfl ?_
  refine s_block ?_
  let V : PlS → Env := fun s => ⟨s.E g n ops.length S d, [], s.R g n, s.F S d ops, fun _ => True⟩
  let s0 : PlS := ⟨0, none, 0, h, P, pc, [], false, none, 0, [], none, 0⟩
  refine c_weak (e' := V s0) ⟨⟨rfl, rfl, rfl, rfl, rfl, rfl, rfl, rfl, rfl, trivial⟩, trivial, List.perm_append_comm (l₁ := [SgO none 0 [], DkB none 0 []]) (l₂ := [DkO g n none 0 [] 0, DkB none 0 [], LgO h g P 0 pc false, SgO P pc []]), fun w h _ => ⟨h.2.2.2.1, h.2.2.2.2, fun _ h => (by cases h), fun _ h => (by cases h)⟩, fun _ _ => trivial⟩ (s_loop (fun s => ops.length - s.i) V (fun s => s.i ≤ ops.length ∧ s.Ok n) ?_ s0 ⟨Nat.zero_le _, rfl, Nat.zero_le _, fun _ h => (by cases h)⟩)
  clear ho
  rintro ⟨i, dA, dc, h, P, pc, ss, dn, RA, rc, rs, bA, bc⟩ ⟨hi, hok⟩
  obtain ⟨hk1, hk2⟩ := hok.count
  have hrw := hok.rows
  have hln := hok.len
  have hsm := hok.small
  dsimp only at hi hk1 hk2 hrw hsm
  refine s_auto TY_ok rfl ?_
  refine s_seq fun Ka hKa => ?_
  refine s_ifD ((i : Int) < (ops.length : Int)) rfl (fun hlt => ?_) (fun hge => ?_)
  · have hlt : i < ops.length := by omega
    obtain ⟨o, ho⟩ : ∃ o, ops[i]? = some o := ⟨_, List.getElem?_eq_getElem hlt⟩
    have hom := List.mem_of_getElem? ho
    obtain ⟨hol, hom2⟩ := hops o hom
    refine s_skip (hKa _ ?_)
    refine s_seq fun Kb hKb => ?_
    refine s_block ?_
    refine s_regA TY_ok rfl fun Kc hKc => ?_
    refine l_elem (fe := eOw) TY_ok rfl rfl rfl i rfl ho rfl rfl (rd_fact fun w h _ => h.2.1.1) ?_
    refine l_autoS TY_ok rfl ?_
    refine s_end (hKc _ ?_)
    refine s_seq fun Kd hKd => ?_
    refine s_auto TY_ok rfl ?_
    refine s_ifD ((i : Int) ≥ 30) rfl (fun _ => ?_) (fun _ => ?_)
    · refine s_exit (k_pass (k_passB rfl (k_pass (k_pass (k_out ?_)))))
      refine k_drop 0 rfl (k_drop 0 rfl (k_drop 0 rfl (k_drop 0 rfl (k_drop 0 rfl (k_drop 0 rfl ?_)))))
      refine k_weak ?_ fin
      exact ⟨trivial, trivial, .refl _, fun _ _ _ => trivial, fun _ _ => trivial⟩
    refine s_skip (hKd _ ?_)
    refine s_seq fun Kt hKt => ?_
    have tail : ∀ (s : PlS), i = s.i → s.Ok n → kS b Kt 251 ⟨s.E g n ops.length S d, [], s.R g n, s.F S d ops, fun _ => True⟩ := by
      clear hok hk1 hk2 hrw hln hsm
      rintro ⟨j, dA, dc, h, P, pc, ss, dn, RA, rc, rs, bA, bc⟩ hii hok
      dsimp only at hii
      subst hii
      obtain ⟨hk1, hk2⟩ := hok.count
      have hrw := hok.rows
      have hln := hok.len
      have hsm := hok.small
      dsimp only at hk1 hk2 hrw hsm
      obtain ⟨Bb, hBb⟩ : ∃ Bb, logD 0 (ss.map Seg.l) = Bb := ⟨_, rfl⟩
      have hBl : Bb.length ≤ n := by rw [← hBb]; exact hln
      refine hKt _ ?_
      refine c_weak (e' := ⟨[(54, .v (.int .i64 (i : Int))), (53, .v (.int .i64 (ops.length : Int))), (52, .v (.slice S ops.length d)), (5, .v (.int .i64 (n : Int))), (6, .v (pD g)), (8, .v (pD h)), (10, .v (.slice RA rs.length rc)), (11, .v (.slice bA Bb.length bc)), (12, .v (.bool dn))], [], [LgO h g P ss.length pc dn, SgO P pc ss, SgO RA rc rs, DkB bA bc Bb, DkO g n dA dc Bb (Bb.length : Int), DkB dA dc Bb], fun w => Tsh w ∧ ScrW S d ops w ∧ (∀ y ∈ ss, y.rd w) ∧ ∀ y ∈ rs, y.rd w, fun _ => True⟩) ⟨⟨rfl, rfl, rfl, rfl, rfl, rfl, rfl, congrArg (fun z : List UInt8 => some (SV.v (.slice bA z.length bc))) hBb, rfl, trivial⟩, trivial, by rw [← hBb]; exact List.perm_append_comm (l₁ := [DkO g n dA dc _ _, DkB dA dc _]), fun _ h _ => h, fun _ h => h⟩ ?_
      refine s_regA TY_ok rfl fun Ke hKe => ?_
      refine l_callA (own := [LgO h g P ss.length pc dn, SgO P pc ss]) (R' := [SgO RA rc rs, DkB bA bc Bb, DkO g n dA dc Bb (Bb.length : Int), DkB dA dc Bb]) [pD h] rfl rfl rfl own_wrows rfl rfl (fun _ _ => rfl) (wrows_S h g P pc ss dn (by omega) hsm) (fun w hF _ => hF.2.2.1) fun ⟨rA, rrc, r, hr⟩ => ?_
      refine l_R [SgO rA rrc r, BagR r, LgO h g P ss.length pc dn, SgO P pc ss, SgO RA rc rs, DkB bA bc Bb, DkO g n dA dc Bb (Bb.length : Int), DkB dA dc Bb] rfl ?_
      refine l_autoS TY_ok rfl ?_
      refine s_end (hKe _ ?_)
      have hrl : r.length = ss.length := by have := congrArg List.length hr; rwa [List.length_map, List.length_map] at this
      refine s_seq fun Ke hKe => ?_
      refine s_seq fun Kf hKf => ?_
      have hI : ∀ {E : SE} {F M : World → Prop} {Y : List Res}, ∀ a w, St b 251 ⟨E, [], SgO rA rrc r :: BagR r :: LgO h g P ss.length pc dn :: SgO P pc ss :: SgO RA rc rs :: DkB bA bc Bb :: Y, F, M⟩ a w → Rd 1 eB bA bc Bb w := fun a w ⟨G, S, hst⟩ => rd_own 5 rfl G S w hst.st.view
      refine s_anyP [0, 1, 5, 7, 8, 12, 14, 18, 21, 22, 26, 28] 30 2 (Rd 1 eB bA bc Bb) (by kernel_rfl) rfl hI ?_
      refine p_frontF TY_ok 0 (by kernel_rfl) rfl rfl rfl rfl rfl rfl ?_
      refine p_frontF TY_ok 1 (by kernel_rfl) rfl rfl rfl rfl rfl rfl ?_
      refine p_step 2 (by kernel_rfl) rfl fun Kg hKg => ?_
      refine l_autoS TY_ok rfl ?_
      refine l_callC (own := []) (fun _ => [.slice rA r.length rrc, .slice RA rs.length rc]) rfl rfl rfl own_rfsame15 rfl rfl (fun _ _ => rfl) (fun _ w => Rd 1 eSeg rA rrc r w ∧ Rd 1 eSeg RA rc rs w ∧ (∀ s ∈ r, s.rd w) ∧ ∀ s ∈ rs, s.rd w) (fun _ => rfsame15_S r rs) (fun G S w hv => ⟨rd_own 0 rfl G S w hv, rd_own 4 rfl G S w hv, rd_bag 1 rfl G S w hv, hv.fact.2.2.2.2⟩) fun _ => ?_
      refine l_R [SgO rA rrc r, BagR r, LgO h g P ss.length pc dn, SgO P pc ss, SgO RA rc rs, DkB bA bc Bb, DkO g n dA dc Bb (Bb.length : Int), DkB dA dc Bb] rfl ?_
      refine l_is 175 true rfl (decide_eq_true (by rw [hr, hrw])) ?_
      refine s_end (hKg _ hI ?_)
      refine p_step 3 (by kernel_rfl) rfl fun Kg hKg => ?_
      refine l_autoS TY_ok rfl ?_
      refine s_end (hKg _ hI ?_)
      refine p_step 4 (by kernel_rfl) rfl fun Kg hKg => ?_
      refine l_autoS TY_ok rfl ?_
      refine s_end (hKg _ hI ?_)
      refine p_frontF TY_ok 5 (by kernel_rfl) rfl rfl rfl rfl rfl rfl ?_
      refine p_frontF TY_ok 7 (by kernel_rfl) rfl rfl rfl rfl rfl rfl ?_
      refine p_frontF TY_ok 8 (by kernel_rfl) rfl rfl rfl rfl rfl rfl ?_
      refine p_step 6 (by kernel_rfl) rfl fun Kg hKg => ?_
      refine l_autoS TY_ok rfl ?_
      refine l_callC (own := []) (fun _ => [pD h]) rfl rfl rfl own_wlen rfl rfl (fun _ _ => rfl) (fun _ => ObjF h 53 (lgP g P ss.length pc dn)) (fun _ => wlen_T h g P ss.length pc dn) (fun G S w hv => obj_own 2 rfl G S w hv) fun _ => ?_
      refine l_R [SgO rA rrc r, BagR r, LgO h g P ss.length pc dn, SgO P pc ss, SgO RA rc rs, DkB bA bc Bb, DkO g n dA dc Bb (Bb.length : Int), DkB dA dc Bb] rfl ?_
      refine s_end (hKg _ hI ?_)
      refine p_step 9 (by kernel_rfl) rfl fun Kg hKg => ?_
      refine l_autoS TY_ok rfl (l_is 182 false rfl (decide_eq_false (by omega)) ?_)
      refine s_end (hKg _ hI ?_)
      refine p_step 10 (by kernel_rfl) rfl fun Kg hKg => ?_
      refine l_autoS TY_ok rfl ?_
      refine s_end (hKg _ hI ?_)
      refine p_step 11 (by kernel_rfl) rfl fun Kg hKg => ?_
      refine l_autoS TY_ok rfl ?_
      refine s_end (hKg _ hI ?_)
      refine p_frontF TY_ok 12 (by kernel_rfl) rfl rfl rfl rfl rfl rfl ?_
      refine p_frontF TY_ok 14 (by kernel_rfl) rfl rfl rfl rfl rfl rfl ?_
      refine p_step 13 (by kernel_rfl) rfl fun Kg hKg => ?_
      refine l_autoS TY_ok rfl ?_
      refine l_callC (own := []) (fun _ => [pD h]) rfl rfl rfl own_wdown rfl rfl (fun _ _ => rfl) (fun _ => ObjF h 53 (lgP g P ss.length pc dn)) (fun _ => wdown_T h g P ss.length pc dn) (fun G S w hv => obj_own 2 rfl G S w hv) fun _ => ?_
      refine l_R [SgO rA rrc r, BagR r, LgO h g P ss.length pc dn, SgO P pc ss, SgO RA rc rs, DkB bA bc Bb, DkO g n dA dc Bb (Bb.length : Int), DkB dA dc Bb] rfl ?_
      refine s_end (hKg _ hI ?_)
      refine p_step 15 (by kernel_rfl) rfl fun Kg hKg => ?_
      refine l_autoS TY_ok rfl ?_
      refine l_op (.b (!(dn == dn))) trivial rfl rfl rfl (run_neqBoolW rfl rfl rfl (fun _ => rfl) (fun _ => rfl)) ?_
      refine l_is 188 false rfl (by cases dn <;> rfl) ?_
      refine s_end (hKg _ hI ?_)
      refine p_step 16 (by kernel_rfl) rfl fun Kg hKg => ?_
      refine l_autoS TY_ok rfl ?_
      refine s_end (hKg _ hI ?_)
      refine p_step 17 (by kernel_rfl) rfl fun Kg hKg => ?_
      refine l_autoS TY_ok rfl ?_
      refine s_end (hKg _ hI ?_)
      refine p_frontF TY_ok 18 (by kernel_rfl) rfl rfl rfl rfl rfl rfl ?_
      refine p_frontF TY_ok 21 (by kernel_rfl) rfl rfl rfl rfl rfl rfl ?_
      refine p_frontZ (vS Bb) trivial 22 (by kernel_rfl) rfl rfl rfl rfl rfl (fun G a w ha hw => run_strB rfl rfl ha hw) ?_
      refine p_step 19 (by kernel_rfl) rfl fun Kg hKg => ?_
      refine l_autoS TY_ok rfl ?_
      refine l_permR [DkO g n dA dc Bb (Bb.length : Int), DkB dA dc Bb, SgO rA rrc r, BagR r, LgO h g P ss.length pc dn, SgO P pc ss, SgO RA rc rs, DkB bA bc Bb] (List.perm_append_comm (l₁ := [SgO rA rrc r, BagR r, LgO h g P ss.length pc dn, SgO P pc ss, SgO RA rc rs, DkB bA bc Bb])) ?_
      refine l_callA (own := [DkO g n dA dc Bb (Bb.length : Int), DkB dA dc Bb]) (R' := [SgO rA rrc r, BagR r, LgO h g P ss.length pc dn, SgO P pc ss, SgO RA rc rs, DkB bA bc Bb]) [pD g] rfl rfl rfl own_dbytes rfl rfl (fun _ _ => rfl) (dbytes_S g n dA dc Bb (Bb.length : Int) (by omega)) (fun _ _ _ => trivial) fun ⟨A5, c5⟩ => ?_
      refine l_R [DkB A5 c5 Bb, DkO g n dA dc Bb (Bb.length : Int), DkB dA dc Bb, SgO rA rrc r, BagR r, LgO h g P ss.length pc dn, SgO P pc ss, SgO RA rc rs, DkB bA bc Bb] rfl ?_
      refine l_free 0 rfl ?_
      refine l_permR [SgO rA rrc r, BagR r, LgO h g P ss.length pc dn, SgO P pc ss, SgO RA rc rs, DkB bA bc Bb, DkO g n dA dc Bb (Bb.length : Int), DkB dA dc Bb] (List.perm_append_comm (l₁ := [DkO g n dA dc Bb (Bb.length : Int), DkB dA dc Bb])) ?_
      refine s_end (hKg _ hI ?_)
      refine p_step 20 (by kernel_rfl) rfl fun Kg hKg => ?_
      refine l_autoS TY_ok rfl ?_
      refine l_strB Bb rfl rfl rfl rfl rfl (rd_fact fun w h _ => h.1) ?_
      refine s_end (hKg _ hI ?_)
      refine p_step 23 (by kernel_rfl) rfl fun Kg hKg => ?_
      refine l_autoS TY_ok rfl ?_
      refine l_op (.b (!decide (Bb = Bb))) trivial rfl rfl rfl (run_neqS rfl rfl rfl) ?_
      refine l_is 196 false rfl (by simp) ?_
      refine s_end (hKg _ hI ?_)
      refine p_step 24 (by kernel_rfl) rfl fun Kg hKg => ?_
      refine l_autoS TY_ok rfl ?_
      refine s_end (hKg _ hI ?_)
      refine p_step 25 (by kernel_rfl) rfl fun Kg hKg => ?_
      refine l_autoS TY_ok rfl ?_
      refine s_end (hKg _ hI ?_)
      refine p_frontF TY_ok 26 (by kernel_rfl) rfl rfl rfl rfl rfl rfl ?_
      refine p_frontF TY_ok 28 (by kernel_rfl) rfl rfl rfl rfl rfl rfl ?_
      refine p_step 27 (by kernel_rfl) rfl fun Kg hKg => ?_
      refine l_autoS TY_ok rfl ?_
      refine l_callC (own := []) (fun _ => [pD g]) rfl rfl rfl own_dsafe rfl rfl (fun _ _ => rfl) (fun _ => ObjF g 51 (dkP n dA dc Bb (Bb.length : Int))) (fun _ => dsafe_T g n dA dc Bb (Bb.length : Int)) (fun G S w hv => obj_own 6 rfl G S w hv) fun _ => ?_
      refine l_R [SgO rA rrc r, BagR r, LgO h g P ss.length pc dn, SgO P pc ss, SgO RA rc rs, DkB bA bc Bb, DkO g n dA dc Bb (Bb.length : Int), DkB dA dc Bb] rfl ?_
      refine s_end (hKg _ hI ?_)
      refine p_step 29 (by kernel_rfl) rfl fun Kg hKg => ?_
      refine l_autoS TY_ok rfl ?_
      refine l_callC (own := []) (fun _ => [pD g]) rfl rfl rfl own_dlen rfl rfl (fun _ _ => rfl) (fun _ => ObjF g 51 (dkP n dA dc Bb (Bb.length : Int))) (fun _ => dlen_T g n dA dc Bb (Bb.length : Int)) (fun G S w hv => obj_own 6 rfl G S w hv) fun _ => ?_
      refine l_R [SgO rA rrc r, BagR r, LgO h g P ss.length pc dn, SgO P pc ss, SgO RA rc rs, DkB bA bc Bb, DkO g n dA dc Bb (Bb.length : Int), DkB dA dc Bb] rfl ?_
      refine s_end (hKg _ hI ?_)
      refine p_tail [30, 31] (by kernel_rfl) rfl ?_
      refine l_autoS TY_ok rfl (l_is 204 false rfl (decide_eq_false (by simp)) ?_)
      refine s_end (hKf _ ?_)
      refine s_no rfl ?_
      refine s_skip (hKe _ ?_)
      refine s_auto TY_ok rfl ?_
      refine s_block ?_
      let W : Nat → Env := fun j => ⟨[(207, .v (.int .i64 (j : Int))), (206, .v (.int .i64 (r.length : Int))), (205, .v (.slice rA r.length rrc)), (54, .v (.int .i64 (i : Int))), (53, .v (.int .i64 (ops.length : Int))), (52, .v (.slice S ops.length d)), (5, .v (.int .i64 (n : Int))), (6, .v (pD g)), (8, .v (pD h)), (10, .v (.slice RA rs.length rc)), (11, .v (.slice bA Bb.length bc)), (12, .v (.bool dn))], [],
        [BagR (r.drop j), SgO rA rrc r, LgO h g P ss.length pc dn, SgO P pc ss, SgO RA rc rs, DkB bA bc Bb, DkO g n dA dc Bb (Bb.length : Int), DkB dA dc Bb], fun w => Tsh w ∧ ScrW S d ops w ∧ (∀ y ∈ ss, y.rd w) ∧ ∀ y ∈ rs, y.rd w, fun _ => True⟩
      refine c_weak (e' := W 0) ⟨⟨rfl, rfl, rfl, rfl, rfl, rfl, rfl, rfl, rfl, rfl, rfl, rfl, trivial⟩, trivial, List.Perm.swap _ _ _, fun _ h _ => h.2.2.2, fun _ _ => trivial⟩ (s_loop (fun j => r.length - j) W (fun j => j ≤ r.length) ?_ 0 (Nat.zero_le _))
      intro j hj
      refine s_auto TY_ok rfl ?_
      refine s_seq fun Kf hKf => ?_
      refine s_ifD ((j : Int) < (r.length : Int)) rfl (fun hltj => ?_) (fun hgej => ?_)
      · have hltj : j < r.length := by omega
        obtain ⟨x, hx⟩ : ∃ x, r[j]? = some x := ⟨_, List.getElem?_eq_getElem hltj⟩
        have hdj : r.drop j = x :: r.drop (j + 1) := by
          rw [List.drop_eq_getElem_cons hltj]
          rw [List.getElem?_eq_getElem hltj] at hx
          rw [Option.some.inj hx]
        have hxl : x.l.length ≤ 1048576 := by
          obtain ⟨y, h1, h2⟩ := List.mem_map.1 (show x.l ∈ ss.map Seg.l by rw [← hr]; exact List.mem_map.2 ⟨x, List.mem_of_getElem? hx, rfl⟩)
          rw [← h2]
          exact hsm y h1
        refine s_skip (hKf _ ?_)
        refine s_seq fun Kg hKg => ?_
        refine s_block ?_
        refine s_regA TY_ok rfl fun Kh hKh => ?_
        refine l_elem (fe := eSeg) TY_ok rfl rfl rfl j rfl hx rfl rfl (rd_own 1 rfl) ?_
        refine l_autoS TY_ok rfl ?_
        refine s_end (k_permR (BagR (x :: r.drop (j + 1)) :: [SgO rA rrc r, LgO h g P ss.length pc dn, SgO P pc ss, SgO RA rc rs, DkB bA bc Bb, DkO g n dA dc Bb (Bb.length : Int), DkB dA dc Bb]) (by rw [hdj]) (k_bag1 (hKh _ ?_)))
        refine s_auto TY_ok rfl ?_
        refine s_block ?_
        let W2 : Nat × List UInt8 → Env := fun z => ⟨[(213, .v (.int .i64 (z.1 : Int))), (212, .v (.int .i64 (x.l.length : Int))), (25, .v (.slice x.A x.l.length x.c)), (207, .v (.int .i64 (j : Int))), (206, .v (.int .i64 (r.length : Int))), (205, .v (.slice rA r.length rrc)), (54, .v (.int .i64 (i : Int))), (53, .v (.int .i64 (ops.length : Int))), (52, .v (.slice S ops.length d)), (5, .v (.int .i64 (n : Int))), (6, .v (pD g)), (8, .v (pD h)), (10, .v (.slice RA rs.length rc)), (11, .v (.slice bA Bb.length bc)), (12, .v (.bool dn))], [],
          [DkB x.A x.c z.2, BagR (r.drop (j + 1)), SgO rA rrc r, LgO h g P ss.length pc dn, SgO P pc ss, SgO RA rc rs, DkB bA bc Bb, DkO g n dA dc Bb (Bb.length : Int), DkB dA dc Bb], fun w => Tsh w ∧ ScrW S d ops w ∧ (∀ y ∈ ss, y.rd w) ∧ ∀ y ∈ rs, y.rd w, fun _ => True⟩
        refine c_weak (e' := W2 (0, x.l)) ⟨⟨rfl, rfl, rfl, rfl, rfl, rfl, rfl, rfl, rfl, rfl, rfl, rfl, rfl, rfl, rfl, trivial⟩, trivial, .refl _, fun _ h _ => h, fun _ _ => trivial⟩ (s_loop (fun z => x.l.length - z.1) W2 (fun z => z.1 ≤ x.l.length ∧ z.2.length = x.l.length) ?_ (0, x.l) ⟨Nat.zero_le _, rfl⟩)
        intro ⟨k, m⟩ ⟨hk, hm⟩
        dsimp only at hk hm
        refine s_auto TY_ok rfl ?_
        refine s_seq fun Ki hKi => ?_
        refine s_ifD ((k : Int) < (x.l.length : Int)) rfl (fun hltk => ?_) (fun hgek => ?_)
        · have hltk : k < x.l.length := by omega
          obtain ⟨y, hy⟩ : ∃ y, m[k]? = some y := ⟨_, List.getElem?_eq_getElem (by omega)⟩
          refine s_skip (hKi _ ?_)
          refine s_seq fun Kj hKj => ?_
          refine s_block ?_
          refine s_auto TY_ok rfl ?_
          refine s_lit ?_
          refine l_autoS TY_ok rfl ?_
          refine l_elem TY_ok rfl rfl rfl k rfl hy hm.symm rfl (rd_own 0 rfl) ?_
          obtain ⟨y2, hy2⟩ := xor_b255 y
          refine l_op (.v (.int .u8 (bits .xor .u8 (y.toNat : Int) 255))) trivial rfl rfl rfl (run_xor rfl rfl rfl) ?_
          refine l_eq 220 (.v (.int .u8 (y2.toNat : Int))) rfl (by rw [hy2]) ?_
          refine l_place TY_ok 0 y2 k rfl rfl rfl rfl rfl rfl hm.symm rfl (by show k < m.length; omega) (eB_ok _) ?_
          refine s_end (hKj _ ?_)
          refine s_autoE TY_ok rfl ?_
          exact k_next (k + 1, m.set k y2) ⟨hltk, by show (m.set k y2).length = _; rw [List.length_set]; exact hm⟩ (by show x.l.length - (k + 1) < x.l.length - k; omega) ⟨⟨congrArg (fun z => some (SV.v (Value.int .i64 z))) (wrapI (by omega) (by omega) (by omega)), rfl, rfl, rfl, rfl, rfl, rfl, rfl, rfl, rfl, rfl, rfl, rfl, rfl, rfl, trivial⟩, trivial, .refl _, fun _ h _ => h, fun _ h => h⟩
        · refine s_exit (k_pass (k_pass (k_out ?_)))
          refine k_drop 0 rfl (hKg _ ?_)
          refine s_autoE TY_ok rfl ?_
          exact k_next (j + 1) hltj (by omega) ⟨⟨congrArg (fun z => some (SV.v (Value.int .i64 z))) (wrapI (by omega) (by omega) (by omega)), rfl, rfl, rfl, rfl, rfl, rfl, rfl, rfl, rfl, rfl, rfl, trivial⟩, trivial, .refl _, fun _ h _ => h, fun _ h => h⟩
      · refine s_exit (k_pass (k_pass (k_out ?_)))
        refine k_drop 0 rfl (k_drop 0 rfl (hKb _ ?_))
        refine s_autoE TY_ok rfl ?_
        exact k_next (F := V) ⟨i + 1, dA, dc, h, P, pc, ss, dn, RA, rc, rs, bA, bc⟩ ⟨hlt, hok.rows, hok.len, hok.small⟩ (by show ops.length - (i + 1) < ops.length - i; omega) ⟨⟨congrArg (fun z => some (SV.v (Value.int .i64 z))) (wrapI (r := ((i + 1 : Nat) : Int)) (by omega) (by omega) (by omega)), rfl, rfl, rfl, rfl, rfl, rfl, congrArg (fun z : List UInt8 => some (SV.v (.slice bA z.length bc))) hBb.symm, rfl, trivial⟩, trivial, by
          show List.Perm _ [DkO g n dA dc (logD 0 (ss.map Seg.l)) ((logD 0 (ss.map Seg.l)).length : Int), DkB dA dc (logD 0 (ss.map Seg.l)), LgO h g P ss.length pc dn, SgO P pc ss, SgO RA rc rs, DkB bA bc (logD 0 (ss.map Seg.l))]
          rw [hBb]
          exact List.perm_append_comm (l₁ := [LgO h g P ss.length pc dn, SgO P pc ss, SgO RA rc rs, DkB bA bc Bb]), fun _ h _ => h, fun _ h => h⟩
    obtain ⟨k, hk4, ek⟩ := tmod_nat o.kd 4 (by decide)
    obtain ⟨Bb, hBb⟩ : ∃ Bb, logD 0 (ss.map Seg.l) = Bb := ⟨_, rfl⟩
    have hBl : Bb.length ≤ n := by rw [← hBb]; exact hln
    refine s_regA TY_ok rfl fun Ke hKe => ?_
    refine l_num 15 (k : Int) rfl ek ?_
    refine s_end (hKe _ ?_)
    refine s_auto TY_ok rfl ?_
    refine s_block ?_
    refine s_seq fun Kc hKc => ?_
    have hE11 : some (SV.v (.slice bA (logD 0 (ss.map Seg.l)).length bc)) = some (SV.v (.slice bA Bb.length bc)) := congrArg (fun z : List UInt8 => some (SV.v (.slice bA z.length bc))) hBb
    have hRR : List.Perm [DkO g n dA dc (logD 0 (ss.map Seg.l)) ((logD 0 (ss.map Seg.l)).length : Int), DkB dA dc (logD 0 (ss.map Seg.l)), LgO h g P ss.length pc dn, SgO P pc ss, SgO RA rc rs, DkB bA bc (logD 0 (ss.map Seg.l))] [DkO g n dA dc Bb (Bb.length : Int), DkB dA dc Bb, LgO h g P ss.length pc dn, SgO P pc ss, SgO RA rc rs, DkB bA bc Bb] := by rw [hBb]
    have c01 : (k = 0 ∨ k = 1) → kS b Kc 251 ⟨[(113, .v (.bool true)), (15, .v (.int .u64 (k : Int))), (14, .a 14 0), (54, .v (.int .i64 (i : Int))), (53, .v (.int .i64 (ops.length : Int))), (52, .v (.slice S ops.length d)), (5, .v (.int .i64 (n : Int))), (6, .v (pD g)), (8, .v (pD h)), (10, .v (.slice RA rs.length rc)), (11, .v (.slice bA Bb.length bc)), (12, .v (.bool dn))], [⟨14, none, 35, o.parts⟩], [DkO g n dA dc Bb (Bb.length : Int), DkB dA dc Bb, LgO h g P ss.length pc dn, SgO P pc ss, SgO RA rc rs, DkB bA bc Bb], fun w => Tsh w ∧ ScrW S d ops w ∧ (∀ y ∈ ss, y.rd w) ∧ ∀ y ∈ rs, y.rd w, fun _ => True⟩ := by
      intro hk01
      refine hKc _ ?_
      refine s_yes rfl ?_
      refine s_regA TY_ok rfl fun Ka hKa => ?_
      refine l_list TY_ok 0 [⟨o.A, o.c, o.l⟩] (fe := eSeg) rfl rfl rfl rfl rfl (fun _ => rfl) rfl (by decide) (by decide) (okF_seg _) (Nat.zero_le _) fun L1 => ?_
      refine l_autoS TY_ok rfl ?_
      refine s_end (hKa _ ?_)
      refine s_seq fun Kd hKd => ?_
      have tail3 : ∀ (lst : List Seg) (LA : Option Addr) (lc : Nat), lst.length ≤ 2 → (∀ y ∈ lst, y.l.length ≤ 1048576) → kS b Kd 251 ⟨[(16, .v (.slice LA lst.length lc)), (54, .v (.int .i64 (i : Int))), (53, .v (.int .i64 (ops.length : Int))), (52, .v (.slice S ops.length d)), (5, .v (.int .i64 (n : Int))), (6, .v (pD g)), (8, .v (pD h)), (10, .v (.slice RA rs.length rc)), (11, .v (.slice bA Bb.length bc)), (12, .v (.bool dn))], [],
          [SgO LA lc lst, DkO g n dA dc Bb (Bb.length : Int), DkB dA dc Bb, LgO h g P ss.length pc dn, SgO P pc ss, SgO RA rc rs, DkB bA bc Bb], fun w => (∀ y ∈ lst, y.rd w) ∧ Tsh w ∧ ScrW S d ops w ∧ (∀ y ∈ ss, y.rd w) ∧ ∀ y ∈ rs, y.rd w, fun _ => True⟩ := by
        intro lst LA lc hl2 hls
        refine hKd _ ?_
        refine s_nil0 0 5 1 eB ?_
        refine s_auto TY_ok rfl ?_
        refine s_auto TY_ok rfl ?_
        refine s_seq fun Ke hKe => ?_
        refine s_auto TY_ok rfl ?_
        refine s_block ?_
        have hgl : ∀ j, (logD ss.length ((lst.take j).map Seg.l)).length ≤ 2097184 := fun j => by
          have h1 := logD_le (m := 1048576) ss.length ((lst.take j).map Seg.l) fun x hx => by
            obtain ⟨y, h1, rfl⟩ := List.mem_map.1 hx
            exact hls y (List.mem_of_mem_take h1)
          rw [List.length_map, List.length_take] at h1
          omega
        let W : Nat × Option Addr × Nat → Env := fun z => ⟨[(128, .v (.int .i64 (z.1 : Int))), (127, .v (.int .i64 (lst.length : Int))), (126, .v (.slice LA lst.length lc)), (17, .v (.slice z.2.1 (logD ss.length ((lst.take z.1).map Seg.l)).length z.2.2)), (18, .v (.bool false)), (16, .v (.slice LA lst.length lc)), (54, .v (.int .i64 (i : Int))), (53, .v (.int .i64 (ops.length : Int))), (52, .v (.slice S ops.length d)), (5, .v (.int .i64 (n : Int))), (6, .v (pD g)), (8, .v (pD h)), (10, .v (.slice RA rs.length rc)), (11, .v (.slice bA Bb.length bc)), (12, .v (.bool dn))], [],
          [DkB z.2.1 z.2.2 (logD ss.length ((lst.take z.1).map Seg.l)), SgO LA lc lst, DkO g n dA dc Bb (Bb.length : Int), DkB dA dc Bb, LgO h g P ss.length pc dn, SgO P pc ss, SgO RA rc rs, DkB bA bc Bb], fun w => (∀ y ∈ lst, y.rd w) ∧ Tsh w ∧ ScrW S d ops w ∧ (∀ y ∈ ss, y.rd w) ∧ ∀ y ∈ rs, y.rd w, fun _ => True⟩
        refine c_weak (e' := W (0, none, 0)) ⟨⟨rfl, rfl, rfl, rfl, rfl, rfl, rfl, rfl, rfl, rfl, rfl, rfl, rfl, rfl, rfl, trivial⟩, trivial, .refl _, fun _ h _ => h, fun _ _ => trivial⟩ (s_loop (fun z => lst.length - z.1) W (fun z => z.1 ≤ lst.length) ?_ (0, none, 0) (Nat.zero_le _))
        rintro ⟨j, mA, mc⟩ hj
        dsimp only at hj
        refine s_auto TY_ok rfl ?_
        refine s_seq fun Kf hKf => ?_
        refine s_ifD ((j : Int) < (lst.length : Int)) rfl (fun hltj => ?_) (fun hgej => ?_)
        · have hltj : j < lst.length := by omega
          obtain ⟨x, hx⟩ : ∃ x, lst[j]? = some x := ⟨_, List.getElem?_eq_getElem hltj⟩
          have hxm := List.mem_of_getElem? hx
          have hxl := hls x hxm
          have hgj := hgl j
          have hlj : (lst.take j).length = j := by rw [List.length_take]; omega
          refine s_skip (hKf _ ?_)
          refine s_seq fun Kg hKg => ?_
          refine s_block ?_
          refine s_regA TY_ok rfl fun Kh hKh => ?_
          refine l_elem (fe := eSeg) TY_ok rfl rfl rfl j rfl hx rfl rfl (rd_own 1 rfl) ?_
          refine l_autoS TY_ok rfl ?_
          refine s_end (hKh _ ?_)
          refine s_regA TY_ok rfl fun Kh hKh => ?_
          refine l_num 137 ((ss.length + j : Nat) : Int) rfl (wrapI (by omega) (by omega) (by omega)) ?_
          refine l_call0 [.int .i64 ((ss.length + j : Nat) : Int), .slice x.A x.l.length x.c] rfl rfl rfl own_rfrow rfl rfl (fun _ _ => rfl) (rfrow_S (ss.length + j) x.l (by omega) (by omega)) (fun w h _ => h.1 x hxm) fun ⟨yA, yc⟩ => ?_
          have hrl := rowD_len (ss.length + j) x.l
          refine l_appY TY_ok 0 (rowD (ss.length + j) x.l) rfl rfl rfl rfl rfl rfl rfl rfl rfl (rd_fact fun w h _ => h.1) (by decide) (by show ((logD ss.length ((lst.take j).map Seg.l)).length + (rowD (ss.length + j) x.l).length) * 1 ≤ _; omega) (by show (logD ss.length ((lst.take j).map Seg.l)).length + (rowD (ss.length + j) x.l).length ≤ _; omega) (Nat.zero_le _) fun mA2 mc2 => ?_
          refine l_autoS TY_ok rfl ?_
          refine s_end (hKh _ ?_)
          have hnx : logD ss.length ((lst.take j).map Seg.l) ++ rowD (ss.length + j) x.l = logD ss.length ((lst.take (j + 1)).map Seg.l) := by
            rw [List.take_add_one, hx, List.map_append, logD_app, List.length_map, hlj]
            exact congrArg _ (logD_one _ _).symm
          refine s_lit ?_
          refine l_autoS TY_ok rfl ?_
          refine l_is 18 false rfl (decide_eq_false (by omega)) ?_
          refine s_end (hKg _ ?_)
          refine s_autoE TY_ok rfl ?_
          exact k_next (j + 1, mA2, mc2) hltj (by show lst.length - (j + 1) < lst.length - j; omega) ⟨⟨congrArg (fun z => some (SV.v (Value.int .i64 z))) (wrapI (r := ((j + 1 : Nat) : Int)) (by omega) (by omega) (by omega)), rfl, rfl, congrArg (fun z : List UInt8 => some (SV.v (.slice mA2 z.length mc2))) hnx, rfl, rfl, rfl, rfl, rfl, rfl, rfl, rfl, rfl, rfl, rfl, trivial⟩, trivial, by
            dsimp only [W]
            rw [← hnx]
            exact .refl _, fun _ h _ => h.2, fun _ _ => trivial⟩
        · obtain rfl : j = lst.length := by omega
          obtain ⟨LG, hLG⟩ : ∃ LG, logD ss.length (lst.map Seg.l) = LG := ⟨_, rfl⟩
          have hLG2 : logD ss.length ((lst.take lst.length).map Seg.l) = LG := by rw [List.take_length, hLG]
          have hLl := hgl lst.length
          rw [hLG2] at hLl
          refine s_exit (k_pass (k_pass (k_out ?_)))
          refine k_weak (e' := ⟨[(17, .v (.slice mA LG.length mc)), (18, .v (.bool false)), (16, .v (.slice LA lst.length lc)), (54, .v (.int .i64 (i : Int))), (53, .v (.int .i64 (ops.length : Int))), (52, .v (.slice S ops.length d)), (5, .v (.int .i64 (n : Int))), (6, .v (pD g)), (8, .v (pD h)), (10, .v (.slice RA rs.length rc)), (11, .v (.slice bA Bb.length bc)), (12, .v (.bool dn))], [],
            [DkO g n dA dc Bb (Bb.length : Int), DkB dA dc Bb, LgO h g P ss.length pc dn, SgO P pc ss, SgO RA rc rs, DkB bA bc Bb, DkB mA mc LG, SgO LA lc lst], fun w => (∀ y ∈ lst, y.rd w) ∧ Tsh w ∧ ScrW S d ops w ∧ (∀ y ∈ ss, y.rd w) ∧ ∀ y ∈ rs, y.rd w, fun _ => True⟩) ⟨⟨congrArg (fun z : List UInt8 => some (SV.v (.slice mA z.length mc))) hLG2, rfl, rfl, rfl, rfl, rfl, rfl, rfl, rfl, rfl, rfl, rfl, trivial⟩, trivial, by
            rw [← hLG2]
            exact List.perm_append_comm (l₁ := [DkB mA mc (logD ss.length ((lst.take lst.length).map Seg.l)), SgO LA lc lst]), fun _ h _ => h, fun _ h => h⟩ (hKe _ ?_)
          refine s_auto TY_ok rfl ?_
          refine s_seq fun Kf hKf => ?_
          refine s_block ?_
          cases dn with
          | true =>
            refine s_auto TY_ok rfl ?_
            refine s_yes rfl ?_
            refine s_lit ?_
            refine l_autoS TY_ok rfl ?_
            refine s_end (k_drop 7 rfl (k_drop 6 rfl (hKf _ ?_)))
            refine s_permR [LgO h g P ss.length pc true, DkO g n dA dc Bb (Bb.length : Int), DkB dA dc Bb, SgO P pc ss, SgO RA rc rs, DkB bA bc Bb] (List.perm_middle (a := LgO h g P ss.length pc true) (l₁ := [DkO g n dA dc Bb (Bb.length : Int), DkB dA dc Bb])) ?_
            refine s_regA TY_ok rfl fun Kg hKg => ?_
            refine l_callA (own := [LgO h g P ss.length pc true]) (R' := [DkO g n dA dc Bb (Bb.length : Int), DkB dA dc Bb, SgO P pc ss, SgO RA rc rs, DkB bA bc Bb]) [pD h, .slice LA lst.length lc] rfl rfl rfl own_wwrite rfl rfl (fun _ _ => rfl) (wwrite_down h g P ss.length pc LA lst.length lc) (fun _ _ _ => trivial) fun _ => ?_
            refine l_R [LgO h g P ss.length pc true, DkO g n dA dc Bb (Bb.length : Int), DkB dA dc Bb, SgO P pc ss, SgO RA rc rs, DkB bA bc Bb] rfl ?_
            refine l_autoS TY_ok rfl ?_
            refine s_end (hKg _ ?_)
            refine s_ifD ((150 : Int) ≠ 150) rfl (fun h => absurd rfl h) fun _ => ?_
            refine s_skip (k_weak ?_ (tail ⟨i, dA, dc, h, P, pc, ss, true, RA, rc, rs, bA, bc⟩ rfl ⟨hrw, hln, hsm⟩))
            refine ⟨⟨rfl, rfl, rfl, rfl, rfl, rfl, rfl, hE11.symm, rfl, trivial⟩, trivial, (List.perm_middle (a := LgO h g P ss.length pc true) (l₁ := [DkO g n dA dc Bb (Bb.length : Int), DkB dA dc Bb])).symm.trans hRR.symm, fun _ h _ => h.2.2, fun _ _ => trivial⟩
          | false =>
            refine s_auto TY_ok rfl ?_
            refine s_no rfl ?_
            refine s_auto TY_ok rfl ?_
            refine s_no rfl ?_
            refine s_regA TY_ok rfl fun Kg hKg => ?_
            have hww := fun fits hf => wwrite_S h g n dA dc Bb Bb.length P pc ss LA lc lst LG hLG fits hf (by omega) (by omega) (by omega) (by omega) hls (by omega)
            by_cases hfit : (Bb.length : Int) + LG.length ≤ n
            · refine l_is 158 false rfl (decide_eq_false (by rw [wrapI rfl (by omega) (by omega)]; omega)) ?_
              refine s_end (hKg _ ?_)
              refine s_no rfl ?_
              refine s_lit ?_
              refine l_autoS TY_ok rfl ?_
              refine l_appY TY_ok 4 lst rfl rfl rfl rfl rfl rfl rfl rfl rfl (rd_own 7 rfl) (by decide) (by show (rs.length + lst.length) * 24 ≤ _; omega) (by show rs.length + lst.length ≤ _; omega) (Nat.zero_le _) fun RA2 rc2 => ?_
              refine l_autoS TY_ok rfl ?_
              refine l_appY TY_ok 5 LG rfl rfl rfl rfl rfl rfl rfl rfl rfl (rd_own 6 rfl) (by decide) (by show (Bb.length + LG.length) * 1 ≤ _; omega) (by show Bb.length + LG.length ≤ _; omega) (Nat.zero_le _) fun bA2 bc2 => ?_
              refine l_autoS TY_ok rfl ?_
              refine l_R [DkO g n dA dc Bb (Bb.length : Int), DkB dA dc Bb, LgO h g P ss.length pc false, SgO P pc ss, SgO RA2 rc2 (rs ++ lst), DkB bA2 bc2 (Bb ++ LG), DkB mA mc LG, SgO LA lc lst] rfl ?_
              refine s_end (k_drop 6 rfl (hKf _ ?_))
              refine s_free 6 rfl ?_
              refine s_regA TY_ok rfl fun Ki hKi => ?_
              refine l_callA (own := [DkO g n dA dc Bb (Bb.length : Int), DkB dA dc Bb, LgO h g P ss.length pc false, SgO P pc ss]) (R' := [SgO RA2 rc2 (rs ++ lst), DkB bA2 bc2 (Bb ++ LG)]) [pD h, .slice LA lst.length lc] rfl rfl rfl own_wwrite rfl rfl (fun _ _ => rfl) (hww true (decide_eq_true hfit).symm) (fun w hF _ => ⟨hF.2.2.1, hF.1, hF.2.1⟩) fun ⟨dA2, dc2, P2, pc2, s2, hs2⟩ => ?_
              refine l_R [DkO g n dA2 dc2 (Bb ++ LG) ((Bb ++ LG).length : Int), DkB dA2 dc2 (Bb ++ LG), LgO h g P2 (ss ++ s2).length pc2 false, SgO P2 pc2 (ss ++ s2), SgO RA2 rc2 (rs ++ lst), DkB bA2 bc2 (Bb ++ LG)] rfl ?_
              refine l_autoS TY_ok rfl ?_
              refine s_end (hKi _ ?_)
              refine s_ifD ((0 : Int) ≠ 0) rfl (fun h => absurd rfl h) fun _ => ?_
              have hs2' : s2.map Seg.l = lst.map Seg.l := hs2
              have hby : logD 0 ((ss ++ s2).map Seg.l) = Bb ++ LG := by rw [List.map_append, logD_app, hBb, List.length_map, Nat.zero_add, hs2', hLG]
              refine s_skip (k_weak ?_ (tail ⟨i, dA2, dc2, h, P2, pc2, ss ++ s2, false, RA2, rc2, rs ++ lst, bA2, bc2⟩ rfl ⟨by show (rs ++ lst).map Seg.l = (ss ++ s2).map Seg.l; rw [List.map_append, List.map_append, hrw, hs2'], by show (logD 0 ((ss ++ s2).map Seg.l)).length ≤ n; rw [hby, List.length_append]; omega, fun y hy => ?_⟩))
              · refine ⟨⟨rfl, rfl, rfl, rfl, rfl, rfl, rfl, congrArg (fun z : List UInt8 => some (SV.v (.slice bA2 z.length bc2))) hby.symm, rfl, trivial⟩, trivial, ?_, fun w hF hM => ⟨hF.2.2.2.1, hF.2.2.2.2.1, fun y hy => ?_, fun y hy => ?_⟩, fun _ _ => trivial⟩
                · show List.Perm _ [DkO g n dA2 dc2 (logD 0 ((ss ++ s2).map Seg.l)) ((logD 0 ((ss ++ s2).map Seg.l)).length : Int), DkB dA2 dc2 (logD 0 ((ss ++ s2).map Seg.l)), LgO h g P2 (ss ++ s2).length pc2 false, SgO P2 pc2 (ss ++ s2), SgO RA2 rc2 (rs ++ lst), DkB bA2 bc2 (logD 0 ((ss ++ s2).map Seg.l))]
                  rw [hby]
                · rcases List.mem_append.1 hy with hy | hy
                  · exact hF.2.2.2.2.2.1 y hy
                  · exact hM.1 y hy
                · rcases List.mem_append.1 hy with hy | hy
                  · exact hF.2.2.2.2.2.2 y hy
                  · exact hF.2.2.1 y hy
              · rcases List.mem_append.1 hy with hy | hy
                · exact hsm y hy
                · obtain ⟨z, h1, h2⟩ := List.mem_map.1 (show y.l ∈ lst.map Seg.l by rw [← hs2']; exact List.mem_map.2 ⟨y, hy, rfl⟩)
                  rw [← h2]
                  exact hls z h1
            · refine l_is 158 true rfl (decide_eq_true (by rw [wrapI rfl (by omega) (by omega)]; omega)) ?_
              refine s_end (hKg _ ?_)
              refine s_yes rfl ?_
              refine s_lit ?_
              refine l_autoS TY_ok rfl ?_
              refine s_end (k_drop 6 rfl (hKf _ ?_))
              refine s_free 6 rfl ?_
              refine s_regA TY_ok rfl fun Ki hKi => ?_
              refine l_callA (own := [DkO g n dA dc Bb (Bb.length : Int), DkB dA dc Bb, LgO h g P ss.length pc false, SgO P pc ss]) (R' := [SgO RA rc rs, DkB bA bc Bb]) [pD h, .slice LA lst.length lc] rfl rfl rfl own_wwrite rfl rfl (fun _ _ => rfl) (hww false (decide_eq_false hfit).symm) (fun w hF _ => ⟨hF.2.2.1, hF.1, hF.2.1⟩) fun ⟨dA2, dc2, P2, pc2, s2, hs2⟩ => ?_
              obtain rfl : s2 = [] := List.map_eq_nil_iff.1 hs2
              refine l_R [DkO g n dA2 dc2 Bb (Bb.length : Int), DkB dA2 dc2 Bb, LgO h g P2 ss.length pc2 true, SgO P2 pc2 ss, SgO RA rc rs, DkB bA bc Bb] (by dsimp only [cond_false]; rw [List.append_nil]; rfl) ?_
              refine l_autoS TY_ok rfl ?_
              refine s_end (hKi _ ?_)
              refine s_ifD ((140 : Int) ≠ 140) rfl (fun h => absurd rfl h) fun _ => ?_
              refine s_skip (k_weak ?_ (tail ⟨i, dA2, dc2, h, P2, pc2, ss, true, RA, rc, rs, bA, bc⟩ rfl ⟨hrw, hln, hsm⟩))
              refine ⟨⟨rfl, rfl, rfl, rfl, rfl, rfl, rfl, hE11.symm, rfl, trivial⟩, trivial, ?_, fun w hF _ => hF.2.2.2, fun _ _ => trivial⟩
              show List.Perm _ [DkO g n dA2 dc2 (logD 0 (ss.map Seg.l)) ((logD 0 (ss.map Seg.l)).length : Int), DkB dA2 dc2 (logD 0 (ss.map Seg.l)), LgO h g P2 ss.length pc2 true, SgO P2 pc2 ss, SgO RA rc rs, DkB bA bc (logD 0 (ss.map Seg.l))]
              rw [hBb]
      refine s_auto TY_ok rfl ?_
      refine s_ifD ((k : Int) = 1) rfl (fun _ => ?_) (fun _ => ?_)
      · refine s_lit ?_
        refine l_autoS TY_ok rfl ?_
        refine l_push TY_ok 0 (⟨o.B, o.d, o.m⟩ : Seg) (fe := eSeg) rfl rfl rfl rfl rfl rfl rfl (eSeg_ok _) (by decide) (by decide) (by show (1 + 1) * 24 ≤ _; decide) (by show 1 < _; decide) (Nat.zero_le _) fun L2 l2 => ?_
        refine l_autoS TY_ok rfl ?_
        refine s_end (k_weak ?_ (tail3 [⟨o.A, o.c, o.l⟩, ⟨o.B, o.d, o.m⟩] L2 l2 (Nat.le_refl _) fun y hy => ?_))
        · refine ⟨⟨rfl, rfl, rfl, rfl, rfl, rfl, rfl, rfl, rfl, rfl, trivial⟩, trivial, .refl _, fun w hF _ => ⟨fun y hy => ?_, hF⟩, fun _ _ => trivial⟩
          rcases List.mem_cons.1 hy with rfl | hy
          · exact (hF.2.1.2 o hom).1
          · rw [List.mem_singleton.1 hy]
            exact (hF.2.1.2 o hom).2
        · rcases List.mem_cons.1 hy with rfl | hy
          · exact hol
          · rw [List.mem_singleton.1 hy]
            exact hom2
      · refine s_skip (k_weak ?_ (tail3 [⟨o.A, o.c, o.l⟩] L1 1 (Nat.le_of_ble_eq_true rfl) fun y hy => ?_))
        · refine ⟨⟨rfl, rfl, rfl, rfl, rfl, rfl, rfl, rfl, rfl, rfl, trivial⟩, trivial, .refl _, fun w hF _ => ⟨fun y hy => ?_, hF⟩, fun _ _ => trivial⟩
          rw [List.mem_singleton.1 hy]
          exact (hF.2.1.2 o hom).1
        · rw [List.mem_singleton.1 hy]
          exact hol
    have c23 : ¬ (k = 0 ∨ k = 1) → kS b Kc 251 ⟨[(113, .v (.bool false)), (15, .v (.int .u64 (k : Int))), (14, .a 14 0), (54, .v (.int .i64 (i : Int))), (53, .v (.int .i64 (ops.length : Int))), (52, .v (.slice S ops.length d)), (5, .v (.int .i64 (n : Int))), (6, .v (pD g)), (8, .v (pD h)), (10, .v (.slice RA rs.length rc)), (11, .v (.slice bA Bb.length bc)), (12, .v (.bool dn))], [⟨14, none, 35, o.parts⟩], [DkO g n dA dc Bb (Bb.length : Int), DkB dA dc Bb, LgO h g P ss.length pc dn, SgO P pc ss, SgO RA rc rs, DkB bA bc Bb], fun w => Tsh w ∧ ScrW S d ops w ∧ (∀ y ∈ ss, y.rd w) ∧ ∀ y ∈ rs, y.rd w, fun _ => True⟩ := by
      intro hk01
      refine hKc _ ?_
      refine s_no rfl ?_
      refine s_own 5 rfl fun _ hbc hbA => ?_
      refine s_seq fun Kf hKf => ?_
      have tail4 : ∀ (D : List UInt8) (s : Nat) (RA : Option Addr) (rc : Nat) (rs : List Seg) (bc : Nat) (B2 : List UInt8), saysD D = rs.map Seg.l → logD 0 (saysD D) = B2 → D.length ≤ n →
          kS b Kf 251 ⟨[(54, .v (.int .i64 (i : Int))), (53, .v (.int .i64 (ops.length : Int))), (52, .v (.slice S ops.length d)), (5, .v (.int .i64 (n : Int))), (6, .v (pD g)), (10, .v (.slice RA rs.length rc)), (11, .v (.slice bA B2.length bc))], [], [DkO g n dA dc D (s : Int), DkB dA dc D, LgO h g P ss.length pc dn, SgO P pc ss, SgO RA rc rs, DkB bA bc B2], fun w => Tsh w ∧ ScrW S d ops w ∧ ∀ y ∈ rs, y.rd w, fun _ => True⟩ := by
        intro D s RA rc rs bc B2 hD hB2 hDn
        refine hKf _ ?_
        refine s_auto TY_ok rfl ?_
        refine s_regA TY_ok rfl fun Ka hKa => ?_
        refine l_callA (own := [DkO g n dA dc D (s : Int), DkB dA dc D]) (R' := [LgO h g P ss.length pc dn, SgO P pc ss, SgO RA rc rs, DkB bA bc B2]) [pD g] rfl rfl rfl own_wopen rfl rfl (fun _ _ => rfl) (wopen_S g n dA dc D s (by omega)) (fun _ h _ => h.1) fun ⟨h2, P2, pc2, s2, hs2⟩ => ?_
        refine l_R [DkO g n dA dc B2 (B2.length : Int), DkB dA dc B2, LgO h2 g P2 s2.length pc2 false, SgO P2 pc2 s2, LgO h g P ss.length pc dn, SgO P pc ss, SgO RA rc rs, DkB bA bc B2] (by rw [← hB2]; rfl) ?_
        refine l_autoS TY_ok rfl ?_
        refine s_end (hKa _ ?_)
        refine s_regA TY_ok rfl fun Ka hKa => ?_
        refine l_is 112 false rfl rfl ?_
        refine s_end (hKa _ ?_)
        refine s_no rfl ?_
        have e2 := saysD_le D
        rw [hB2] at e2
        have hby : logD 0 (s2.map Seg.l) = B2 := by rw [hs2, hB2]
        refine s_skip (k_drop 4 rfl (k_drop 4 rfl (k_weak ?_ (tail ⟨i, dA, dc, h2, P2, pc2, s2, false, RA, rc, rs, bA, bc⟩ rfl ⟨by rw [hs2, hD], by show (logD 0 (s2.map Seg.l)).length ≤ n; rw [hby]; omega, fun y hy => saysD_small D y.l (by rw [← hs2]; exact List.mem_map.2 ⟨y, hy, rfl⟩)⟩))))
        refine ⟨⟨rfl, rfl, rfl, rfl, rfl, rfl, rfl, congrArg (fun z : List UInt8 => some (SV.v (.slice bA z.length bc))) hby.symm, rfl, trivial⟩, trivial, ?_, fun w h hM => ⟨h.2.1, h.2.2.1, hM.1, h.2.2.2⟩, fun _ _ => trivial⟩
        show List.Perm _ [DkO g n dA dc (logD 0 (s2.map Seg.l)) ((logD 0 (s2.map Seg.l)).length : Int), DkB dA dc (logD 0 (s2.map Seg.l)), LgO h2 g P2 s2.length pc2 false, SgO P2 pc2 s2, SgO RA rc rs, DkB bA bc (logD 0 (s2.map Seg.l))]
        rw [hby]
        exact .refl _
      have hLr : saysD Bb = rs.map Seg.l := by
        rw [hrw, ← hBb]
        exact saysD_log fun x hx => by
          obtain ⟨y, h1, rfl⟩ := List.mem_map.1 hx
          exact hsm y h1
      refine s_auto TY_ok rfl ?_
      refine s_ifD ((k : Int) = 2) rfl (fun _ => ?_) (fun _ => ?_)
      · refine s_lit ?_
        refine l_autoS TY_ok rfl ?_
        refine l_callA (own := [DkO g n dA dc Bb ((Bb.length : Nat) : Int), DkB dA dc Bb]) (R' := [LgO h g P ss.length pc dn, SgO P pc ss, SgO RA rc rs, DkB bA bc Bb]) [pD g, .int .i64 o.n] rfl rfl rfl own_dcrash rfl rfl (fun _ _ => rfl) (dcrash_S g n o.n dA dc Bb Bb.length (Nat.le_refl _) (by omega)) (fun _ _ _ => trivial) fun _ => ?_
        refine l_R [DkO g n dA dc Bb (Bb.length : Int), DkB dA dc Bb, LgO h g P ss.length pc dn, SgO P pc ss, SgO RA rc rs, DkB bA bc Bb] (by rw [crash_all, List.take_length]; rfl) ?_
        refine s_end (k_weak ?_ (tail4 Bb Bb.length RA rc rs bc Bb hLr (by rw [hLr, hrw, hBb]) hBl))
        exact ⟨⟨rfl, rfl, rfl, rfl, rfl, rfl, rfl, trivial⟩, trivial, .refl _, fun w h _ => ⟨h.2.1, h.2.2.1, h.2.2.2.2⟩, fun _ _ => trivial⟩
      · obtain ⟨q, hq, _, eq⟩ := wrapU_mod o.n 100 (by decide) (by decide)
        have eq : IntKind.i64.wrap ((IntKind.u64.wrap o.n).tmod 100) = (q : Int) := eq
        refine s_seq fun Kg hKg => ?_
        refine s_locs fun Gl => ?_
        refine s_anyP [0, 1, 3, 4, 5, 6, 7] 10 1 (InvL (withG Gl [⟨14, none, 35, o.parts⟩])) (by kernel_rfl) rfl (inv_of withG_is) ?_
        refine p_front TY_ok 0 (by kernel_rfl) rfl rfl rfl rfl rfl rfl (fun _ h => h) ?_
        refine p_front TY_ok 1 (by kernel_rfl) rfl rfl rfl rfl rfl rfl (fun _ h => h) ?_
        refine p_front TY_ok 3 (by kernel_rfl) rfl rfl rfl rfl rfl rfl (fun _ h => h) ?_
        refine p_front TY_ok 4 (by kernel_rfl) rfl rfl rfl rfl rfl rfl (fun _ h => h) ?_
        refine p_front TY_ok 5 (by kernel_rfl) rfl rfl rfl rfl rfl rfl (fun _ h => h) ?_
        refine p_front TY_ok 6 (by kernel_rfl) rfl rfl rfl rfl rfl rfl (fun _ h => h) ?_
        refine p_front TY_ok 7 (by kernel_rfl) rfl rfl rfl rfl rfl rfl (fun _ h => h) ?_
        refine p_step 2 (by kernel_rfl) rfl fun Ka hKa => ?_
        refine l_callA (own := [DkO g n dA dc Bb (Bb.length : Int)]) (R' := [DkB dA dc Bb, LgO h g P ss.length pc dn, SgO P pc ss, SgO RA rc rs, DkB bA bc Bb]) [pD g] rfl rfl rfl own_dlen rfl rfl (fun _ _ => rfl) (dlen_S g n dA dc Bb (Bb.length : Int)) (fun _ _ _ => trivial) fun _ => ?_
        refine l_R [DkO g n dA dc Bb (Bb.length : Int), DkB dA dc Bb, LgO h g P ss.length pc dn, SgO P pc ss, SgO RA rc rs, DkB bA bc Bb] rfl ?_
        refine s_end (hKa _ (inv_of withG_is) ?_)
        refine p_step 8 (by kernel_rfl) rfl fun Ka hKa => ?_
        refine l_num 79 (q : Int) rfl eq (l_autoS TY_ok rfl (l_num 80 ((Bb.length : Int) - q) rfl (wrapI rfl (by omega) (by omega)) ?_))
        refine s_end (hKa _ (inv_of withG_is) ?_)
        refine p_step 9 (by kernel_rfl) rfl fun Ka hKa => ?_
        refine l_op (.v (.int .i64 (max 0 ((Bb.length : Int) - q)))) trivial rfl rfl rfl (run_maxI rfl rfl rfl) ?_
        refine l_num 81 ((Bb.length - q : Nat) : Int) rfl (by omega) ?_
        refine s_end (hKa _ (inv_of withG_is) ?_)
        refine p_tail [10] (by kernel_rfl) rfl ?_
        refine l_callA (own := [DkO g n dA dc Bb (Bb.length : Int), DkB dA dc Bb]) (R' := [LgO h g P ss.length pc dn, SgO P pc ss, SgO RA rc rs, DkB bA bc Bb]) [pD g, .int .i64 ((Bb.length - q : Nat) : Int)] rfl rfl rfl own_dcut rfl rfl (fun _ _ => rfl) (dcut_S g n (Bb.length - q) dA dc Bb Bb.length (by omega)) (fun _ _ _ => trivial) fun _ => ?_
        obtain ⟨D, hD⟩ : ∃ D, Bb.take (Bb.length - q) = D := ⟨_, rfl⟩
        have hDl : D.length = Bb.length - q := by rw [← hD, List.length_take]; omega
        refine l_R [DkO g n dA dc D ((min Bb.length (Bb.length - q) : Nat) : Int), DkB dA dc D, LgO h g P ss.length pc dn, SgO P pc ss, SgO RA rc rs, DkB bA bc Bb] (by rw [← hD]; rfl) ?_
        refine s_end (hKg _ ?_)
        refine s_regA TY_ok rfl fun Ka hKa => ?_
        refine l_num 91 ((Bb.length : Int) - q) rfl (by rw [eq]; exact wrapI rfl (by omega) (by omega)) ?_
        refine l_op (.v (.int .i64 (max 0 ((Bb.length : Int) - q)))) trivial rfl rfl rfl (run_maxI rfl rfl rfl) ?_
        refine l_num 92 ((Bb.length - q : Nat) : Int) rfl (by omega) ?_
        refine l_op (.v (.slice bA D.length bc)) trivial rfl rfl rfl (by rw [hDl]; exact run_cutHi (e := 5) (sz := 1) (by kernel_rfl) (by omega) hbA rfl Tryd.underlying33 rfl rfl) ?_
        refine l_autoS TY_ok rfl ?_
        refine l_cutR 5 (Bb.length - q) rfl ?_
        refine l_R [DkO g n dA dc D ((min Bb.length (Bb.length - q) : Nat) : Int), DkB dA dc D, LgO h g P ss.length pc dn, SgO P pc ss, SgO RA rc rs, DkB bA bc D] (by rw [← hD]; rfl) ?_
        refine s_end (hKa _ ?_)
        refine s_auto TY_ok rfl ?_
        refine s_regA TY_ok rfl fun Ka hKa => ?_
        refine l_callC (own := []) (fun _ => [.slice bA D.length bc]) rfl rfl rfl own_rfsays rfl rfl (fun _ _ => rfl) (fun _ => Rd 1 eB bA bc D) (fun _ => rfsays_S D (by omega)) (fun G S w hv => rd_own 5 rfl G S w hv) fun ⟨P2, pc2, s2, hs2⟩ => ?_
        have e1 := saysD_take D
        have e2 := saysD_le D
        obtain ⟨B2, hB2⟩ : ∃ B2, logD 0 (saysD D) = B2 := ⟨_, rfl⟩
        rw [hB2] at e1 e2
        refine l_R [SgO P2 pc2 s2, DkO g n dA dc D ((min Bb.length (Bb.length - q) : Nat) : Int), DkB dA dc D, LgO h g P ss.length pc dn, SgO P pc ss, SgO RA rc rs, DkB bA bc D] rfl ?_
        refine l_eq 96 (.t [.c (.v (.slice P2 s2.length pc2)), .c (.v (.int .i64 (B2.length : Int)))]) rfl (congrArg (fun z : List UInt8 => SV.t [.c (.v (.slice P2 s2.length pc2)), .c (.v (.int .i64 (z.length : Int)))]) hB2) ?_
        refine l_autoS TY_ok rfl ?_
        refine s_end (hKa _ ?_)
        refine s_lit ?_
        refine l_autoS TY_ok rfl ?_
        refine l_op (.v (.slice bA B2.length bc)) trivial rfl rfl rfl (run_cutHi (e := 5) (sz := 1) (by kernel_rfl) (by omega) hbA rfl Tryd.underlying33 rfl rfl) ?_
        refine l_autoS TY_ok rfl ?_
        refine l_cutR 6 B2.length rfl ?_
        refine l_R [SgO P2 pc2 s2, DkO g n dA dc D ((min Bb.length (Bb.length - q) : Nat) : Int), DkB dA dc D, LgO h g P ss.length pc dn, SgO P pc ss, SgO RA rc rs, DkB bA bc B2] (congrArg (fun z : List UInt8 => ([SgO P2 pc2 s2, DkO g n dA dc D ((min Bb.length (Bb.length - q) : Nat) : Int), DkB dA dc D, LgO h g P ss.length pc dn, SgO P pc ss, SgO RA rc rs, DkB bA bc z] : List Res)) e1) ?_
        refine s_end (k_drop 5 rfl (k_weak ?_ (tail4 D (min Bb.length (Bb.length - q)) P2 pc2 s2 bc B2 hs2.symm hB2 (by omega))))
        refine ⟨⟨rfl, rfl, rfl, rfl, rfl, rfl, rfl, trivial⟩, trivial, ?_, fun w h hM => ⟨h.2.2.1, h.2.2.2.1, hM.1⟩, fun _ _ => trivial⟩
        exact (List.perm_middle (a := SgO P2 pc2 s2) (l₁ := [DkO g n dA dc D ((min Bb.length (Bb.length - q) : Nat) : Int), DkB dA dc D, LgO h g P ss.length pc dn, SgO P pc ss]) (l₂ := [DkB bA bc B2])).symm
    refine s_regA TY_ok rfl fun Kf hKf => ?_
    by_cases hk0 : k = 0
    · refine l_is 113 true rfl (decide_eq_true (by omega)) ?_
      refine s_end (hKf _ ?_)
      refine s_yes rfl ?_
      refine s_skip (k_weak ?_ (c01 (.inl hk0)))
      exact ⟨⟨rfl, rfl, rfl, rfl, rfl, rfl, rfl, rfl, rfl, rfl, hE11, rfl, trivial⟩, ⟨rfl, rfl, trivial⟩, hRR, fun _ h _ => h, fun _ h => h⟩
    · refine l_is 113 false rfl (decide_eq_false (by omega)) ?_
      refine s_end (hKf _ ?_)
      refine s_no rfl ?_
      refine s_lit ?_
      refine l_autoS TY_ok rfl ?_
      by_cases hk1 : k = 1
      · refine l_is 113 true rfl (decide_eq_true (by omega)) ?_
        refine s_end (k_weak ?_ (c01 (.inr hk1)))
        exact ⟨⟨rfl, rfl, rfl, rfl, rfl, rfl, rfl, rfl, rfl, rfl, hE11, rfl, trivial⟩, ⟨rfl, rfl, trivial⟩, hRR, fun _ h _ => h, fun _ h => h⟩
      · refine l_is 113 false rfl (decide_eq_false (by omega)) ?_
        refine s_end (k_weak ?_ (c23 (by omega)))
        exact ⟨⟨rfl, rfl, rfl, rfl, rfl, rfl, rfl, rfl, rfl, rfl, hE11, rfl, trivial⟩, ⟨rfl, rfl, trivial⟩, hRR, fun _ h _ => h, fun _ h => h⟩
  · refine s_exit (k_pass (k_pass (k_out ?_)))
    refine k_drop 0 rfl (k_drop 0 rfl (k_drop 0 rfl (k_drop 0 rfl (k_drop 0 rfl (k_drop 0 rfl ?_)))))
    refine k_weak ?_ fin
    exact ⟨trivial, trivial, .refl _, fun _ _ _ => trivial, fun _ _ => trivial⟩
end Go.Proofs.YtcbfalfkdnfelaaDoor
/-
  FROM A WALK TO A LAW'S ROW: scripts of calls of a log, opened.
-/
namespace Go.Proofs.YtcbfalfkdnfelaaDoor
open Go.RowKit Go.IntWalk
open Go.ChangeShapes Go.WideShapes Go.ChangeAt

instance pst_scrw {S : Option Addr} {d : Nat} {ops : List OpW} : Pst (fun w => Tsh w ∧ ScrW S d ops w) := ⟨fun _ _ h hb => ⟨Pst.later _ _ h.1 hb, h.2.1.later hb, fun o ho => ⟨(h.2.2 o ho).1.later hb, (h.2.2 o ho).2.later hb⟩⟩⟩
set_option maxRecDepth 20000 in
theorem opw_cells {H : Type} {enc : TypeId × Value → H} {W : World} {held : Bool} (n : Nat) (cs : List Value) (x : DataW H × List MemPlace) (h : DataW.trod enc Tryd.prog W 0 (fun _ => true) held n 35 cs = some x) :
    ∃ o : OpW, (cs = (eOw o).cl ∧ OkP (eOw o).parts1 ∧ (eOw o).cl.length = 4) ∧ (Rd 1 eB o.A o.c o.l W ∧ Rd 1 eB o.B o.d o.m W) ∧ o.l.length ≤ Rows.uptoBulk x.1 ∧ o.m.length ≤ Rows.uptoBulk x.1 := by
  obtain ⟨xs, m, _, rfl, hl, hlen, hf⟩ := DataW.trod_struct Tryd.underlying35 h
  obtain ⟨a, b, c, e, rfl⟩ : ∃ a b c e, cs = [a, b, c, e] := by
    match cs, (show cs.length = 4 from hl.trans (by kernel_rfl)) with
    | [a, b, c, e], _ => exact ⟨a, b, c, e, rfl⟩
  obtain ⟨x0, x1, x2, x3, rfl⟩ : ∃ a b c e, xs = [a, b, c, e] := by
    match xs, (show xs.length = 4 from hlen) with
    | [a, b, c, e], _ => exact ⟨a, b, c, e, rfl⟩
  have c0 : Tryd.prog.cellsOf 3 = 1 := by kernel_rfl
  have c1 : Tryd.prog.cellsOf 33 = 1 := by kernel_rfl
  have h0 : DataW.trod enc Tryd.prog W 0 (fun _ => true) held m 3 (([a, b, c, e].drop 0).take (Tryd.prog.cellsOf 3)) = some x0 := hf 0 _ rfl
  have h1 : DataW.trod enc Tryd.prog W 0 (fun _ => true) held m 3 (([a, b, c, e].drop 1).take (Tryd.prog.cellsOf 3)) = some x1 := hf 1 _ rfl
  have h2 : DataW.trod enc Tryd.prog W 0 (fun _ => true) held m 33 (([a, b, c, e].drop 2).take (Tryd.prog.cellsOf 33)) = some x2 := hf 2 _ rfl
  have h3 : DataW.trod enc Tryd.prog W 0 (fun _ => true) held m 33 (([a, b, c, e].drop 3).take (Tryd.prog.cellsOf 33)) = some x3 := hf 3 _ rfl
  rw [c0] at h0 h1
  rw [c1] at h2 h3
  obtain ⟨n0, e0, _⟩ := DataW.trod_int Tryd.underlying3 h0
  obtain ⟨n1, e1, _, _⟩ := DataW.trod_int Tryd.underlying3 h1
  have h2 : DataW.trod enc Tryd.prog W 0 (fun _ => true) held m 33 [c] = some x2 := h2
  have h3 : DataW.trod enc Tryd.prog W 0 (fun _ => true) held m 33 [e] = some x3 := h3
  obtain ⟨A, l, c', e2, hs⟩ := open_bytes h2
  obtain ⟨B, l2, d', e3, hs2⟩ := open_bytes h3
  injection e0 with e0
  injection e1 with e1
  injection e2 with e2
  injection e3 with e3
  subst e0 e1 e2 e3
  have hb := slice_bulk Tryd.underlying33 h2
  have hb2 := slice_bulk Tryd.underlying33 h3
  refine ⟨⟨n0, n1, A, c', l, B, d', l2⟩, ⟨rfl, eOw_ok _⟩, ⟨Rd.of_sl hs, Rd.of_sl hs2⟩, ?_, ?_⟩ <;> simp only [Rows.uptoBulk, Rows.uptoBulkAll, List.map_cons, List.map_nil]
  · show l.length ≤ _
    omega
  · show l2.length ≤ _
    omega
end Go.Proofs.YtcbfalfkdnfelaaDoor
