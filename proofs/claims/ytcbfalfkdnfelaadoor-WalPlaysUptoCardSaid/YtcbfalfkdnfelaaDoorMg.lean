/-
  SEVERAL TEXTS IN ONE: RdW, WrW, Sum512, Long256, Turn256, Lay256, Sum256, OpenS, WlZ, Ref02, Ref32, DgL, DgR, DgS.
-/
import Derived.Test.YtcbfalfkdnfelaaDoorMf
import Derived.Test.YtcbfalfkdnfelaaDoorMe
import Derived.Test.YtcbfalfkdnfelaaDoorMd
import Derived.Test.YtcbfalfkdnfelaaDoorCards
import Derived.Test.YtcbfalfkdnfelaaDoorTie
import Derived.Test.YtcbfalfkdnfelaaDoorMb
/-
  THE PROGRAM'S READER, over states.
-/
namespace Go.Proofs.YtcbfalfkdnfelaaDoor
open Go.RowKit Go.IntWalk

/-- What lies in a reader. -/
def rpW (A : Option Addr) (c : Nat) (s : Rds) : List Pt := [.one (.v (.slice A s.1.length c)), .one (.v (.int .i64 (s.2 : Int)))]
abbrev RdrS (g : Nat) (A : Option Addr) (c : Nat) (s : Rds) : Res := ObjS g 83 (rpW A c s)
abbrev TX := Option Addr × Nat × Option Addr × Nat
abbrev RX := Option Addr × Nat
theorem own_take : Own 50 := fun _ _ => by go_simp
theorem own_rnum : Own 41 := fun _ _ => by go_simp
theorem own_worth : Own 49 := fun _ _ => by go_simp
theorem own_rdnew : Own 40 := fun _ _ => by go_simp
set_option maxRecDepth 100000 in
set_option maxHeartbeats 1000000 in
theorem take_S (g : Nat) {A : Option Addr} {c : Nat} (s : Rds) (k : Nat) : Spec 50 [ptr g, .int .i64 (k : Int)] [RdrS g A c s] (Rd 1 eB A c s.1)
    { ret := fun x : TX => .v (.slice x.1 (tkO k s).length x.2.1), own := fun x => [RdrS g x.2.2.1 x.2.2.2 (tkS k s)], p := fun x w => Rd 1 eB x.1 x.2.1 (tkO k s) w ∧ Rd 1 eB x.2.2.1 x.2.2.2 (tkS k s).1 w } := by
  refine spec_S [.c (.v (ptr g)), .c (.v (.int .i64 (k : Int)))] 41 Tryd.func50 rfl (by rw [Tryd.ntmps50]; rfl) (two_ok trivial trivial) fun b => ?_
  refine s_pure (s.1.length ≤ c ∧ (A = none → c = 0) ∧ c ≤ 9223372036854775807) (fun w h _ => ⟨h.1, h.2.2.1, h.2.1⟩) fun ⟨hlc, hA, hcm⟩ => ?_
  refine s_auto TY_ok rfl ?_
  refine s_seq fun K hK => ?_
  refine s_regA TY_ok rfl fun K1 hK1 => ?_
  refine l_ldO TY_ok rfl rfl rfl rfl rfl rfl (obj_own 0 rfl) ?_
  refine l_autoS TY_ok rfl ?_
  refine s_end (hK1 _ ?_)
  refine s_ifD ((s.2 : Int) ≠ 0) rfl (fun h0 => ?_) (fun h0 => ?_)
  · have h0 : s.2 ≠ 0 := by omega
    obtain ⟨e1, e2⟩ := tk_stick (k := k) h0
    refine s_auto TY_ok rfl ?_
    exact s_ret (k_ret TY_ok (none, 0, A, c) rfl (by decide) rfl (by rw [e1]; rfl) (by rw [e2]) (fun w hF _ => by rw [e1, e2]; exact ⟨Rd.nil _ _ _, hF⟩) (fun _ _ => trivial))
  have h0 : s.2 = 0 := by omega
  refine s_skip (hK _ ?_)
  refine s_seq fun K2 hK2 => ?_
  refine s_regA TY_ok rfl fun K3 hK3 => ?_
  refine l_ldO TY_ok rfl rfl rfl rfl rfl rfl (obj_own 0 rfl) ?_
  refine l_autoS TY_ok rfl ?_
  refine s_end (hK3 _ ?_)
  refine s_ifD ((k : Int) > (s.1.length : Int)) rfl (fun h1 => ?_) (fun h1 => ?_)
  · obtain ⟨e1, e2⟩ := tk_less (k := k) h0 (by omega)
    refine s_regA TY_ok rfl fun K4 hK4 => ?_
    refine l_stO TY_ok 0 rfl rfl rfl rfl rfl rfl rfl ?_
    refine s_end (hK4 _ ?_)
    refine s_auto TY_ok rfl ?_
    exact s_ret (k_ret TY_ok (none, 0, A, c) rfl (by decide) rfl (by rw [e1]; rfl) (by rw [e2]; rfl) (fun w hF _ => by rw [e1, e2]; exact ⟨Rd.nil _ _ _, hF⟩) (fun _ _ => trivial))
  have hkl : k ≤ s.1.length := by omega
  obtain ⟨e1, e2⟩ := tk_take (k := k) h0 hkl
  refine s_skip (hK2 _ ?_)
  refine s_regA TY_ok rfl fun K5 hK5 => ?_
  refine l_ldO TY_ok rfl rfl rfl rfl rfl rfl (obj_own 0 rfl) ?_
  refine l_autoS TY_ok rfl ?_
  refine l_op (.v (.slice A k c)) trivial rfl rfl rfl (run_cutHi (sz := 1) rfl (by omega) hA rfl Tryd.underlying33 rfl rfl) ?_
  refine l_autoS TY_ok rfl ?_
  refine s_end (hK5 _ ?_)
  refine s_regA TY_ok rfl fun K6 hK6 => ?_
  refine l_ldO TY_ok rfl rfl rfl rfl rfl rfl (obj_own 0 rfl) ?_
  refine l_autoS TY_ok rfl ?_
  refine l_op (.v (.slice (cutA A c k) (s.1.length - k) (c - k))) trivial rfl rfl rfl (run_cutLo hkl hlc hA rfl rfl rfl) ?_
  refine l_autoS TY_ok rfl ?_
  refine l_stO TY_ok 0 rfl rfl rfl rfl rfl rfl rfl ?_
  refine s_end (hK6 _ ?_)
  refine s_auto TY_ok rfl ?_
  exact s_ret (k_ret TY_ok (A, c, cutA A c k, c - k) rfl (by decide) rfl (by rw [e1, List.length_take, Nat.min_eq_left hkl]; rfl) (by rw [e2]; dsimp only [RdrS, rpW]; rw [List.length_drop, h0]; rfl) (fun w hF _ => by rw [e1, e2]; exact ⟨hF.take k, hF.part hkl⟩) (fun _ _ => trivial))
theorem run_shl8 {N : Nat} {E : SE} {o : Oper} {x : Operand} {t' : TypeId} {m : Int} (ho : o.op = .binOp .shl 57 x (.const (.int .u64 8)) t') (hx : evS E x = some (.v (.int .u64 m))) :
    ∀ (G : Nat → Nat) (a : Act) (w : World), Fr N (denE G E) a → (execOp a.eval o).run Tryd.prog w = .ok (.value ((SV.v (.int .u64 (IntKind.u64.wrap (m * 256)))).den G)) w := fun G a w ha => by
  have h1 : a.eval x = .int .u64 m := ha.eval (evS_ok hx)
  unfold execOp
  simp only [ho, h1]
  show _ = Result.ok (Next.value (.int .u64 (IntKind.u64.wrap (m * 256)))) w
  go_simp
theorem run_orU {N : Nat} {E : SE} {o : Oper} {x y : Operand} {t' : TypeId} {m n : Int} (ho : o.op = .binOp .or 57 x y t') (hx : evS E x = some (.v (.int .u64 m))) (hy : evS E y = some (.v (.int .u64 n))) :
    ∀ (G : Nat → Nat) (a : Act) (w : World), Fr N (denE G E) a → (execOp a.eval o).run Tryd.prog w = .ok (.value ((SV.v (.int .u64 (bits .or .u64 m n))).den G)) w := fun G a w ha => by
  have h1 : a.eval x = .int .u64 m := ha.eval (evS_ok hx)
  have h2 : a.eval y = .int .u64 n := ha.eval (evS_ok hy)
  unfold execOp
  simp only [ho, h1, h2]
  go_simp
  rfl
theorem bits_step8 (a : Nat) (x : UInt8) : bits BinOp.or IntKind.u64 (IntKind.u64.wrap ((a : Int) * 256)) (IntKind.u64.wrap (x.toNat : Int)) = (step a x : Int) := by
  have hx : x.toNat < 256 := x.toNat_lt
  have e1 : IntKind.u64.wrap ((a : Int) * 256) = ((a * 256 % 18446744073709551616 : Nat) : Int) := by simp [IntKind.wrap, IntKind.bits, IntKind.signed]
  have e2 : IntKind.u64.wrap (x.toNat : Int) = ((x.toNat : Nat) : Int) := by
    simp [IntKind.wrap, IntKind.bits, IntKind.signed]
    omega
  rw [e1, e2, u64_or_nat _ _ (Nat.mod_lt _ (by omega)) (by omega), nat_join 8 _ _ (by omega) (by omega)]
  unfold step
  omega
theorem val_next {l : List UInt8} {i : Nat} {x : UInt8} (h : l[i]? = some x) : val (l.take (i + 1)) = step (val (l.take i)) x := by
  rw [List.take_add_one, h]
  exact val_snoc _ _
set_option maxRecDepth 100000 in
set_option maxHeartbeats 1000000 in
theorem worth_S {A : Option Addr} {c : Nat} (l : List UInt8) : Spec 49 [.slice A l.length c] [] (Rd 1 eB A c l) (one (.v (.int .u64 (val l : Int)))) := by
  refine spec_S [.c (.v (.slice A l.length c))] 19 Tryd.func49 rfl (by rw [Tryd.ntmps49]; rfl) (one_ok trivial) fun b => ?_
  refine s_pure (l.length ≤ 9223372036854775807) (fun w h _ => Nat.le_trans h.1 h.2.1) fun hl => ?_
  refine s_auto TY_ok rfl ?_
  refine s_auto TY_ok rfl ?_
  refine s_seq fun K hK => ?_
  refine s_auto TY_ok rfl ?_
  refine s_block ?_
  let F : Nat → Env := fun i => ⟨[(8, .v (.int .i64 (i : Int))), (7, .v (.int .i64 (l.length : Int))), (6, .v (.slice A l.length c)), (3, .v (.int .u64 (val (l.take i) : Int)))], [], [], Rd 1 eB A c l, fun _ => True⟩
  refine c_weak (e' := F 0) ⟨⟨rfl, rfl, rfl, rfl, trivial⟩, trivial, .refl _, fun _ h _ => h, fun _ h => h⟩ (s_loop (fun i => l.length - i) F (fun i => i ≤ l.length) ?_ 0 (Nat.zero_le _))
  intro i hi
  refine s_auto TY_ok rfl ?_
  refine s_seq fun K1 hK1 => ?_
  refine s_ifD ((i : Int) < (l.length : Int)) rfl (fun hlt => ?_) (fun hge => ?_)
  · have hlt : i < l.length := by omega
    obtain ⟨x, hx⟩ : ∃ x, l[i]? = some x := ⟨_, List.getElem?_eq_getElem hlt⟩
    have hv := val_next hx
    refine s_skip (hK1 _ ?_)
    refine s_seq fun K2 hK2 => ?_
    refine s_block ?_
    refine s_regA TY_ok rfl fun K3 hK3 => ?_
    refine l_elem TY_ok rfl rfl rfl i rfl hx rfl rfl (rd_fact fun w h _ => h) ?_
    refine l_autoS TY_ok rfl ?_
    refine s_end (hK3 _ ?_)
    refine s_lit ?_
    refine l_autoS TY_ok rfl ?_
    refine l_op (.v (.int .u64 (IntKind.u64.wrap ((val (l.take i) : Int) * 256)))) trivial rfl rfl rfl (run_shl8 rfl rfl) ?_
    refine l_autoS TY_ok rfl ?_
    refine l_op (.v (.int .u64 (val (l.take (i + 1)) : Int))) trivial rfl rfl rfl (by rw [hv, ← bits_step8]; exact run_orU rfl rfl rfl) ?_
    refine l_autoS TY_ok rfl ?_
    refine s_end (hK2 _ ?_)
    refine s_autoE TY_ok rfl ?_
    exact k_next (i + 1) hlt (by omega) ⟨⟨congrArg some (congrArg SV.v (congrArg (Value.int .i64) (wrapI rfl (by omega) (by omega)))), rfl, rfl, rfl, trivial⟩, trivial, .refl _, fun _ h _ => h, fun _ h => h⟩
  · obtain rfl : l.length = i := by omega
    refine s_exit (k_pass (k_pass (k_out ?_)))
    refine hK _ ?_
    rw [List.take_length]
    refine s_auto TY_ok rfl ?_
    exact s_ret (k_ret TY_ok () rfl (by decide) rfl rfl rfl (fun _ _ _ => trivial) (fun _ _ => trivial))
set_option maxRecDepth 100000 in
theorem rnum_S (g : Nat) {A : Option Addr} {c : Nat} (s : Rds) : Spec 41 [ptr g] [RdrS g A c s] (Rd 1 eB A c s.1)
    { ret := fun _ : RX => .v (.int .u64 (nuO s : Int)), own := fun x => [RdrS g x.1 x.2 (nuS s)], p := fun x => Rd 1 eB x.1 x.2 (nuS s).1 } := by
  refine spec_S [.c (.v (ptr g))] 6 Tryd.func41 rfl (by rw [Tryd.ntmps41]; rfl) (one_ok trivial) fun b => ?_
  refine s_auto TY_ok rfl ?_
  refine s_regA TY_ok rfl fun K1 hK1 => ?_
  refine l_callA [ptr g, .int .i64 ((8 : Nat) : Int)] rfl rfl rfl own_take rfl rfl (fun _ _ => rfl) (take_S g s 8) (fun w h _ => h) fun ⟨A1, c1, A2, c2⟩ => ?_
  refine l_R [RdrS g A2 c2 (nuS s)] rfl ?_
  refine l_call0 [.slice A1 (tkO 8 s).length c1] rfl rfl rfl own_worth rfl rfl (fun _ _ => rfl) (worth_S (tkO 8 s)) (fun w h _ => h.1.1) fun _ => ?_
  refine l_autoS TY_ok rfl ?_
  refine s_end (hK1 _ ?_)
  exact s_ret (k_ret TY_ok (A2, c2) rfl (by decide) rfl rfl rfl (fun w h _ => h.2.1.2) (fun _ _ => trivial))
set_option maxRecDepth 100000 in
theorem rdnew_S {A : Option Addr} {c : Nat} (l : List UInt8) (hl : l.length ≤ 281474976710656) : Spec 40 [.slice A l.length c] [] (Rd 1 eB A c l)
    { ret := fun x : Nat × Nat => .v (ptr x.1), own := fun x => [RdrS x.1 (some ⟨x.2, 0, none⟩) l.length (l, 0)], n := fun x => Rd 1 eB (some ⟨x.2, 0, none⟩) l.length l } := by
  refine spec_S [.c (.v (.slice A l.length c))] 8 Tryd.func40 rfl (by rw [Tryd.ntmps40]; rfl) (one_ok trivial) fun b => ?_
  refine s_auto TY_ok rfl ?_
  refine s_regA TY_ok rfl fun K1 hK1 => ?_
  refine l_list TY_ok b.B.heap.size [⟨A, c, l⟩] (fe := eSeg) rfl rfl rfl rfl rfl (fun _ => rfl) rfl (by decide) (by decide) (okF_seg _) (Nat.le_refl _) fun P => ?_
  refine l_free 0 rfl ?_
  have hj := join_S (A := P) (c := 1) [⟨A, c, l⟩] (by simp; omega)
  have e0 : (List.map Seg.l [⟨A, c, l⟩]).flatten = l := by simp
  rw [e0] at hj
  refine l_call0 [.slice P 1 1] rfl rfl rfl own_join rfl rfl (fun _ _ => rfl) hj (fun w h _ => ⟨h.1, fun s hs => by rw [List.mem_singleton.1 hs]; exact h.2⟩) fun gb => ?_
  refine l_autoS TY_ok rfl ?_
  refine s_end (hK1 _ ?_)
  refine s_ret (k_give 2 rfl (E' := []) trivial fun g => ?_)
  exact k_ret TY_ok (g, gb) rfl (by decide) rfl rfl rfl (fun _ _ _ => trivial) (fun w h => h.1)
end Go.Proofs.YtcbfalfkdnfelaaDoor
/-
  WRITING BYTES, over states: numbers, bytes behind bytes; objects that are only read from here on.
-/
namespace Go.Proofs.YtcbfalfkdnfelaaDoor
open Go.RowKit Go.IntWalk

section
variable {f : FuncId} {args : List Value} {F : World → Prop} {l : List UInt8}
/-- A call that makes bytes, by what it ends in. -/
theorem Spec.made (h : ∀ w, F w → Calls Tryd.prog f args.toArray w (Made w l)) : Spec f args [] F
    { ret := fun g : Nat => .v (.slice (some ⟨g, 0, none⟩) l.length l.length), n := fun g => Rd 1 eB (some ⟨g, 0, none⟩) l.length l } := fun w S X hS _ hF => by
  refine (h w hF.now).mono ?_
  rintro e w' ⟨g, he, ho, hb⟩
  refine ⟨g, S, he, trivial, Chg.of_up hb, hS.keep fun k hk => hb.block k (hS.lt k hk), fun _ h _ => h, fun _ _ => trivial, ?_⟩
  have h3 : (OwnS w.heap.size 5 1 eB (some ⟨g, 0, none⟩) l.length l).holds w' fun j => (some (⟨g, 0, none⟩ : Addr)).map (·.block) = some j := ⟨okF_B _, by rw [flat_B]; exact ho, fun _ => Iff.rfl⟩
  have h4 := OwnS.rd h3
  have h6 := (OwnS.inb h3 _ rfl).1
  intro w2 hw2
  refine h4.keep hw2.size fun b' e hlt => hw2.block b' hlt ?_
  simp only [Option.map_some, Option.some.injEq] at e
  subst e
  rintro (h5 | h5)
  · exact Nat.lt_irrefl _ (Nat.lt_of_lt_of_le h5 h6)
  · exact Nat.lt_irrefl _ (Nat.lt_of_lt_of_le (hS.lt _ h5) h6)
/-- The same, the bytes one's own. -/
theorem Spec.madeC (h : ∀ w, F w → Calls Tryd.prog f args.toArray w (MadeC w l)) : Spec f args [] F
    { ret := fun x : Option Addr × Nat => .v (.slice x.1 l.length x.2), own := fun x => [OwnS 0 5 1 eB x.1 x.2 l] } := fun w S X hS _ hF => by
  refine (h w hF.now).mono ?_
  rintro e w' ⟨A, c, he, ho, hb⟩
  have h3 : (OwnS w.heap.size 5 1 eB A c l).holds w' fun j => A.map (·.block) = some j := ⟨okF_B _, by rw [flat_B]; exact ho, fun _ => Iff.rfl⟩
  have h4 : (OwnS 0 5 1 eB A c l).holds w' fun j => A.map (·.block) = some j := ⟨okF_B _, by rw [flat_B]; exact own_base ho (Nat.zero_le _), fun _ => Iff.rfl⟩
  refine ⟨(A, c), fun j => A.map (·.block) = some j, he, trivial, Chg.of_up hb, starL_one.2 h4, fun k hk hlt => ?_, fun _ _ => trivial, fun _ _ => trivial⟩
  cases A with
  | none => cases hk
  | some ad =>
    simp only [Option.map_some, Option.some.injEq] at hk
    have := (OwnS.inb h3 ad rfl).1
    omega
end
section
variable {b : Base} {G : Nat → Nat} {S : Nat → Prop} {L : List LV} {R : List Res} {F M : World → Prop} {w : World} {g : Nat} {t : TypeId} {ps : List Pt}
theorem StW.freeO (h : StW b G S L R F M w) {i : Nat} (hi : R[i]? = some (ObjS g t ps)) : ∃ S', StW b G S' L (R.eraseIdx i) (fun w => ObjF g t ps w ∧ F w) M w := by
  obtain ⟨S1, S2, ⟨h1, h1'⟩, h2, h3, h4⟩ := h.let hi
  refine ⟨S2, h4.and (p := ObjF g t ps) fun w' hw => ⟨(hw.block g h1.1.lt fun hx => ?_).trans h1.1, h1.2⟩⟩
  rcases hx with hx | hx | ⟨j, hj, e⟩
  · exact (h.old g hx).2 (h.mine g (.inl ((h3 g).2 (.inl ((h1' g).2 rfl)))) (h.old g hx).1)
  · exact h2 g ((h1' g).2 rfl) hx
  · exact h.sep j hj ((h3 _).2 (.inl ((h1' _).2 e)))
variable {P : Program} {Q : Exit → Act → World → Prop} {N : Nat} {E : SE}
theorem s_freeO {x : Code} (i : Nat) (hi : R[i]? = some (ObjS g t ps)) (h : cS P b x Q N ⟨E, L, R.eraseIdx i, fun w => ObjF g t ps w ∧ F w, M⟩) : cS P b x Q N ⟨E, L, R, F, M⟩ := fun a w ⟨G, S, h1, h2, h3⟩ => by
  obtain ⟨S', h4⟩ := h3.freeO hi
  exact h a w ⟨G, S', h1, h2, h4⟩
end
theorem obj_rd {g n : Nat} {t : TypeId} {l : List UInt8} {w : World} (h : ObjF g t [.agg n (By l).toArray] w) (hn : n ≤ 9223372036854775807) : Rd 1 eB (some ⟨g, 0, none⟩) n l w := by
  have h1 : l.length = n := by
    have := (h.2 _ List.mem_cons_self).1
    rwa [List.size_toArray, By_len] at this
  refine ⟨Nat.le_of_eq h1, hn, fun h => (by cases h), okF_B l, fun _ => ⟨g, 0, rfl, h.1.lt, fun i x hi j v hj => ?_⟩⟩
  have hB : Blk w g t (By l).toArray := h.1
  rw [hB.cell]
  cases j with
  | zero =>
    have e : v = .int .u8 (x.toNat : Int) := (Option.some.inj ((show (eB x).cl[0]? = some (.int .u8 (x.toNat : Int)) from rfl).symm.trans hj)).symm
    obtain ⟨h2, h3⟩ := List.getElem?_eq_some_iff.1 hi
    have h4 := By_at? h2
    rw [getElem!_pos l i h2, h3] at h4
    rw [e]
    simpa using h4
  | succ j =>
    have : (eB x).cl[j + 1]? = none := rfl
    rw [this] at hj
    cases hj
/-- A slice of all of a row behind a pointer. -/
theorem runO_allP {P : Program} {N : Nat} {E : SE} {o : Oper} {x : Operand} {t e : TypeId} {g off n sz : Nat} (ho : o.op = .slice t x none none none) (ht : P.underlying t = some (.array n e)) (he : (P.info? e).map (·.size) = some sz) (hx : evS E x = some (.v (.pointer (some ⟨g, off, none⟩)))) :
    ∀ (G : Nat → Nat) (a : Act) (w : World), Fr N (denE G E) a → (execOp a.eval o).run P w = .ok (.value ((SV.v (.slice (some ⟨g, off, none⟩) n n)).den G)) w := fun G a w ha => by
  have h1 : a.eval x = .pointer (some ⟨g, off, none⟩) := ha.eval (evS_ok hx)
  have h5 := run_sizeOf he w
  unfold execOp
  simp only [ho]
  generalize a.eval = ρ at *
  simp only [Option.map, h1]
  show _ = Result.ok (Next.value (.slice (some ⟨g, off, none⟩) n n)) w
  simp [Instr.sliceAt, Instr.sureAddr, run_underlying ht, Instr.sliceBounds, h5, Sem.run_bind, Addr.add_mid]
theorem own_lay : Own 47 := fun _ _ => by go_simp
theorem own_wnum : Own 37 := fun _ _ => by go_simp
theorem own_rfnum : Own 26 := fun _ _ => by go_simp
theorem lay_S (v : Nat) (hv : v < 18446744073709551616) : Spec 47 [.int .u64 (v : Int)] [] (fun _ => True) (one (.q (eY 8 (be8 v)))) :=
  Spec.pure (eY_ok (be8_len v)).1 fun w _ => lay_any v w hv
theorem rfnum_S (v : Nat) (hv : v < 18446744073709551616) : Spec 26 [.int .u64 (v : Int)] [] (fun _ => True)
    { ret := fun g : Nat => .v (.slice (some ⟨g, 0, none⟩) (be8 v).length (be8 v).length), n := fun g => Rd 1 eB (some ⟨g, 0, none⟩) (be8 v).length (be8 v) } :=
  Spec.made fun w _ => refnum_any v w hv
set_option maxRecDepth 100000 in
theorem wnum_S {A : Option Addr} {c : Nat} (l : List UInt8) (v : Nat) (hv : v < 18446744073709551616) (hl : l.length + 8 ≤ 281474976710656) : Spec 37 [.slice A l.length c, .int .u64 (v : Int)] [] (Rd 1 eB A c l)
    { ret := fun g : Nat => .v (.slice (some ⟨g, 0, none⟩) (l ++ be8 v).length (l ++ be8 v).length), n := fun g => Rd 1 eB (some ⟨g, 0, none⟩) (l ++ be8 v).length (l ++ be8 v) } := by
  refine spec_S [.c (.v (.slice A l.length c)), .c (.v (.int .u64 (v : Int)))] 12 Tryd.func37 rfl (by rw [Tryd.ntmps37]; rfl) (two_ok trivial trivial) fun b => ?_
  refine s_auto TY_ok rfl ?_
  refine s_regA TY_ok rfl fun K1 hK1 => ?_
  refine l_call0 [.int .u64 (v : Int)] rfl rfl rfl own_lay rfl rfl (fun _ _ => rfl) (lay_S v hv) (fun _ _ _ => trivial) fun _ => ?_
  refine l_autoS TY_ok rfl ?_
  refine s_end (k_give 5 rfl (E' := [(0, .v (.slice A l.length c))]) ⟨rfl, trivial⟩ fun g => hK1 _ ?_)
  refine s_freeO 0 rfl ?_
  refine s_regA TY_ok rfl fun K2 hK2 => ?_
  refine l_op (.v (.slice (some ⟨g, 0, none⟩) 8 8)) trivial rfl rfl rfl (runO_allP rfl Tryd.underlying80 rfl rfl) ?_
  refine l_list TY_ok b.B.heap.size [⟨A, c, l⟩, ⟨some ⟨g, 0, none⟩, 8, be8 v⟩] (fe := eSeg) rfl rfl rfl rfl rfl (fun _ => rfl) rfl (by decide) (by decide) (okF_seg _) (Nat.le_refl _) fun P => ?_
  refine l_free 0 rfl ?_
  have e0 : (List.map Seg.l [⟨A, c, l⟩, ⟨some ⟨g, 0, none⟩, 8, be8 v⟩]).flatten = l ++ be8 v := by simp
  have hj := join_S (A := P) (c := 2) [⟨A, c, l⟩, ⟨some ⟨g, 0, none⟩, 8, be8 v⟩] (by rw [e0, List.length_append, be8_len]; exact hl)
  rw [e0] at hj
  refine l_call0 [.slice P 2 2] rfl rfl rfl own_join rfl rfl (fun _ _ => rfl) hj (fun w h _ => ⟨h.1, fun s hs => by
    rcases List.mem_cons.1 hs with rfl | hs
    · exact h.2.2.2
    · rw [List.mem_singleton.1 hs]
      exact obj_rd (n := 8) h.2.1 (Nat.le_of_ble_eq_true rfl)⟩) fun gb => ?_
  refine l_autoS TY_ok rfl ?_
  refine s_end (hK2 _ ?_)
  exact s_ret (k_ret TY_ok gb rfl (by decide) rfl rfl rfl (fun _ _ _ => trivial) (fun w h => h.1))
end Go.Proofs.YtcbfalfkdnfelaaDoor
/-
  THE DIGESTS, over states: Sum512.
-/
namespace Go.Proofs.YtcbfalfkdnfelaaDoor
open Go.RowKit Go.IntWalk Nums

/-- Both tables lie where they lay. -/
structure Tsh (w : World) : Prop where
  steps : Ts w
  cell : ∀ i, i < 8 → w.cell? ⟨0, i, none⟩ = some (.int .u64 (sqs[i]! : Nat))
  lt : 0 < w.heap.size
theorem Tsh.below {w w' : World} (h : Tsh w) (hb : Below w.heap.size w w') : Tsh w' :=
  ⟨h.steps.below hb, fun i hi => (hb.cell (p := ⟨0, i, none⟩) h.lt).trans (h.cell i hi), Nat.lt_of_lt_of_le h.lt hb.size⟩
instance pst_sh : Pst Tsh := ⟨fun _ _ h hb => h.below hb⟩
theorem rd_obj {L : List LV} {R : List Res} {F M : World → Prop} {g t : Nat} {ps : List Pt} (i : Nat) (hi : R[i]? = some (ObjS g t ps)) : ∀ G S w, View G S L R F M w → ObjF g t ps w := fun _ _ _ h => by
  obtain ⟨S1, _, h1, _⟩ := h.res.at hi
  exact h1.1
theorem ob_runw {s : Sha} {B : Nat} : ∀ (n : Nat) (o : Oct) (l : List UInt8), l.length ≤ n → OB s.w o → OB s.w (runw s B o l)
  | n, o, l, hn, ho => by
    rw [runw]
    split
    · exact ho
    · cases n with
      | zero => omega
      | succ n => exact ob_runw n _ _ (by rw [List.length_drop]; omega) (OB.turnw _ _ _)
end Go.Proofs.YtcbfalfkdnfelaaDoor
/-
  THE DIGESTS: long256: a block's words, and those that are made of them.
-/
namespace Go.Proofs.YtcbfalfkdnfelaaDoor
open Go.RowKit Go.IntWalk Nums

def z64w : List Nat := List.replicate 64 0
theorem z64w_len : z64w.length = 64 := by decide
theorem own_long256 : Own 58 := fun _ _ => by go_simp
theorem arr64w : Arr 95 64 := ⟨_, Tryd.underlying95, by kernel_rfl⟩
theorem kw32 : KW .u32 32 := .inr ⟨rfl, rfl⟩
theorem ben_or4 {f : Nat → Nat} (hf : ∀ j, f j < 256) : bits .or .u32 (bits .or .u32 (bits .or .u32 (IntKind.u32.wrap (IntKind.u32.wrap (f 0 : Int) * 2 ^ min 24 IntKind.u32.bits)) (IntKind.u32.wrap (IntKind.u32.wrap (f 1 : Int) * 2 ^ min 16 IntKind.u32.bits))) (IntKind.u32.wrap (IntKind.u32.wrap (f 2 : Int) * 2 ^ min 8 IntKind.u32.bits))) (IntKind.u32.wrap (f 3 : Int)) = ((ben f 4 : Nat) : Int) := by
  have h0 := hf 0
  have h1 := hf 1
  have h2 := hf 2
  have h3 := hf 3
  have key : ∀ x : Nat, x < 256 → IntKind.u32.wrap (x : Int) = (x : Int) := fun x hx => by rw [IntKind.wrap_u32]; omega
  rw [key _ h0, key _ h1, key _ h2, key _ h3]
  rw [show ((f 0 : Int) * 2 ^ min 24 IntKind.u32.bits) = ((f 0 * 16777216 : Nat) : Int) from rfl, show ((f 1 : Int) * 2 ^ min 16 IntKind.u32.bits) = ((f 1 * 65536 : Nat) : Int) from rfl, show ((f 2 : Int) * 2 ^ min 8 IntKind.u32.bits) = ((f 2 * 256 : Nat) : Int) from rfl, kw32.wrap, kw32.wrap, kw32.wrap,
    Nat.mod_eq_of_lt (by omega), Nat.mod_eq_of_lt (by omega), Nat.mod_eq_of_lt (by omega), orV 24 _ _ (by omega) (by omega) (by omega) (by omega), orV 16 _ _ (by omega) (by omega) (by omega) (by omega), orV 8 _ _ (by omega) h3 (by omega) (by omega)]
  exact congrArg _ (show _ = (((0 * 256 + f 0) * 256 + f 1) * 256 + f 2) * 256 + f 3 by omega)
theorem long256_C {F : World → Prop} [Pst F] {b : List UInt8} (hb : b.length = 64) : Ct F 58 [eY 64 b] (one (.q (eZ 64 (mxl (sx s256 b) z64w 64)))) := ⟨own_long256, by
  have hX := sx_lt s256 b (by decide)
  have hlen : ∀ t, (mxl (sx s256 b) z64w t).length = 64 := fun t => by rw [mxl_len, z64w_len]
  have h16 : ∀ t, t < 16 → sx s256 b t = ben (fun k => (b[4 * t + k]!).toNat) 4 := fun t ht => by
    rw [sx, dif_pos ht]
    show ben (fun k => (b[t * 4 + k]!).toNat) 4 = _
    rw [Nat.mul_comm]
  have hrec : ∀ t, 16 ≤ t → (loww 32 (17, 19, 10) (sx s256 b (t - 2)) + sx s256 b (t - 7) + loww 32 (7, 18, 3) (sx s256 b (t - 15)) + sx s256 b (t - 16)) % 2 ^ 32 = sx s256 b t := fun t ht => by
    conv => rhs; rw [sx, dif_neg (by omega)]
    rfl
  generalize sx s256 b = X at *
  refine spec_S [eY 64 b] 89 Tryd.func58 rfl (by rw [Tryd.ntmps58]; rfl) (one_ok (eY_ok hb).1) fun B => ?_
  refine s_auto TY_ok rfl ?_
  refine s_auto TY_ok rfl ?_
  let L : List Nat → List LV := fun l => [⟨3, none, 95, [.agg 64 (Uw l).toArray]⟩, ⟨2, none, 95, [.agg 64 (Uw (List.replicate 64 0)).toArray]⟩, ⟨1, none, 89, [.agg 64 (By b).toArray]⟩]
  let P : Nat × List Nat → Env := fun s => ⟨[(11, .v (.int .i64 (s.1 : Int))), (1, .a 1 0), (2, .a 2 0), (3, .a 3 0)], L s.2, [], F, fun _ => True⟩
  refine s_seq fun K1 hK1 => ?_
  refine s_auto TY_ok rfl ?_
  refine s_block ?_
  refine c_weak (e' := P (0, List.replicate 64 0)) ⟨⟨rfl, rfl, rfl, rfl, trivial⟩, ⟨rfl, rfl, rfl, rfl, rfl, rfl, trivial⟩, .refl _, fun _ h _ => h, fun _ _ => trivial⟩ (s_loop (fun s => 16 - s.1) P (fun s => s.1 ≤ 16 ∧ s.2 = mxl X z64w s.1) ?_ (0, List.replicate 64 0) ⟨Nat.zero_le _, (mxl_zero X z64w).symm⟩)
  · rintro ⟨t, l⟩ ⟨ht, hl⟩
    dsimp only at ht hl
    subst hl
    refine s_auto TY_ok rfl ?_
    refine s_seq fun K2 hK2 => ?_
    refine s_ifD ((t : Int) < 16) rfl (fun hlt => ?_) (fun hge => ?_)
    · have hlt : t < 16 := by omega
      refine s_skip (hK2 _ ?_)
      refine s_seq fun K3 hK3 => ?_
      refine s_block ?_
      refine s_auto TY_ok rfl ?_
      refine s_reg fun K hK => l_autoS TY_ok rfl (l_num 15 ((4 * t : Nat) : Int) rfl (mulI 4 t (by omega)) (l_num 18 ((4 * t + 4 : Nat) : Int) rfl (by show IntKind.i64.wrap (IntKind.i64.wrap (((4 : Nat) : Int) * (t : Int)) + ((4 : Nat) : Int)) = _; rw [mulI 4 t (by omega)]; exact addI _ _ (by omega)) ?_))
      refine l_cutV (4 * t) (4 * t + 4) rfl rfl arr64 rfl rfl rfl (by omega) (by omega) (by omega) (l_N hK rfl ?_)
      have rd : ∀ j, j < 4 → (catP [.agg 64 (By b).toArray])[0 + 4 * t + j]? = some (.int .u8 ((b[4 * t + j]!).toNat : Int)) := fun j hj => by rw [Nat.zero_add]; exact By_get (by omega)
      refine s_drawnN 24 (by kernel_rfl) fun G S w0 hst => ?_
      refine n_auto2 hst rfl (n_cellS hst 0 rfl rfl rfl rfl rfl (by omega) Tryd.underlying33 size_u8 rfl (rd 0 (by decide)) Tryd.underlying5 rfl ?_)
      refine n_auto2 hst rfl (n_cellS hst 1 rfl rfl rfl rfl rfl (by omega) Tryd.underlying33 size_u8 rfl (rd 1 (by decide)) Tryd.underlying5 rfl ?_)
      refine n_auto2 hst rfl (n_cellS hst 2 rfl rfl rfl rfl rfl (by omega) Tryd.underlying33 size_u8 rfl (rd 2 (by decide)) Tryd.underlying5 rfl ?_)
      refine n_auto2 hst rfl (n_cellS hst 3 rfl rfl rfl rfl rfl (by omega) Tryd.underlying33 size_u8 rfl (rd 3 (by decide)) Tryd.underlying5 rfl ?_)
      refine n_auto2 hst rfl (n_num 42 ((X t : Nat) : Int) rfl ((ben_or4 (f := fun k => (b[4 * t + k]!).toNat) fun j => UInt8.toNat_lt _).trans (by rw [h16 t hlt])) (n_ix hst rfl arr64w (by show t < 64; omega) ?_))
      refine n_L hst rfl ?_
      refine l_st1 rfl [.agg 64 (Uw (mxl X z64w (t + 1))).toArray] (eZ_ok (hlen _)) ?_ ?_ (s_end (hK3 _ ?_))
      · show 0 + t < (Uw (mxl X z64w t)).toArray.size
        rw [List.size_toArray, Uw_len, hlen]
        omega
      · show Uw (mxl X z64w (t + 1)) = (Uw (mxl X z64w t)).set (0 + t) _
        rw [Nat.zero_add, Uw, Uw, ← mxl_set, List.map_set]
      refine s_autoE TY_ok rfl ?_
      exact k_next (t + 1, _) ⟨hlt, rfl⟩ (by show 16 - (t + 1) < 16 - t; omega) ⟨⟨congrArg (fun x => some (SV.v (.int .i64 x))) (addI t 1 (by omega)), rfl, rfl, rfl, trivial⟩, ⟨rfl, rfl, rfl, rfl, rfl, rfl, trivial⟩, .refl _, fun _ h _ => h, fun _ h => h⟩
    · obtain rfl : t = 16 := by omega
      refine s_exit (k_pass (k_pass (k_out (hK1 _ ?_))))
      let Q : Nat × List Nat → Env := fun s => ⟨[(6, .v (.int .i64 (s.1 : Int))), (1, .a 1 0), (2, .a 2 0), (3, .a 3 0)], L s.2, [], F, fun _ => True⟩
      refine s_seq fun K1 hK1 => ?_
      refine s_auto TY_ok rfl ?_
      refine s_block ?_
      refine c_weak (e' := Q (16, mxl X z64w 16)) ⟨⟨rfl, rfl, rfl, rfl, trivial⟩, ⟨rfl, rfl, rfl, rfl, rfl, rfl, trivial⟩, .refl _, fun _ h _ => h, fun _ h => h⟩ (s_loop (fun s => 64 - s.1) Q (fun s => 16 ≤ s.1 ∧ s.1 ≤ 64 ∧ s.2 = mxl X z64w s.1) ?_ (16, mxl X z64w 16) ⟨Nat.le_refl _, Nat.le_of_ble_eq_true rfl, rfl⟩)
      rintro ⟨t, l⟩ ⟨ht0, ht, hl⟩
      dsimp only at ht0 ht hl
      subst hl
      have rd : ∀ j, j < t → (catP [.agg 64 (Uw (mxl X z64w t)).toArray])[0 + j]? = some (.int .u32 ((X j : Nat) : Int)) := fun j hj => (Uw_in (by rw [hlen]; omega)).trans (by rw [mxl_in hj (by rw [z64w_len]; omega)])
      refine s_seq fun K3 hK3 => ?_
      refine s_auto TY_ok rfl ?_
      refine s_ifD ((t : Int) < 64) rfl (fun hlt => ?_) (fun hge => ?_)
      · have hlt : t < 64 := by omega
        refine s_skip (hK3 _ ?_)
        refine s_seq fun K4 hK4 => ?_
        refine s_block ?_
        refine s_N 10 [] (by kernel_rfl) fun K hK G S w0 hst => ?_
        refine n_auto2 hst rfl (n_num 50 ((t - 2 : Nat) : Int) rfl (subI t 2 (by omega) (by omega)) ?_)
        refine n_cell hst rfl arr64w (by show t - 2 < 64; omega) (.int .u32 ((X (t - 2) : Nat) : Int)) (rd (t - 2) (by omega)) ?_
        refine n_auto2 hst rfl (n_num 54 ((t - 15 : Nat) : Int) rfl (subI t 15 (by omega) (by omega)) ?_)
        refine n_cell hst rfl arr64w (by show t - 15 < 64; omega) (.int .u32 ((X (t - 15) : Nat) : Int)) (rd (t - 15) (by omega)) ?_
        refine n_N hst rfl hK rfl ?_
        refine s_reg fun K hK => l_X (rot32_C 17 (hX (t - 2)) (by decide)) (fun _ => rfl) rfl fun _ => l_X (rot32_C 19 (hX (t - 2)) (by decide)) (fun _ => rfl) rfl fun _ => l_auto2 rfl (l_num 9 _ rfl (kw32.low (17, 19, 10) (by decide) (hX (t - 2))) (s_end (hK _ ?_)))
        refine s_reg fun K hK => l_X (rot32_C 7 (hX (t - 15)) (by decide)) (fun _ => rfl) rfl fun _ => l_X (rot32_C 18 (hX (t - 15)) (by decide)) (fun _ => rfl) rfl fun _ => l_auto2 rfl (l_num 10 _ rfl (kw32.low (7, 18, 3) (by decide) (hX (t - 15))) (s_end (hK _ ?_)))
        refine s_drawnN 15 (by kernel_rfl) fun G S w0 hst => ?_
        refine n_auto2 hst rfl (n_num 76 ((t - 7 : Nat) : Int) rfl (subI t 7 (by omega) (by omega)) ?_)
        refine n_cell hst rfl arr64w (by show t - 7 < 64; omega) (.int .u32 ((X (t - 7) : Nat) : Int)) (rd (t - 7) (by omega)) ?_
        refine n_auto2 hst rfl (n_num 83 ((t - 16 : Nat) : Int) rfl (subI t 16 (by omega) (by omega)) ?_)
        refine n_cell hst rfl arr64w (by show t - 16 < 64; omega) (.int .u32 ((X (t - 16) : Nat) : Int)) (rd (t - 16) (by omega)) ?_
        refine n_auto2 hst rfl (n_num 86 _ rfl (kw32.sum4.trans (by rw [hrec t ht0])) (n_ix hst rfl arr64w hlt ?_))
        refine n_L hst rfl ?_
        refine l_st1 rfl [.agg 64 (Uw (mxl X z64w (t + 1))).toArray] (eZ_ok (hlen _)) ?_ ?_ (s_end (hK4 _ ?_))
        · show 0 + t < (Uw (mxl X z64w t)).toArray.size
          rw [List.size_toArray, Uw_len, hlen]
          omega
        · show Uw (mxl X z64w (t + 1)) = (Uw (mxl X z64w t)).set (0 + t) _
          rw [Nat.zero_add, Uw, Uw, ← mxl_set, List.map_set]
        refine s_autoE TY_ok rfl ?_
        exact k_next (t + 1, _) ⟨by show 16 ≤ t + 1; omega, hlt, rfl⟩ (by show 64 - (t + 1) < 64 - t; omega) ⟨⟨congrArg (fun x => some (SV.v (.int .i64 x))) (addI t 1 (by omega)), rfl, rfl, rfl, trivial⟩, ⟨rfl, rfl, rfl, rfl, rfl, rfl, trivial⟩, .refl _, fun _ h _ => h, fun _ h => h⟩
      · obtain rfl : t = 64 := by omega
        refine s_exit (k_pass (k_pass (k_out (hK1 _ ?_))))
        refine s_auto TY_ok rfl (s_ret ?_)
        exact k_ret TY_ok () rfl (by decide) rfl rfl rfl (fun _ _ _ => trivial) fun _ _ => trivial⟩
end Go.Proofs.YtcbfalfkdnfelaaDoor
/-
  THE DIGESTS: turn256: the eight words turned by a block.
-/
namespace Go.Proofs.YtcbfalfkdnfelaaDoor
open Go.RowKit Go.IntWalk Nums

theorem own_turn256 : Own 55 := fun _ _ => by go_simp
theorem arr8w : Arr 87 8 := ⟨_, Tryd.underlying87, by kernel_rfl⟩
theorem step32 {t : Nat} (ht : t < 80) : IntKind.u32.wrap (Int.fdiv ((cbs[t]! : Nat) : Int) (2 ^ min 32 IntKind.u64.bits)) = ((cbs[t]! / 4294967296 : Nat) : Int) := by
  have h1 := cbs_lt ht
  rw [kw64.shr 32 (by decide), kw32.wrap, Nat.mod_eq_of_lt (Nat.div_lt_of_lt_mul h1)]
theorem turn256_C {o : Oct} (ho : OB 32 o) {b : List UInt8} (hb : b.length = 64) : Ct Ts 55 [eZ 8 o.list, eY 64 b] (one (.q (eZ 8 (turnw s256 o b).list))) := ⟨own_turn256, by
  have hxn : (mxl (sx s256 b) z64w 64).length = 64 := by rw [mxl_len, z64w_len]
  have hO := fun t => OB.rnds (s := s256) (b := b) ho t
  refine spec_S [eZ 8 o.list, eY 64 b] 137 Tryd.func55 rfl (by rw [Tryd.ntmps55]; rfl) (two_ok (eZ_ok rfl) (eY_ok hb).1) fun B => ?_
  refine s_auto TY_ok rfl ?_
  refine s_reg fun K hK => l_X (long256_C hb) (fun _ => rfl) rfl fun _ => l_N hK rfl ?_
  refine s_N 24 [] (by kernel_rfl) fun K hK G S w0 hst => ?_
  refine n_cell hst rfl arr8w (Nat.le_of_ble_eq_true rfl) (.int .u32 (o.a : Int)) rfl ?_
  refine n_cell hst rfl arr8w (Nat.le_of_ble_eq_true rfl) (.int .u32 (o.b : Int)) rfl ?_
  refine n_cell hst rfl arr8w (Nat.le_of_ble_eq_true rfl) (.int .u32 (o.c : Int)) rfl ?_
  refine n_cell hst rfl arr8w (Nat.le_of_ble_eq_true rfl) (.int .u32 (o.d : Int)) rfl ?_
  refine n_cell hst rfl arr8w (Nat.le_of_ble_eq_true rfl) (.int .u32 (o.e : Int)) rfl ?_
  refine n_cell hst rfl arr8w (Nat.le_of_ble_eq_true rfl) (.int .u32 (o.f : Int)) rfl ?_
  refine n_cell hst rfl arr8w (Nat.le_of_ble_eq_true rfl) (.int .u32 (o.g : Int)) rfl ?_
  refine n_cell hst rfl arr8w (Nat.le_of_ble_eq_true rfl) (.int .u32 (o.h : Int)) rfl ?_
  refine n_N hst rfl hK rfl ?_
  refine s_seq fun K1 hK1 => ?_
  refine s_auto TY_ok rfl ?_
  refine s_block ?_
  let P : Nat × Oct → Env := fun s => ⟨[(37, .v (.int .i64 (s.1 : Int))), (6, .v (.int .u32 (s.2.a : Int))), (7, .v (.int .u32 (s.2.b : Int))), (8, .v (.int .u32 (s.2.c : Int))), (9, .v (.int .u32 (s.2.d : Int))), (10, .v (.int .u32 (s.2.e : Int))), (11, .v (.int .u32 (s.2.f : Int))), (12, .v (.int .u32 (s.2.g : Int))), (13, .v (.int .u32 (s.2.h : Int))), (2, .a 2 0), (4, .a 4 0), (5, .a 5 0)],
    [⟨5, none, 95, [.agg 64 (Uw (mxl (sx s256 b) z64w 64)).toArray]⟩, ⟨4, none, 87, [.agg 8 (Uw (List.replicate 8 0)).toArray]⟩, ⟨2, none, 87, [.agg 8 (Uw o.list).toArray]⟩], [], Ts, fun _ => True⟩
  refine c_weak (e' := P (0, o)) ⟨⟨rfl, rfl, rfl, rfl, rfl, rfl, rfl, rfl, rfl, rfl, rfl, rfl, trivial⟩, ⟨rfl, rfl, rfl, rfl, rfl, rfl, trivial⟩, .refl _, fun _ h _ => h, fun _ _ => trivial⟩ (s_loop (fun s => 64 - s.1) P (fun s => s.1 ≤ 64 ∧ s.2 = rnds s256 b o s.1) ?_ (0, o) ⟨Nat.zero_le _, rfl⟩)
  rintro ⟨t, q⟩ ⟨ht, hq⟩
  dsimp only at ht hq
  have hB := hO t
  rw [← hq] at hB
  refine s_auto TY_ok rfl ?_
  refine s_seq fun K2 hK2 => ?_
  refine s_ifD ((t : Int) < 64) rfl (fun hlt => ?_) (fun hge => ?_)
  · have hlt : t < 64 := by omega
    refine s_skip (hK2 _ ?_)
    refine s_seq fun K3 hK3 => ?_
    refine s_block ?_
    refine s_auto TY_ok rfl ?_
    refine s_reg fun K hK => l_X (rot32_C 6 hB.e (by decide)) (fun _ => rfl) rfl fun _ => l_X (rot32_C 11 hB.e (by decide)) (fun _ => rfl) rfl fun _ => l_X (rot32_C 25 hB.e (by decide)) (fun _ => rfl) rfl fun _ => l_auto2 rfl (l_num 15 _ rfl (kw32.big (6, 11, 25) (by decide) hB.e) (s_end (hK _ ?_)))
    refine s_reg fun K hK => l_X (rot32_C 2 hB.a (by decide)) (fun _ => rfl) rfl fun _ => l_X (rot32_C 13 hB.a (by decide)) (fun _ => rfl) rfl fun _ => l_X (rot32_C 22 hB.a (by decide)) (fun _ => rfl) rfl fun _ => l_auto2 rfl (l_num 16 _ rfl (kw32.big (2, 13, 22) (by decide) hB.a) (s_end (hK _ ?_)))
    refine s_N 23 [] (by kernel_rfl) fun K hK G S w0 hst => ?_
    refine n_auto2 hst rfl ?_
    refine n_tab hst rfl rfl rfl rfl arr80 (by show t < 80; omega) Tryd.underlying57 rfl (fun w h => h.cell t (by omega)) ?_
    refine n_auto2 hst rfl ?_
    refine n_cell hst rfl arr64w hlt (.int .u32 ((sx s256 b t : Nat) : Int)) ((Uw_in (by rw [hxn]; exact hlt)).trans (by rw [mxl_in hlt (by rw [z64w_len]; exact hlt)])) ?_
    refine n_auto2 hst rfl (n_num 17 (((q.h + bigw 32 (6, 11, 25) q.e + chw 32 q.e q.f q.g + cbs[t]! / 4294967296 + sx s256 b t) % 2 ^ 32 : Nat) : Int) rfl (by rw [step32 (t := t) (by omega)]; exact kw32.t1c hB.e hB.f hB.g) (n_N hst rfl hK rfl ?_))
    refine s_reg fun K hK => l_auto2 rfl (l_num 18 _ rfl (kw32.t2 hB.a hB.b hB.c) (s_end (hK _ ?_)))
    refine s_lit (l_auto2 rfl (l_num 10 _ rfl kw32.sum1 (l_num 6 _ rfl kw32.sum (s_end (hK3 _ ?_)))))
    refine s_autoE TY_ok rfl ?_
    exact k_next (t + 1, rnd s256 (cbs[t]! / 4294967296) (sx s256 b t) q) ⟨hlt, by rw [hq]; rfl⟩ (by show 64 - (t + 1) < 64 - t; omega) ⟨⟨congrArg (fun x => some (SV.v (.int .i64 x))) (addI t 1 (by omega)), rfl, rfl, rfl, rfl, rfl, rfl, rfl, rfl, rfl, rfl, rfl, trivial⟩, ⟨rfl, rfl, rfl, rfl, rfl, rfl, trivial⟩, .refl _, fun _ h _ => h, fun _ h => h⟩
  · obtain rfl : t = 64 := by omega
    refine s_exit (k_pass (k_pass (k_out (hK1 _ ?_))))
    refine s_reg fun K hK => ?_
    refine l_cell rfl arr8w (Nat.le_of_ble_eq_true rfl) (.int .u32 (o.a : Int)) rfl (l_auto2 rfl (l_num 107 _ rfl (kw32.add (b := q.a)) ?_))
    refine l_cell rfl arr8w (Nat.le_of_ble_eq_true rfl) (.int .u32 (o.b : Int)) rfl (l_auto2 rfl (l_num 111 _ rfl (kw32.add (b := q.b)) ?_))
    refine l_cell rfl arr8w (Nat.le_of_ble_eq_true rfl) (.int .u32 (o.c : Int)) rfl (l_auto2 rfl (l_num 115 _ rfl (kw32.add (b := q.c)) ?_))
    refine l_cell rfl arr8w (Nat.le_of_ble_eq_true rfl) (.int .u32 (o.d : Int)) rfl (l_auto2 rfl (l_num 119 _ rfl (kw32.add (b := q.d)) ?_))
    refine l_cell rfl arr8w (Nat.le_of_ble_eq_true rfl) (.int .u32 (o.e : Int)) rfl (l_auto2 rfl (l_num 123 _ rfl (kw32.add (b := q.e)) ?_))
    refine l_cell rfl arr8w (Nat.le_of_ble_eq_true rfl) (.int .u32 (o.f : Int)) rfl (l_auto2 rfl (l_num 127 _ rfl (kw32.add (b := q.f)) ?_))
    refine l_cell rfl arr8w (Nat.le_of_ble_eq_true rfl) (.int .u32 (o.g : Int)) rfl (l_auto2 rfl (l_num 131 _ rfl (kw32.add (b := q.g)) ?_))
    refine l_cell rfl arr8w (Nat.le_of_ble_eq_true rfl) (.int .u32 (o.h : Int)) rfl (l_auto2 rfl (l_num 135 _ rfl (kw32.add (b := q.h)) ?_))
    refine l_f (.p [.agg 8 (Uw (add8 32 o q).list).toArray]) (eZ_ok rfl) (fun G S w C0 Q' _ _ hQ => f_build ([(o.a + q.a) % 2 ^ 32, (o.b + q.b) % 2 ^ 32, (o.c + q.c) % 2 ^ 32, (o.d + q.d) % 2 ^ 32, (o.e + q.e) % 2 ^ 32, (o.f + q.f) % 2 ^ 32, (o.g + q.g) % 2 ^ 32, (o.h + q.h) % 2 ^ 32].zipIdx.map fun x => (x.2, .int .u32 ((x.1 : Nat) : Int))) (Uw (add8 32 o q).list).toArray rfl rfl rfl rfl rfl (by kernel_rfl) hQ) rfl ?_
    refine l_N hK rfl (s_ret ?_)
    rw [hq]
    exact k_ret TY_ok () rfl (by decide) rfl rfl rfl (fun _ _ _ => trivial) fun _ _ => trivial⟩
theorem size_v8 (cs : Array Value) (h : cs.size = 8) : (Tryd.prog.info? 87).map (·.size) = some cs.size := by
  rw [h]
  kernel_rfl
def z8v : Array Value := (Uw [0, 0, 0, 0, 0, 0, 0, 0]).toArray
end Go.Proofs.YtcbfalfkdnfelaaDoor
/-
  THE DIGESTS: lay256: the eight words' bytes, the greatest first; first256: what they begin as.
-/
namespace Go.Proofs.YtcbfalfkdnfelaaDoor
open Go.RowKit Go.IntWalk Nums

def z32b : List UInt8 := List.replicate 32 0
theorem zb32 : (Tryd.prog.info? 54).bind (fun i => i.zero.map (·.cells)) = some (By z32b).toArray := by kernel_rfl

/-- What lay256's rows lie in. -/
structure LY2 (w wr : World) (cs : Array Value) (m : List UInt8) : Prop where
  b0 : Blk wr w.heap.size 87 cs
  b1 : Blk wr (w.heap.size + 1) 54 (By z32b).toArray
  b2 : Blk wr (w.heap.size + 1 + 1) 54 (By m).toArray
  be : Below w.heap.size w wr
theorem LY2.set {w wr : World} {cs : Array Value} {m : List UInt8} (h : LY2 w wr cs m) (k : Nat) (x : UInt8) : LY2 w (wr.setCell ⟨w.heap.size + 1 + 1, k, none⟩ (.int .u8 (x.toNat : Int))) cs (m.set k x) where
  b0 := h.b0.far (by show w.heap.size ≠ w.heap.size + 1 + 1; omega) _
  b1 := h.b1.far (by show w.heap.size + 1 ≠ w.heap.size + 1 + 1; omega) _
  b2 := by
    have h4 := h.b2.set k (.int .u8 (x.toNat : Int))
    rw [By_set] at h4
    exact h4
  be := h.be.setCell (by show w.heap.size ≤ w.heap.size + 1 + 1; omega) _

set_option maxRecDepth 100000 in
set_option maxHeartbeats 2000000 in
theorem lay256_f {l : List Nat} (hl : l.length = 8) (hw : ∀ x ∈ l, x < 4294967296) (w : World) :
    Calls Tryd.prog 56 #[.agg (Uw l).toArray] w fun e w' => e = .returned (.agg (By (l.map (layw s256)).flatten).toArray) ∧ Below w.heap.size w w' := by
  have hD := flat_lenB (layw s256) (n := 4) (fun x => layw_len s256 x) l
  rw [hl] at hD
  have hg : ∀ i j, i < 8 → j < 4 → (((l.map (layw s256)).flatten)[4 * i + 3 - j]!).toNat = l[i]! / 256 ^ j % 256 := fun i j hi hj => by
    have h1 := flat_get (layw s256) (n := 4) (fun x => layw_len s256 x) l (i := i) (j := 3 - j) (by omega) (by omega)
    rw [show 4 * i + 3 - j = 4 * i + (3 - j) by omega, h1]
    exact layw_get (s := s256) (j := j) hj
  have hzs : (Uw l).toArray.size = 8 := by rw [List.size_toArray, Uw_len, hl]
  have hix : ∀ i, i < 8 → ∀ w1, (Instr.index 87 (.agg (Uw l).toArray) (.int .i64 ((i : Nat) : Int))).run Tryd.prog w1 = .ok (.int .u32 (l[i]! : Nat)) w1 := fun i hi w1 => by
    have h0 : (Uw l).toArray[i]? = some (.int .u32 (l[i]! : Nat)) := Uw_at (by omega)
    have h1 : ((i : Nat) : Int) < 8 := by omega
    have h2 : (0 : Int) ≤ (i : Nat) := by omega
    generalize l[i]! = c at *
    generalize (Uw l).toArray = cs at *
    unfold Instr.index Go.part
    go_simp
    obtain ⟨_, h⟩ := Array.getElem?_eq_some_iff.1 h0
    exact h
  have hwl : ∀ i, i < 8 → l[i]! < 4294967296 := fun i hi => by
    rw [getElem!_pos l i (by omega)]
    exact hw _ (List.getElem_mem _)
  generalize (l.map (layw s256)).flatten = D at *
  generalize (Uw l).toArray = cs at *
  go_enter Tryd.func56, Tryd.ntmps56
  refine wp_seq_k fun K hK => ?_
  refine wp_region_lit ?_
  refine wpl_box cs rfl rfl rfl ?_
  refine wpl_alloc (zs := (By z32b).toArray) rfl rfl zb32 ?_
  refine wpl_nil ?_
  go_simp
  refine hK _ _ ?_
  clear hK K
  refine wp_seq_k fun K hK => ?_
  refine wp_region_lit ?_
  refine wpl_alloc (zs := (By z32b).toArray) rfl rfl zb32 ?_
  refine wpl_nil ?_
  go_simp
  refine hK _ _ ?_
  clear hK K
  refine wp_at (fun W => LY2 w W cs z32b) ⟨blk3_0 w _ _ _ _, blk3_1 w _ _ _ _, blk3_2 w _ _ _ _, (((Below.refl _ _).alloc (Nat.le_refl _) _).alloc (by simp) _).alloc (by simp; omega) _⟩ ?_
  intro W hW
  have k0 := hW.b0
  have HW := Lib.hid hW
  clear hW
  go_wp2_with (refine wpList_load_row rfl 87 _ rfl w.heap.size rfl 87 cs (0, 0) _ k0 Tryd.underlying87 rfl (size_v8 _ hzs) ?_)
  clear k0
  go_loopw [8] (fun i wr => ∃ t : Nat, t ≤ 8 ∧ i = .int .i64 t ∧ LY2 w wr cs (pf D fun m => decide (m < 4 * t))) (fun i _ => 8 - (intOf i).toNat)
  case atStart =>
    refine ⟨0, by omega, rfl, ?_⟩
    rw [pf_none (fun m _ => decide_eq_false (by omega)), hD]
    exact HW.out
  case round =>
    clear HW
    obtain ⟨t, ht, rfl, hS⟩ := hrel
    by_cases htl : t < 8
    · have hi := hix t htl
      have hx := hwl t htl
      have hby := fun j hj => hg t j htl hj
      generalize l[t]! = x at *
      have g4 : (0 : Int) ≤ (t : Int) := by omega
      have HS := Lib.hid hS
      clear hS hg hix hwl
      go_wp2
      go_loopw [12, 5] (fun j v wq => ∃ n : Nat, n ≤ 4 ∧ j = .int .i64 n ∧ v = .int .u32 ((x / 256 ^ n : Nat) : Int) ∧ LY2 w wq cs (pf D fun m => decide (m < 4 * t ∨ 4 * t + 4 - n ≤ m ∧ m < 4 * t + 4))) (fun j _ _ => 4 - (intOf j).toNat)
      case atStart =>
        refine ⟨0, by omega, rfl, by rw [Nat.pow_zero, Nat.div_one], ?_⟩
        rw [pf_congr (q := fun m => decide (m < 4 * t)) (fun m _ => decide_eq_decide.2 (by omega))]
        exact HS.out
      case round =>
        clear HS
        obtain ⟨n, hn, rfl, rfl, hS⟩ := hrel
        by_cases hnl : n < 4
        · have hN := hS.set (4 * t + 3 - n) D[4 * t + 3 - n]!
          rw [pf_set (q := fun m => decide (m < 4 * t ∨ 4 * t + 4 - (n + 1) ≤ m ∧ m < 4 * t + 4)) (fun m _ => by rw [← Bool.decide_or]; exact decide_eq_decide.2 (by omega))] at hN
          have hb := hby n hnl
          have hdiv : x / 256 ^ (n + 1) = x / 256 ^ n / 256 := by rw [Nat.pow_succ, Nat.div_div_eq_div_mul]
          have hle : x / 256 ^ n < 4294967296 := Nat.lt_of_le_of_lt (Nat.div_le_self _ _) hx
          have c2 := (hS.b2.cell (4 * t + 3 - n)).trans (By_get (by rw [pf_len, hD]; omega))
          have f2 := hS.b2.free (4 * t + 3 - n)
          generalize x / 256 ^ n = y at *
          have q4 : IntKind.u8.wrap (y : Int) = ((D[4 * t + 3 - n]!).toNat : Int) := by
            rw [IntKind.wrap_u8', hb]
            omega
          have g5 : (0 : Int) ≤ (n : Int) := by omega
          have q5 : (y : Int) / 256 = ((y / 256 : Nat) : Int) := by omega
          have HN := Lib.hid (And.intro hN hdiv)
          clear hS hN hdiv hb hby hi
          generalize (D[4 * t + 3 - n]!).toNat = v at *
          generalize ((pf D fun m => decide (m < 4 * t ∨ 4 * t + 4 - n ≤ m ∧ m < 4 * t + 4))[4 * t + 3 - n]!).toNat = old at *
          generalize y / 256 = y2 at *
          go_wp2
          go_roundw
          case rel =>
            obtain ⟨hN, hdiv⟩ := HN.out
            refine ⟨n + 1, by omega, by go_num, by rw [hdiv], hN⟩
          case measure => simp [intOf]; omega
        · obtain rfl : n = 4 := by omega
          rw [pf_congr (q := fun m => decide (m < 4 * (t + 1))) (fun m _ => decide_eq_decide.2 (by omega))] at hS
          have HS := Lib.hid hS
          clear hS
          go_wp2
          go_roundw
          case rel => exact ⟨t + 1, by omega, by go_num, HS.out⟩
          case measure => simp [intOf]; omega
    · obtain rfl : t = 8 := by omega
      rw [pf_all (fun m hm => decide_eq_true (by omega))] at hS
      obtain ⟨b0, b1, b2, be⟩ := hS
      have hz : (By D).toArray.size = 32 := by rw [List.size_toArray, By_len, hD]
      clear b0
      go_wp2_with (first
        | (refine wpList_load_row rfl 54 _ rfl (w.heap.size + 1 + 1) rfl 54 (By D).toArray (0, 0) _ b2 Tryd.underlying54 rfl (size_hash _ hz) ?_)
        | (refine wpList_store_row rfl 54 _ _ rfl (w.heap.size + 1) rfl (By D).toArray rfl 54 _ b1 (size_hash _ hz) (by rw [hz]; rfl) (By_one _) ?_))
      refine bodyPost_ret (results_cell_row rfl _ _ (w.heap.size + 1) 54 (By D).toArray (0, 0) _ rfl (b1.row _) Tryd.underlying54 rfl (size_hash _ hz)) rfl ⟨rfl, ?_⟩
      exact below_setRow be (by omega) _

/-! ### first256 -/
theorem zv8 : (Tryd.prog.info? 87).bind (fun i => i.zero.map (·.cells)) = some z8v := by kernel_rfl
/-- The starts' table lies where it lay. -/
structure Tst (w : World) : Prop where
  cell : ∀ i, i < 8 → w.cell? ⟨0, i, none⟩ = some (.int .u64 (sqs[i]! : Nat))
  lt : 0 < w.heap.size
theorem Tst.below {w w' : World} (h : Tst w) (hb : Below w.heap.size w w') : Tst w' :=
  ⟨fun i hi => (hb.cell (p := ⟨0, i, none⟩) h.lt).trans (h.cell i hi), Nat.lt_of_lt_of_le h.lt hb.size⟩
/-- What first256's rows lie in. -/
structure FI2 (w wr : World) (l : List Nat) : Prop where
  b0 : Blk wr w.heap.size 87 z8v
  b1 : Blk wr (w.heap.size + 1) 87 (Uw l).toArray
  be : Below w.heap.size w wr
theorem FI2.set {w wr : World} {l : List Nat} (h : FI2 w wr l) (k x : Nat) : FI2 w (wr.setCell ⟨w.heap.size + 1, k, none⟩ (.int .u32 (x : Int))) (l.set k x) where
  b0 := h.b0.far (by show w.heap.size ≠ w.heap.size + 1; omega) _
  b1 := by
    have h4 := h.b1.set k (.int .u32 (x : Int))
    rw [Uw_set] at h4
    exact h4
  be := h.be.setCell (by show w.heap.size ≤ w.heap.size + 1; omega) _
theorem sqs_lt {t : Nat} (h : t < 8) : sqs[t]! < 18446744073709551616 := by
  have h1 : ∀ x ∈ sqs, x < 18446744073709551616 := by decide
  have h2 : t < sqs.length := h
  rw [getElem!_pos sqs t h2]
  exact h1 _ (List.getElem_mem _)
def sqh (t : Nat) : Nat := sqs[t]! / 4294967296
def z8n : List Nat := [0, 0, 0, 0, 0, 0, 0, 0]
theorem first_all : mxl sqh z8n 8 = s256.start := by decide +kernel

set_option maxRecDepth 100000 in
set_option maxHeartbeats 2000000 in
theorem first256_f (w : World) (hT : Tst w) :
    Calls Tryd.prog 52 #[] w fun e w' => e = .returned (.agg (Uw s256.start).toArray) ∧ Below w.heap.size w w' := by
  rw [← first_all]
  have hlen : ∀ t, (mxl sqh z8n t).length = 8 := fun t => by rw [mxl_len]; rfl
  go_enter Tryd.func52, Tryd.ntmps52
  refine wp_seq_k fun K hK => ?_
  refine wp_region_lit ?_
  refine wpl_alloc (zs := z8v) rfl rfl zv8 ?_
  refine wpl_nil ?_
  go_simp
  refine hK _ _ ?_
  clear hK K
  refine wp_seq_k fun K hK => ?_
  refine wp_region_lit ?_
  refine wpl_alloc (zs := z8v) rfl rfl zv8 ?_
  refine wpl_nil ?_
  go_simp
  refine hK _ _ ?_
  clear hK K
  have hb2 : Blk ((w.alloc (.cells z8v 87)).alloc (.cells z8v 87)) (w.heap.size + 1) 87 z8v := by
    have h := Blk.new (w.alloc (.cells z8v 87)) 87 z8v
    rwa [World.size_alloc] at h
  refine wp_at (fun W => FI2 w W z8n) ⟨(Blk.new w _ _).alloc _, hb2, ((Below.refl _ _).alloc (Nat.le_refl _) _).alloc (by simp) _⟩ ?_
  intro W hW
  clear hb2
  have HW := Lib.hid hW
  clear hW
  go_wp2
  go_loopw [3] (fun i wr => ∃ t : Nat, t ≤ 8 ∧ i = .int .i64 t ∧ FI2 w wr (mxl sqh z8n t)) (fun i _ => 8 - (intOf i).toNat)
  case atStart =>
    refine ⟨0, by omega, rfl, ?_⟩
    rw [mxl_zero]
    exact HW.out
  case round =>
    clear HW
    obtain ⟨t, ht, rfl, hS⟩ := hrel
    by_cases htl : t < 8
    · have hN := hS.set t (sqh t)
      rw [mxl_set] at hN
      have hg := (hT.below hS.be).cell t htl
      have hlt := sqs_lt htl
      have c1 := (hS.b1.cell t).trans (Uw_at (by rw [hlen]; omega))
      have f1 := hS.b1.free t
      have e1 : sqh t = sqs[t]! / 4294967296 := rfl
      have hq : sqh t < 4294967296 := by omega
      have q1 : ((sqs[t]! : Nat) : Int) / 4294967296 = ((sqh t : Nat) : Int) := by omega
      have q2 : IntKind.u32.wrap ((sqh t : Nat) : Int) = ((sqh t : Nat) : Int) := by rw [IntKind.wrap_u32]; omega
      have g4 : (0 : Int) ≤ (t : Int) := by omega
      have HN := Lib.hid hN
      clear hS hN e1 hT hlen
      generalize sqh t = y at *
      generalize sqs[t]! = x at *
      generalize (mxl sqh z8n t)[t]! = old at *
      go_wp2
      go_roundw
      case rel => exact ⟨t + 1, by omega, by go_num, HN.out⟩
      case measure => simp [intOf]; omega
    · obtain rfl : t = 8 := by omega
      obtain ⟨b0, b1, be⟩ := hS
      have hz : (Uw (mxl sqh z8n 8)).toArray.size = 8 := by rw [List.size_toArray, Uw_len, hlen]
      clear hT
      go_wp2_with (first
        | (refine wpList_load_row rfl 87 _ rfl (w.heap.size + 1) rfl 87 (Uw (mxl sqh z8n 8)).toArray (0, 0) _ b1 Tryd.underlying87 rfl (size_v8 _ hz) ?_)
        | (refine wpList_store_row rfl 87 _ _ rfl w.heap.size rfl (Uw (mxl sqh z8n 8)).toArray rfl 87 _ b0 (size_v8 _ hz) (by rw [hz]; rfl) (Uw_one _) ?_))
      refine bodyPost_ret (results_cell_row rfl _ _ w.heap.size 87 (Uw (mxl sqh z8n 8)).toArray (0, 0) _ rfl (b0.row _) Tryd.underlying87 rfl (size_v8 _ hz)) rfl ⟨rfl, ?_⟩
      exact below_setRow be (Nat.le_refl _) _
end Go.Proofs.YtcbfalfkdnfelaaDoor
/-
  THE DIGESTS, over states: Sum256.
-/
namespace Go.Proofs.YtcbfalfkdnfelaaDoor
open Go.RowKit Go.IntWalk Nums

theorem own_lay256 : Own 56 := fun _ _ => by go_simp
theorem own_first256 : Own 52 := fun _ _ => by go_simp
theorem own_sum256 : Own 48 := fun _ _ => by go_simp
def start256 : Oct := ⟨s256.start[0]!, s256.start[1]!, s256.start[2]!, s256.start[3]!, s256.start[4]!, s256.start[5]!, s256.start[6]!, s256.start[7]!⟩
theorem start256_ob : OB 32 start256 := by
  constructor <;> decide
theorem start256_list : start256.list = s256.start := by decide
theorem OB.list_lt2 {o : Oct} (h : OB 32 o) : ∀ x ∈ o.list, x < 4294967296 := by
  intro x hx
  simp only [Oct.list, List.mem_cons, List.not_mem_nil, or_false] at hx
  rcases hx with rfl | rfl | rfl | rfl | rfl | rfl | rfl | rfl
  · exact h.a
  · exact h.b
  · exact h.c
  · exact h.d
  · exact h.e
  · exact h.f
  · exact h.g
  · exact h.h
theorem own_take256 : Own 54 := fun _ _ => by go_simp
instance pst_st : Pst Tst := ⟨fun _ _ h hb => h.below hb⟩
theorem first256_C : Ct Tst 52 [] (one (.q (eZ 8 start256.list))) := ⟨own_first256, Spec.pure (eZ_ok rfl) fun w h => by
  rw [start256_list]
  exact first256_f w h⟩
/-- What a full block does. -/
def k256 : BK := ⟨s256, 64, 87, 89, fun o => [.agg 8 (Uw o.list).toArray], 54⟩
theorem k256_ok : k256.Ok where
  n64 := by decide
  n128 := by decide
  own := own_take256
  tk := fun {gh gb o b} ho hb => by
    refine spec_S (own := k256.R gh gb o b) [.c (.v (atG gh)), .c (.v (atG gb))] 5 Tryd.func54 rfl (by rw [Tryd.ntmps54]; rfl) (two_ok trivial trivial) fun B => ?_
    refine s_lit (l_ldO TY_ok rfl rfl rfl rfl rfl rfl (rd_obj 0 rfl) (l_ldO TY_ok rfl rfl rfl rfl rfl rfl (rd_obj 1 rfl) ?_))
    refine l_X (turn256_C ho hb) (fun _ => rfl) rfl fun _ => l_stO TY_ok 0 rfl rfl rfl rfl rfl rfl rfl (l_E rfl ?_)
    exact k_ret TY_ok () rfl (by decide) rfl rfl rfl (fun _ _ _ => trivial) fun _ _ => trivial
theorem lay256_C {F : World → Prop} {o : Oct} (ho : OB 32 o) : Ct F 56 [eZ 8 o.list] (one (.q (eY 32 (o.list.map (layw s256)).flatten))) := ⟨own_lay256, Spec.pure (eY_ok (by rw [flat_lenB (layw s256) fun x => layw_len s256 x]; rfl)).1 fun w _ => lay256_f rfl (OB.list_lt2 ho) w⟩
theorem sum256_C {P : Option Addr} {pc : Nat} {ss : List Seg} (hn : ss.length ≤ 9223372036854775807) : Ct (fun w => Tsh w ∧ PartsF P pc ss w) 48 [.c (.v (.slice P ss.length pc))] (one (.q (eY 32 (digest s256 (ss.map Seg.l).flatten)))) := ⟨own_sum256, by
  refine spec_S [.c (.v (.slice P ss.length pc))] 12 Tryd.func48 rfl (by rw [Tryd.ntmps48]; rfl) (one_ok trivial) fun B => ?_
  refine s_auto TY_ok rfl ?_
  refine s_reg fun K hK => l_X ((first256_C).imp fun _ h => ⟨h.1.cell, h.1.lt⟩) (fun _ => rfl) rfl fun _ => l_N hK rfl ?_
  refine s_reg fun K hK => l_auto2 rfl (s_end (k_give 4 rfl (E' := [(0, .v (.slice P ss.length pc)), (2, .a 2 0), (3, .a 3 0)]) ⟨rfl, rfl, rfl, trivial⟩ fun gb => k_give 3 rfl (E' := [(4, .v (atG gb)), (0, .v (.slice P ss.length pc)), (2, .a 2 0)]) ⟨rfl, rfl, rfl, trivial⟩ fun gh => hK _ ?_))
  refine s_reg fun K hK => l_op (.v (.slice (some ⟨gb, 0, none⟩) 64 64)) trivial rfl rfl rfl (runO_allP rfl Tryd.underlying89 size_u8 rfl) (l_autoS TY_ok rfl (l_op (.v (k256.take gh gb)) trivial rfl rfl rfl (run_makeF (vals := [atG gh, atG gb]) rfl rfl fun _ => rfl) ?_))
  refine l_callA (own := k256.R gh gb start256 (List.replicate 64 0)) (R' := []) [.slice (some ⟨gb, 0, none⟩) 64 64, .slice P ss.length pc, k256.take gh gb] rfl rfl rfl own_fill rfl rfl (fun _ _ => rfl) (fill_S k256_ok start256_ob List.length_replicate hn) (fun w h _ => ⟨h.1.steps, h.2⟩) fun b' => ?_
  have hD : ((runw s256 64 start256 ((ss.map Seg.l).flatten ++ tailw 64 ((ss.map Seg.l).flatten.length % 64) (8 * (ss.map Seg.l).flatten.length))).list.map (layw s256)).flatten = digest s256 (ss.map Seg.l).flatten := rfl
  have hO : OB 32 (runw s256 64 start256 ((ss.map Seg.l).flatten ++ tailw 64 ((ss.map Seg.l).flatten.length % 64) (8 * (ss.map Seg.l).flatten.length))) := ob_runw (s := s256) _ _ _ (Nat.le_refl _) start256_ob
  refine l_R (k256.R gh gb (runw s256 64 start256 ((ss.map Seg.l).flatten ++ tailw 64 ((ss.map Seg.l).flatten.length % 64) (8 * (ss.map Seg.l).flatten.length))) b'.1) rfl (l_N hK rfl ?_)
  generalize runw s256 64 start256 ((ss.map Seg.l).flatten ++ tailw 64 ((ss.map Seg.l).flatten.length % 64) (8 * (ss.map Seg.l).flatten.length)) = o at *
  refine s_freeO 0 rfl (s_freeO 0 rfl ?_)
  refine s_reg fun K hK => l_ldO TY_ok rfl rfl rfl rfl rfl rfl (fun _ _ _ hv => hv.fact.2.1) (l_X (lay256_C hO) (fun _ => rfl) rfl fun _ => l_N hK rfl (s_ret ?_))
  rw [hD]
  exact k_ret TY_ok () rfl (by decide) rfl rfl rfl (fun _ _ _ => trivial) fun _ _ => trivial⟩
end Go.Proofs.YtcbfalfkdnfelaaDoor
/-
  FROM A WALK TO A LAW'S ROW: the two tables of the digests.
-/
namespace Go.Proofs.YtcbfalfkdnfelaaDoor
open Go.ChangeShapes Go.WideShapes Go.ChangeAt Go.RowKit Nums

def laid2 : List (String × DataW Unit) := [("witan/sha.starts", Rows.laid_witan_sha_starts), ("witan/sha.steps", Rows.laid_witan_sha_steps)]
/-- The door's own heap meets the condition. -/
theorem door_met2 (os : Os) (args : Array Value) : laidMetH Tryd.prog laid2 ((World.doorLaid Tryd.prog 400 os).forCall (fun _ _ => 0) ⟨#[], args, []⟩).memory :=
  laidMetH_of_parts3 (fuel := 8) (laidMet_of_run' 8 (by kernel_rfl) (by kernel_rfl)) (by kernel_rfl) (by kernel_rfl)
set_option maxRecDepth 20000 in
/-- What the condition gives the walks. -/
theorem of_laid2 {W : World} (h : laidMetH Tryd.prog laid2 W) : Tsh W := by
  rw [MakeChecks.laidMetH_plain _ _ _ (by kernel_rfl)] at h
  obtain ⟨ps, ⟨g1, t1, cs1, f1, p1, q1, hg1, ht1, hv1, hd1, ⟨g2, t2, cs2, f2, p2, q2, hg2, ht2, hv2, hd2, _, _⟩, _⟩, _, _⟩ := h
  have c1 := table_cells (l := sqs) (n := 8) (g := 0) (tid := 93) (by kernel_rfl) (by kernel_rfl) Tryd.underlying93 (by kernel_rfl) hg1 ht1 hv1 hd1
  have c2 := table_cells (l := cbs) (n := 80) (g := 1) (tid := 98) (by kernel_rfl) (by kernel_rfl) Tryd.underlying98 (by kernel_rfl) hg2 ht2 hv2 hd2
  exact ⟨⟨c2, World.block_lt_of_cell? W ⟨1, 0, none⟩ (c2 0 (by omega))⟩, c1, World.block_lt_of_cell? W ⟨0, 0, none⟩ (c1 0 (by omega))⟩
end Go.Proofs.YtcbfalfkdnfelaaDoor
/-
  FROM A WALK TO A LAW'S ROW: slices of slices of bytes, opened.
-/
namespace Go.Proofs.YtcbfalfkdnfelaaDoor
open Go.RowKit Go.IntWalk
open Go.ChangeShapes Go.WideShapes Go.ChangeAt

end Go.Proofs.YtcbfalfkdnfelaaDoor
/-
  THE DOCUMENT'S OWN DIGESTS: turn, three, cut.
-/
namespace Go.Proofs.YtcbfalfkdnfelaaDoor
open Go.RowKit Go.IntWalk Nums

theorem rot_sum (w n x : Nat) (hn : n ≤ w) (hx : x < 2 ^ w) : x * 2 ^ (w - n) % 2 ^ w = x % 2 ^ n * 2 ^ (w - n) ∧ x / 2 ^ n < 2 ^ (w - n) := by
  have e : (2 : Nat) ^ w = 2 ^ n * 2 ^ (w - n) := by rw [← Nat.pow_add, Nat.add_sub_cancel' hn]
  refine ⟨?_, Nat.div_lt_of_lt_mul (by rw [← e]; exact hx)⟩
  rw [e, Nat.mul_mod_mul_right]

theorem rot_mod32 (x n : Nat) (hx : x < 4294967296) (hn : n < 32) : (x * 2 ^ (32 - n) + x / 2 ^ n) % 4294967296 = rotw 32 n x := by
  obtain ⟨e1, e2⟩ := rot_sum 32 n x (by omega) hx
  have h4 : x % 2 ^ n + 1 ≤ 2 ^ n := Nat.mod_lt _ (Nat.two_pow_pos n)
  have h5 := Nat.mul_le_mul_right (2 ^ (32 - n)) h4
  have h6 : (2 : Nat) ^ n * 2 ^ (32 - n) = 4294967296 := by
    rw [← Nat.pow_add, Nat.add_sub_cancel' (show n ≤ 32 by omega)]
  rw [h6, Nat.add_mul, Nat.one_mul] at h5
  rw [show (2 : Nat) ^ 32 = 4294967296 from rfl] at e1
  unfold rotw
  generalize x / 2 ^ n = d at *
  generalize x * 2 ^ (32 - n) = y at *
  generalize x % 2 ^ n * 2 ^ (32 - n) = z at *
  generalize (2 : Nat) ^ (32 - n) = c at *
  omega

set_option maxRecDepth 100000 in
set_option maxHeartbeats 1000000 in
theorem rturn32_f (x n : Nat) (hx : x < 4294967296) (hn : n < 32) (w : World) :
    Calls Tryd.prog 51 #[.int .u64 (x : Int), .int .u64 (n : Int), .int .u64 32] w fun e w' => e = .returned (.int .u64 ((rotw 32 n x : Nat) : Int)) ∧ w' = w := by
  obtain ⟨e1, e2⟩ := rot_sum 32 n x (by omega) hx
  have hp : (2 : Nat) ^ (32 - n) ≤ 2 ^ 32 := Nat.pow_le_pow_right (by decide) (by omega)
  have hb : x * 2 ^ (32 - n) < 18446744073709551616 := by
    have h1 := Nat.mul_le_mul (show x ≤ 4294967295 by omega) hp
    have : (4294967295 : Nat) * 2 ^ 32 < 18446744073709551616 := by decide
    omega
  have q3 : IntKind.u64.wrap ((x : Int) * 2 ^ (32 - n)) = ((x * 2 ^ (32 - n) : Nat) : Int) := by
    rw [show ((x : Int) * 2 ^ (32 - n)) = ((x * 2 ^ (32 - n) : Nat) : Int) by simp]
    exact wrapN _ hb
  have q4 : IntKind.u64.wrap (32 - (n : Int)) = ((32 - n : Nat) : Int) := by
    rw [IntKind.wrap_u64]
    omega
  have f1 : ((x : Int) / 2 ^ n) = ((x / 2 ^ n : Nat) : Int) := by simp
  have hd : x / 2 ^ n < 18446744073709551616 := Nat.lt_of_le_of_lt (Nat.div_le_self _ _) (by omega)
  have q5 : bits .or .u64 ((x / 2 ^ n : Nat) : Int) ((x * 2 ^ (32 - n) : Nat) : Int) = ((x * 2 ^ (32 - n) + x / 2 ^ n : Nat) : Int) := by
    rw [u64_or_nat _ _ hd hb, Nat.or_comm, nat_join (32 - n) _ _ (Nat.mul_mod_left _ _) e2]
  have q6 := rot_mod32 x n hx hn
  have q7 : ((x * 2 ^ (32 - n) + x / 2 ^ n : Nat) : Int).tmod 4294967296 = ((rotw 32 n x : Nat) : Int) := by
    rw [← q6]
    rfl
  have g1 : ((32 - n : Nat) : Int) ≤ 64 := by omega
  have g2 : (n : Int) ≤ 64 := by omega
  clear e1 e2 hb hd q6 hp
  generalize rotw 32 n x = r at *
  generalize x * 2 ^ (32 - n) + x / 2 ^ n = y at *
  generalize x * 2 ^ (32 - n) = m at *
  generalize x / 2 ^ n = d at *
  generalize hs : 32 - n = s at *
  clear hs
  go_enter Tryd.func51, Tryd.ntmps51
  go_wp2
  go_ret
  exact ⟨rfl, rfl⟩

theorem own_rthree : Own 45 := fun _ _ => by go_simp
theorem own_rcut : Own 44 := fun _ _ => by go_simp
theorem own_rcube : Own 46 := fun _ _ => by go_simp
theorem own_rsquare : Own 43 := fun _ _ => by go_simp

set_option maxRecDepth 100000 in
set_option maxHeartbeats 1000000 in
theorem rcut32_f (x : Nat) (w : World) : Calls Tryd.prog 44 #[.int .u64 (x : Int), .int .u64 32] w fun e w' => e = .returned (.int .u64 ((x % 4294967296 : Nat) : Int)) ∧ w' = w := by
  have q : (x : Int).tmod 4294967296 = ((x % 4294967296 : Nat) : Int) := rfl
  generalize x % 4294967296 = y at *
  go_enter Tryd.func44, Tryd.ntmps44
  go_wp2
  go_ret
  exact ⟨rfl, rfl⟩

set_option maxRecDepth 100000 in
set_option maxHeartbeats 2000000 in
theorem rcube_f (i : Nat) (hi : i < 80) (w : World) :
    Calls Tryd.prog 46 #[.int .i64 (i : Int)] w fun e w' => e = .returned (.int .u64 (cbs[i]! : Nat)) ∧ Below w.heap.size w w' := by
  go_enter Tryd.func46, Tryd.ntmps46
  go_wp2
  go_ret
  refine ⟨?_, (Below.refl _ _).alloc (Nat.le_refl _) _⟩
  have hod : i < cbs.length := hi
  have e : (Us cbs)[i]'(by rw [Us_len]; exact hod) = .int .u64 (cbs[i]! : Nat) := by
    rw [getElem!_pos cbs i hod]
    simp [Us]
  exact congrArg Ending.returned e
set_option maxRecDepth 100000 in
set_option maxHeartbeats 2000000 in
theorem rsquare_f (i : Nat) (hi : i < 8) (w : World) :
    Calls Tryd.prog 43 #[.int .i64 (i : Int)] w fun e w' => e = .returned (.int .u64 (sqs[i]! : Nat)) ∧ Below w.heap.size w w' := by
  go_enter Tryd.func43, Tryd.ntmps43
  go_wp2
  go_ret
  refine ⟨?_, (Below.refl _ _).alloc (Nat.le_refl _) _⟩
  have hod : i < sqs.length := hi
  have e : (Us sqs)[i]'(by rw [Us_len]; exact hod) = .int .u64 (sqs[i]! : Nat) := by
    rw [getElem!_pos sqs i hod]
    simp [Us]
  exact congrArg Ending.returned e
end Go.Proofs.YtcbfalfkdnfelaaDoor
/-
  THE DOCUMENT'S OWN DIGESTS: three, with words of 32 bits.
-/
namespace Go.Proofs.YtcbfalfkdnfelaaDoor
open Go.RowKit Go.IntWalk Nums

theorem lt_64 {a : Nat} (h : a < 2 ^ 32) : a < 18446744073709551616 := Nat.lt_trans h (by decide)
theorem u64_xor_32 (a b : Nat) (ha : a < 2 ^ 32) (hb : b < 2 ^ 32) : bits .xor .u64 (a : Int) (b : Int) = ((a ^^^ b : Nat) : Int) := u64_xor_nat a b (lt_64 ha) (lt_64 hb)

set_option maxRecDepth 100000 in
set_option maxHeartbeats 1000000 in
theorem rbig32_f (x a b c : Nat) (hx : x < 4294967296) (ha : a < 32) (hb : b < 32) (hc : c < 32) (w : World) :
    Calls Tryd.prog 45 #[.int .u64 (x : Int), .int .u64 32, .int .u64 (a : Int), .int .u64 (b : Int), .int .u64 (c : Int), .bool false] w fun e w' => e = .returned (.int .u64 ((bigw 32 (a, b, c) x : Nat) : Int)) ∧ w' = w := by
  have r1 := rotw_lt (w := 32) (n := a) (x := x) (by omega) hx
  have r2 := rotw_lt (w := 32) (n := b) (x := x) (by omega) hx
  have r3 := rotw_lt (w := 32) (n := c) (x := x) (by omega) hx
  have R1 := fun w1 => Lib.hid (rturn32_f x a hx ha w1)
  have R2 := fun w1 => Lib.hid (rturn32_f x b hx hb w1)
  have R3 := fun w1 => Lib.hid (rturn32_f x c hx hc w1)
  have x1 := u64_xor_32 _ _ r1 r2
  have x2 := u64_xor_32 _ _ (xor_lt r1 r2) r3
  have e1 : bigw 32 (a, b, c) x = rotw 32 a x ^^^ rotw 32 b x ^^^ rotw 32 c x := rfl
  rw [← e1] at x2
  clear e1 r1 r2 r3
  generalize bigw 32 (a, b, c) x = z at *
  generalize rotw 32 a x ^^^ rotw 32 b x = y at *
  generalize rotw 32 a x = p1 at *
  generalize rotw 32 b x = p2 at *
  generalize rotw 32 c x = p3 at *
  go_enter Tryd.func45, Tryd.ntmps45
  go_wp2_with (fail)
  refine (R1 _).out.mono ?_
  rintro e w4 ⟨rfl, rfl⟩
  go_wp2_with (fail)
  refine (R2 _).out.mono ?_
  rintro e w4 ⟨rfl, rfl⟩
  go_wp2_with (fail)
  refine (R3 _).out.mono ?_
  rintro e w4 ⟨rfl, rfl⟩
  go_wp2_with (fail)
  go_ret
  exact ⟨rfl, rfl⟩

set_option maxRecDepth 100000 in
set_option maxHeartbeats 1000000 in
theorem rlow32_f (x a b c : Nat) (hx : x < 4294967296) (ha : a < 32) (hb : b < 32) (hc : c < 32) (w : World) :
    Calls Tryd.prog 45 #[.int .u64 (x : Int), .int .u64 32, .int .u64 (a : Int), .int .u64 (b : Int), .int .u64 (c : Int), .bool true] w fun e w' => e = .returned (.int .u64 ((loww 32 (a, b, c) x : Nat) : Int)) ∧ w' = w := by
  have r1 := rotw_lt (w := 32) (n := a) (x := x) (by omega) hx
  have r2 := rotw_lt (w := 32) (n := b) (x := x) (by omega) hx
  have r3 : x / 2 ^ c < 2 ^ 32 := Nat.lt_of_le_of_lt (Nat.div_le_self _ _) hx
  have R1 := fun w1 => Lib.hid (rturn32_f x a hx ha w1)
  have R2 := fun w1 => Lib.hid (rturn32_f x b hx hb w1)
  have x1 := u64_xor_32 _ _ r1 r2
  have x2 := u64_xor_32 _ _ (xor_lt r1 r2) r3
  have e1 : loww 32 (a, b, c) x = rotw 32 a x ^^^ rotw 32 b x ^^^ x / 2 ^ c := rfl
  rw [← e1] at x2
  clear e1 r1 r2 r3
  have f1 : ((x : Int) / 2 ^ c) = ((x / 2 ^ c : Nat) : Int) := by simp
  have g2 : (c : Int) ≤ 64 := by omega
  generalize loww 32 (a, b, c) x = z at *
  generalize rotw 32 a x ^^^ rotw 32 b x = y at *
  generalize rotw 32 a x = p1 at *
  generalize rotw 32 b x = p2 at *
  generalize x / 2 ^ c = p3 at *
  go_enter Tryd.func45, Tryd.ntmps45
  go_wp2_with (fail)
  refine (R1 _).out.mono ?_
  rintro e w4 ⟨rfl, rfl⟩
  go_wp2_with (fail)
  refine (R2 _).out.mono ?_
  rintro e w4 ⟨rfl, rfl⟩
  go_wp2_with (fail)
  go_ret
  exact ⟨rfl, rfl⟩

end Go.Proofs.YtcbfalfkdnfelaaDoor
/-
  THE DOCUMENT'S OWN DIGESTS, over states: words of slices, what its parts hand back.
-/
namespace Go.Proofs.YtcbfalfkdnfelaaDoor
open Go.RowKit Go.IntWalk Nums

/-- A word. -/
abbrev eWd (x : Nat) : SQ := .c (.v (.int .u64 (x : Int)))
theorem eWd_ok (x : Nat) : OkP (eWd x).parts1 ∧ (eWd x).cl.length = 1 := ⟨fun p hp => by rw [List.mem_singleton.1 hp]; exact ⟨trivial, rfl, rfl⟩, rfl⟩
theorem okF_U (l : List Nat) : OkF 1 eWd l := fun x _ => eWd_ok x
section
variable {α : Type} {fe : α → SQ} {l : List α} {b : Base} {ops : Array Oper} {N : Nat} {G : Nat → Nat} {S : Nat → Prop} {E : SE} {L : List LV} {R : List Res} {F M : World → Prop} {w0 : World} {Z : Act → Prop} {rest : List Oper} {o1 o2 : Oper} {u : EL}
/-- An element of a slice, the order drawn. -/
theorem n_elem (hst : StW b G S L R F M w0) (h : elemS TY N E o1 o2 = some u) (hg : o1.guard = none) (hg2 : o2.guard = none) (j : Nat) {x : α} (hj : u.i = (j : Int)) (hx : l[j]? = some x) (hn : u.n = l.length) (hl : loadS TY (fe x).parts1 u.t 0 = some (fe x))
    (hrd : ∀ G S w, View G S L R F M w → Rd u.sz fe u.A u.c l w) (hk : nS Tryd.prog ops N w0 Z G rest ((u.k2, .q (fe x)) :: (u.k1, .o (ptrAt u.A (u.sz * j))) :: E)) : nS Tryd.prog ops N w0 Z G (o1 :: o2 :: rest) E := by
  obtain ⟨d1, d2, n1, n2, ho2, -⟩ := elemS_ok (P := Tryd.prog) TY_ok h
  obtain ⟨_, _, _, h4, _⟩ := hrd G S w0 hst.view
  refine n_opV hst (.o (ptrAt u.A (u.sz * j))) (ptrAt_ok _ _) hg d1 n1 (fun G S a w ha hv => (elem_run TY_ok h j hj hx hn hl (hrd G S w hv) ha).1) ?_
  refine n_opV hst (.q (fe x)) (SQ.ok_parts (h4 x (List.mem_of_getElem? hx)).1) hg2 d2 n2 (fun G S a w ha hv => ?_) hk
  obtain ⟨_, _, _, hok, hr⟩ := hrd G S w hv
  obtain ⟨bk, o, hA, hb, hr⟩ := hr (by have := (List.getElem?_eq_some_iff.1 hx).1; omega)
  obtain ⟨hp, hsz⟩ := hok x (List.mem_of_getElem? hx)
  have ha' : a.eval (.tmp u.k1) = .pointer (some ⟨bk, o + u.sz * j, none⟩) := by
    have e := ha.get u.k1 _ (by rw [denE, look_cons, if_pos rfl])
    rw [hA] at e
    exact e
  obtain ⟨_, h12⟩ := loadS_at TY_ok hp hl
  have h13 := h12 (w := w) (g := bk) (base := o + u.sz * j) (by rw [← SQ.cl_parts hp]; exact hr j x hx)
  rw [Nat.add_zero] at h13
  unfold execOp
  simp only [ho2, ha', h13, Sem.run_bind, Sem.run_pure, Result.andThen_ok]
  rfl
end
section
variable {F : World → Prop}
theorem rcut_C (x : Nat) : Ct F 44 [eWd x, eWd 32] (one (.q (eWd (x % 4294967296)))) := ⟨own_rcut, Spec.pure trivial fun w _ => (rcut32_f x w).mono fun _ _ h => ⟨h.1, h.2 ▸ Below.refl _ _⟩⟩
theorem rbig_C {x : Nat} (a b c : Nat) (hx : x < 4294967296) (h : a < 32 ∧ b < 32 ∧ c < 32) : Ct F 45 [eWd x, eWd 32, eWd a, eWd b, eWd c, .c (.v (.bool false))] (one (.q (eWd (bigw 32 (a, b, c) x)))) := ⟨own_rthree, Spec.pure trivial fun w _ => (rbig32_f x a b c hx h.1 h.2.1 h.2.2 w).mono fun _ _ h => ⟨h.1, h.2 ▸ Below.refl _ _⟩⟩
theorem rlow_C {x : Nat} (a b c : Nat) (hx : x < 4294967296) (h : a < 32 ∧ b < 32 ∧ c < 32) : Ct F 45 [eWd x, eWd 32, eWd a, eWd b, eWd c, .c (.v (.bool true))] (one (.q (eWd (loww 32 (a, b, c) x)))) := ⟨own_rthree, Spec.pure trivial fun w _ => (rlow32_f x a b c hx h.1 h.2.1 h.2.2 w).mono fun _ _ h => ⟨h.1, h.2 ▸ Below.refl _ _⟩⟩
theorem rcube_C {i : Nat} (hi : i < 80) : Ct F 46 [.c (.v (.int .i64 (i : Int)))] (one (.q (eWd (cbs[i]!)))) := ⟨own_rcube, Spec.pure trivial fun w _ => rcube_f i hi w⟩
theorem rsquare_C {i : Nat} (hi : i < 8) : Ct F 43 [.c (.v (.int .i64 (i : Int)))] (one (.q (eWd (sqs[i]!)))) := ⟨own_rsquare, Spec.pure trivial fun w _ => rsquare_f i hi w⟩
end
theorem k64 : KW .u64 64 := .inl ⟨rfl, rfl⟩
theorem lt64 {a : Nat} (h : a < 4294967296) : a < 2 ^ 64 := Nat.lt_trans h (by decide)
theorem u_or {a b : Nat} (ha : a < 4294967296) (hb : b < 4294967296) : bits .or .u64 (a : Int) (b : Int) = ((a ||| b : Nat) : Int) := u64_or_nat _ _ (lt64 ha) (lt64 hb)
theorem u_and {a b : Nat} (ha : a < 4294967296) (hb : b < 4294967296) : bits .and .u64 (a : Int) (b : Int) = ((a &&& b : Nat) : Int) := k64.and (lt64 ha) (lt64 hb)
theorem u_ch {e f g : Nat} (he : e < 4294967296) (hf : f < 4294967296) (hg : g < 4294967296) : bits .or .u64 (bits .and .u64 (e : Int) (f : Int)) (bits .and .u64 (((2 ^ 64 - 1 - e) % 4294967296 : Nat) : Int) (g : Int)) = ((chw 32 e f g : Nat) : Int) := by
  have e1 : (2 ^ 64 - 1 - e) % 4294967296 = 2 ^ 32 - 1 - e := by omega
  rw [e1, u_and he hf, u_and (by omega) hg, u_or (and_lt (w := 32) he) (and_lt (w := 32) (by omega)), ch_or he]
theorem u_ma {a b c : Nat} (ha : a < 4294967296) (hb : b < 4294967296) (hc : c < 4294967296) : bits .or .u64 (bits .or .u64 (bits .and .u64 (a : Int) (b : Int)) (bits .and .u64 (a : Int) (c : Int))) (bits .and .u64 (b : Int) (c : Int)) = ((maw a b c : Nat) : Int) := by
  rw [u_and ha hb, u_and ha hc, u_and hb hc, u_or (and_lt (w := 32) ha) (and_lt (w := 32) ha), u_or (Nat.or_lt_two_pow (n := 32) (and_lt ha) (and_lt ha)) (and_lt (w := 32) hb), ma_or]
theorem u_add {a b : Nat} (h : a + b < 18446744073709551616) : IntKind.u64.wrap ((a : Int) + (b : Int)) = ((a + b : Nat) : Int) := by
  rw [k64.add, Nat.mod_eq_of_lt h]
theorem u_t1 {h s ch k x : Nat} (hh : h + s + ch + k + x < 18446744073709551616) : IntKind.u64.wrap (IntKind.u64.wrap (IntKind.u64.wrap (IntKind.u64.wrap ((h : Int) + (s : Int)) + (ch : Int)) + (k : Int)) + (x : Int)) = ((h + s + ch + k + x : Nat) : Int) := by
  rw [k64.t1, Nat.mod_eq_of_lt hh]
theorem u_t1h {h s ch k x : Nat} (hh : h + s + ch + k / 4294967296 + x < 18446744073709551616) : IntKind.u64.wrap (IntKind.u64.wrap (IntKind.u64.wrap (IntKind.u64.wrap ((h : Int) + (s : Int)) + (ch : Int)) + Int.fdiv (k : Int) (2 ^ min (32 : Nat) IntKind.u64.bits)) + (x : Int)) = ((h + s + ch + k / 4294967296 + x : Nat) : Int) := by
  rw [show Int.fdiv (k : Int) (2 ^ min (32 : Nat) IntKind.u64.bits) = ((k / 4294967296 : Nat) : Int) from k64.shr 32 (by decide), u_t1 hh]
theorem u_s4 {a b c d : Nat} (h : a + b + c + d < 18446744073709551616) : IntKind.u64.wrap (IntKind.u64.wrap (IntKind.u64.wrap ((a : Int) + (b : Int)) + (c : Int)) + (d : Int)) = ((a + b + c + d : Nat) : Int) := by
  rw [k64.sum4, Nat.mod_eq_of_lt h]
/-- A word's first half. -/
theorem u_half {x : Nat} : Int.fdiv (x : Int) (2 ^ min (32 : Nat) IntKind.u64.bits) = ((x / 4294967296 : Nat) : Int) := k64.shr 32 (by decide)
end Go.Proofs.YtcbfalfkdnfelaaDoor
/-
  THE DOCUMENT'S OWN DIGESTS, over states: Digest with words of 32 bits: the rounds.
-/
namespace Go.Proofs.YtcbfalfkdnfelaaDoor
open Go.RowKit Go.IntWalk Nums

/-- The loops of a text, the outer ahead of the inner. -/
noncomputable def dlo (k : Nat) : Code := ((Tryd.f35.body.map loopsOf).getD [])[k]?.getD .skip
def n256 : List Nat := [2, 13, 22, 6, 11, 25, 7, 18, 3, 17, 19, 10]
/-- What is told in a block. -/
structure DX where
  AN : Option Addr
  AM : Option Addr
  lm : Nat
  cm : Nat
  AH : Option Addr
  AX : Option Addr
  a : Nat
abbrev DX.E (d : DX) : SE := [(15, .v (.slice d.AX 64 64)), (5, .v (.slice d.AN 12 12)), (1, .q (eWd 32)), (6, .v (.int .i64 64)), (7, .v (.int .i64 4)), (8, .v (.slice d.AM d.lm d.cm)), (12, .v (.slice d.AH 8 8)), (14, .v (.int .i64 (d.a : Int)))]
abbrev DX.F (d : DX) (m : List UInt8) (w : World) : Prop := Rd 1 eWd d.AN 12 n256 w ∧ Rd 1 eB d.AM d.cm m w
abbrev ownU (B : Base) (A : Option Addr) (c : Nat) (l : List Nat) : Res := OwnS B.B.heap.size 57 1 eWd A c l
abbrev DRo (B : Base) (d : DX) (m : List UInt8) (h x : List Nat) : Nat × Option Addr × Nat × Oct → Env := fun s => ⟨(20, .v (.int .i64 (s.1 : Int))) :: (19, .v (.slice s.2.1 8 s.2.2.1)) :: d.E, [], [ownU B s.2.1 s.2.2.1 s.2.2.2.list, ownU B d.AH 8 h], fun w => (d.F m w ∧ Rd 1 eWd d.AX 64 x w), fun _ => True⟩
theorem rounds_S {B : Base} {Q : Exit → Act → World → Prop} (d : DX) {m : List UInt8} {h x : List Nat} (F : Nat → Nat) (hlt : ∀ t, F t < 4294967296) (hx : ∀ t, t < 64 → x[t]? = some (F t)) (hl : x.length = 64) (R : Nat → Oct) (hO : ∀ t, OB 32 (R t)) (hstep : ∀ t, R (t + 1) = rnd s256 (cbs[t]! / 4294967296) (F t) (R t)) (A0 : Option Addr) (c0 : Nat)
    (hend : ∀ A c, kS B (Q .normal) 359 (DRo B d m h x (64, A, c, R 64))) : cS Tryd.prog B (.loop (dlo 7)) (Exit.inBlock 14 Q) 359 (DRo B d m h x (0, A0, c0, R 0)) := by
  refine s_loop (fun s => 64 - s.1) (DRo B d m h x) (fun s => s.1 ≤ 64 ∧ s.2.2.2 = R s.1) ?_ (0, A0, c0, R 0) ⟨Nat.zero_le _, rfl⟩
  rintro ⟨t, A, c, q⟩ ⟨ht, hq⟩
  dsimp only at ht hq
  conv => arg 3; whnf
  refine s_seq fun K2 hK2 => ?_
  refine s_auto TY_ok rfl ?_
  refine s_ifD ((t : Int) < 64) rfl (fun hlt2 => ?_) (fun hge => ?_)
  · have hlt2 : t < 64 := by omega
    obtain ⟨ba, bb, bc, bd, be, bf, bg, bh⟩ := hq ▸ hO t
    refine s_skip (hK2 _ ?_)
    refine s_seq fun K3 hK3 => ?_
    refine s_block ?_
    have hN : ∀ {L : List LV} {R : List Res} {M : World → Prop}, ∀ G S w, View G S L R (fun w => (d.F m w ∧ Rd 1 eWd d.AX 64 x w)) M w → Rd 1 eWd d.AN 12 n256 w := fun {_ _ _} _ _ _ hv => hv.fact.1.1
    have hX : ∀ {L : List LV} {R : List Res} {M : World → Prop}, ∀ G S w, View G S L R (fun w => (d.F m w ∧ Rd 1 eWd d.AX 64 x w)) M w → Rd 1 eWd d.AX 64 x w := fun {_ _ _} _ _ _ hv => hv.fact.2
    have hF := hlt t
    have hK := cbs_lt (t := t) (by omega)
    have e1 := bigw_lt (w := 32) (t := (6, 11, 25)) (by decide) be
    have e0 := bigw_lt (w := 32) (t := (2, 13, 22)) (by decide) ba
    have ec := chw_lt (w := 32) (f := q.f) (g := q.g) be
    have em := maw_lt (w := 32) (c := q.c) ba bb
    generalize hT1 : q.h + bigw 32 (6, 11, 25) q.e + chw 32 q.e q.f q.g + cbs[t]! / 4294967296 + F t = T1
    generalize hT2 : bigw 32 (2, 13, 22) q.a + maw q.a q.b q.c = T2
    have b1 : T1 < 9000000000000000000 := by omega
    have b2 : T2 < 9000000000000000000 := by omega
    refine s_N 19 [] (by kernel_rfl) fun K hK G S w0 hst => ?_
    refine n_auto2 hst rfl (n_elem (fe := eWd) (l := q.list) hst rfl rfl rfl 4 rfl rfl rfl rfl (rd_own 0 rfl) ?_)
    refine n_auto2 hst rfl (n_elem (fe := eWd) (l := q.list) hst rfl rfl rfl 5 rfl rfl rfl rfl (rd_own 0 rfl) ?_)
    refine n_auto2 hst rfl (n_elem (fe := eWd) (l := q.list) hst rfl rfl rfl 4 rfl rfl rfl rfl (rd_own 0 rfl) ?_)
    refine n_auto2 hst rfl (n_num 207 ((2 ^ 64 - 1 - q.e : Nat) : Int) rfl (k64.not (lt64 be)) (n_X hst (rcut_C _) rfl fun _ => ?_))
    refine n_auto2 hst rfl (n_elem (fe := eWd) (l := q.list) hst rfl rfl rfl 6 rfl rfl rfl rfl (rd_own 0 rfl) ?_)
    refine n_auto2 hst rfl (n_num 21 _ rfl (u_ch be bf bg) (n_N hst rfl hK rfl ?_))
    refine s_N 24 [] (by kernel_rfl) fun K hK G S w0 hst => ?_
    refine n_auto2 hst rfl (n_elem (fe := eWd) (l := q.list) hst rfl rfl rfl 0 rfl rfl rfl rfl (rd_own 0 rfl) ?_)
    refine n_auto2 hst rfl (n_elem (fe := eWd) (l := q.list) hst rfl rfl rfl 1 rfl rfl rfl rfl (rd_own 0 rfl) ?_)
    refine n_auto2 hst rfl (n_elem (fe := eWd) (l := q.list) hst rfl rfl rfl 0 rfl rfl rfl rfl (rd_own 0 rfl) ?_)
    refine n_auto2 hst rfl (n_elem (fe := eWd) (l := q.list) hst rfl rfl rfl 2 rfl rfl rfl rfl (rd_own 0 rfl) ?_)
    refine n_auto2 hst rfl (n_elem (fe := eWd) (l := q.list) hst rfl rfl rfl 1 rfl rfl rfl rfl (rd_own 0 rfl) ?_)
    refine n_auto2 hst rfl (n_elem (fe := eWd) (l := q.list) hst rfl rfl rfl 2 rfl rfl rfl rfl (rd_own 0 rfl) ?_)
    refine n_auto2 hst rfl (n_num 22 _ rfl (u_ma ba bb bc) (n_N hst rfl hK rfl ?_))
    refine s_N 32 [] (by kernel_rfl) fun K hK G S w0 hst => ?_
    refine n_auto2 hst rfl (n_elem (fe := eWd) (l := q.list) hst rfl rfl rfl 7 rfl rfl rfl rfl (rd_own 0 rfl) ?_)
    refine n_auto2 hst rfl (n_elem (fe := eWd) (l := q.list) hst rfl rfl rfl 4 rfl rfl rfl rfl (rd_own 0 rfl) ?_)
    refine n_auto2 hst rfl (n_elem (fe := eWd) (l := n256) hst rfl rfl rfl 3 rfl rfl rfl rfl hN ?_)
    refine n_auto2 hst rfl (n_elem (fe := eWd) (l := n256) hst rfl rfl rfl 4 rfl rfl rfl rfl hN ?_)
    refine n_auto2 hst rfl (n_elem (fe := eWd) (l := n256) hst rfl rfl rfl 5 rfl rfl rfl rfl hN ?_)
    refine n_X hst (rbig_C 6 11 25 be (by decide)) rfl fun _ => n_X hst (rcube_C (i := t) (by omega)) rfl fun _ => ?_
    refine n_auto2 hst rfl (n_elem (fe := eWd) hst rfl rfl rfl t rfl (hx t hlt2) hl.symm rfl hX ?_)
    refine n_auto2 hst rfl (n_num 23 ((T1 : Nat) : Int) rfl (by rw [← hT1]; exact u_t1h (by omega)) (n_N hst rfl hK rfl ?_))
    refine s_N 17 [] (by kernel_rfl) fun K hK G S w0 hst => ?_
    refine n_auto2 hst rfl (n_elem (fe := eWd) (l := q.list) hst rfl rfl rfl 0 rfl rfl rfl rfl (rd_own 0 rfl) ?_)
    refine n_auto2 hst rfl (n_elem (fe := eWd) (l := n256) hst rfl rfl rfl 0 rfl rfl rfl rfl hN ?_)
    refine n_auto2 hst rfl (n_elem (fe := eWd) (l := n256) hst rfl rfl rfl 1 rfl rfl rfl rfl hN ?_)
    refine n_auto2 hst rfl (n_elem (fe := eWd) (l := n256) hst rfl rfl rfl 2 rfl rfl rfl rfl hN ?_)
    refine n_X hst (rbig_C 2 13 22 ba (by decide)) rfl fun _ => ?_
    refine n_auto2 hst rfl (n_num 24 ((T2 : Nat) : Int) rfl (by rw [← hT2]; exact u_add (by omega)) (n_N hst rfl hK rfl ?_))
    refine s_drawnN 30 (by kernel_rfl) fun G S w0 hst => ?_
    refine n_auto2 hst rfl (n_num 287 ((T1 + T2 : Nat) : Int) rfl (u_add (by omega)) (n_X hst (rcut_C _) rfl fun _ => ?_))
    refine n_auto2 hst rfl (n_elem (fe := eWd) (l := q.list) hst rfl rfl rfl 0 rfl rfl rfl rfl (rd_own 0 rfl) ?_)
    refine n_auto2 hst rfl (n_elem (fe := eWd) (l := q.list) hst rfl rfl rfl 1 rfl rfl rfl rfl (rd_own 0 rfl) ?_)
    refine n_auto2 hst rfl (n_elem (fe := eWd) (l := q.list) hst rfl rfl rfl 2 rfl rfl rfl rfl (rd_own 0 rfl) ?_)
    refine n_auto2 hst rfl (n_elem (fe := eWd) (l := q.list) hst rfl rfl rfl 3 rfl rfl rfl rfl (rd_own 0 rfl) ?_)
    refine n_auto2 hst rfl (n_num 303 ((q.d + T1 : Nat) : Int) rfl (u_add (by omega)) (n_X hst (rcut_C _) rfl fun _ => ?_))
    refine n_auto2 hst rfl (n_elem (fe := eWd) (l := q.list) hst rfl rfl rfl 4 rfl rfl rfl rfl (rd_own 0 rfl) ?_)
    refine n_auto2 hst rfl (n_elem (fe := eWd) (l := q.list) hst rfl rfl rfl 5 rfl rfl rfl rfl (rd_own 0 rfl) ?_)
    refine n_auto2 hst rfl (n_elem (fe := eWd) (l := q.list) hst rfl rfl rfl 6 rfl rfl rfl rfl (rd_own 0 rfl) ?_)
    refine n_L hst rfl (l_list TY_ok B.B.heap.size (fe := eWd) (Oct.list ⟨(T1 + T2) % 4294967296, q.a, q.b, q.c, (q.d + T1) % 4294967296, q.e, q.f, q.g⟩) rfl rfl rfl rfl rfl (fun _ => rfl) rfl (by decide) (by decide) (okF_U _) (Nat.le_refl _) fun A2 => ?_)
    refine l_free 1 rfl (l_E rfl (hK3 _ ?_))
    refine s_autoE TY_ok rfl ?_
    exact k_next (t + 1, A2, 8, ⟨(T1 + T2) % 4294967296, q.a, q.b, q.c, (q.d + T1) % 4294967296, q.e, q.f, q.g⟩) ⟨hlt2, by
      show _ = R (t + 1)
      rw [hstep, ← hq, ← hT1, ← hT2]
      rfl⟩ (by show 64 - (t + 1) < 64 - t; omega) ⟨⟨congrArg (fun x => some (SV.v (.int .i64 x))) (addI t 1 (by omega)), rfl, rfl, rfl, rfl, rfl, rfl, rfl, rfl, rfl, trivial⟩, trivial, .refl _, fun _ h _ => h.2, fun _ h => h⟩
  · obtain rfl : t = 64 := by omega
    refine s_exit (k_pass (k_pass (k_out ?_)))
    subst hq
    exact k_weak (e' := DRo B d m h x (64, A, c, R 64)) ⟨⟨rfl, rfl, rfl, rfl, rfl, rfl, rfl, rfl, rfl, rfl, trivial⟩, trivial, .refl _, fun _ h _ => h, fun _ h => h⟩ (hend A c)
end Go.Proofs.YtcbfalfkdnfelaaDoor
/-
  THE DOCUMENT'S OWN DIGESTS, over states: Digest with words of 32 bits: a block's words.
-/
namespace Go.Proofs.YtcbfalfkdnfelaaDoor
open Go.RowKit Go.IntWalk Nums

def y64 : List Nat := List.replicate 64 0
theorem y64_len : y64.length = 64 := by decide
theorem y64_get (k : Nat) : y64[k]! = 0 := by
  unfold y64
  by_cases h : k < 64
  · rw [getElem!_pos _ k (by rw [List.length_replicate]; exact h), List.getElem_replicate]
  · rw [getElem!_neg _ k (by rw [List.length_replicate]; exact h)]
    rfl
theorem set_zero64 {F : Nat → Nat} {k : Nat} : (mxl F y64 k).set k 0 = mxl F y64 k := by
  apply List.ext_getElem (by simp)
  intro i h1 h2
  rw [List.getElem_set]
  by_cases h : k = i
  · subst h
    have h3 : k < 64 := by simpa [mxl_len, y64_len] using h2
    rw [if_pos rfl]
    have := mxl_get F y64 (k := k) (by rw [y64_len]; exact h3)
    rw [getElem!_pos _ k h2, y64_get] at this
    exact this.symm
  · rw [if_neg h]
theorem mx64 {F : Nat → Nat} {t j : Nat} (h : j < t) (hj : j < 64) : (mxl F y64 t)[j]? = some (F j) := by
  have hl : j < (mxl F y64 t).length := by rw [mxl_len, y64_len]; exact hj
  rw [List.getElem?_eq_getElem hl, ← getElem!_pos _ j hl, mxl_in h (by rw [y64_len]; exact hj)]
theorem mx64_len (F : Nat → Nat) (t : Nat) : (mxl F y64 t).length = 64 := by rw [mxl_len, y64_len]
/-- The block's words are made. -/
abbrev DW (B : Base) (d : DX) (m : List UInt8) (h : List Nat) (E : SE) (x : List Nat) : Env := ⟨E ++ d.E, [], [ownU B d.AX 64 x, ownU B d.AH 8 h], d.F m, fun _ => True⟩
theorem sched_S {B : Base} {Q : Exit → Act → World → Prop} (d : DX) {m : List UInt8} {h : List Nat} (F : Nat → Nat) (hlt : ∀ t, F t < 4294967296)
    (hrec : ∀ t, 16 ≤ t → F t = (loww 32 (17, 19, 10) (F (t - 2)) + F (t - 7) + loww 32 (7, 18, 3) (F (t - 15)) + F (t - 16)) % 4294967296)
    (hend : kS B (Q .normal) 359 (DW B d m h [(18, .v (.int .i64 ((64 : Nat) : Int)))] (mxl F y64 64))) : cS Tryd.prog B (.loop (dlo 6)) (Exit.inBlock 12 Q) 359 (DW B d m h [(18, .v (.int .i64 ((16 : Nat) : Int)))] (mxl F y64 16)) := by
  refine s_loop (fun s => 64 - s) (fun s : Nat => DW B d m h [(18, .v (.int .i64 (s : Int)))] (mxl F y64 s)) (fun s => 16 ≤ s ∧ s ≤ 64) ?_ 16 ⟨Nat.le_refl _, Nat.le_of_ble_eq_true rfl⟩
  rintro t ⟨ht0, ht⟩
  conv => arg 3; whnf
  refine s_seq fun K2 hK2 => ?_
  refine s_auto TY_ok rfl ?_
  refine s_ifD ((t : Int) < 64) rfl (fun hlt2 => ?_) (fun hge => ?_)
  · have hlt2 : t < 64 := by omega
    have hN : ∀ {L : List LV} {R : List Res} {M : World → Prop}, ∀ G S w, View G S L R (d.F m) M w → Rd 1 eWd d.AN 12 n256 w := fun {_ _ _} _ _ _ hv => hv.fact.1
    have b1 : loww 32 (17, 19, 10) (F (t - 2)) < 4294967296 := loww_lt (w := 32) (by decide) (hlt _)
    have b2 : loww 32 (7, 18, 3) (F (t - 15)) < 4294967296 := loww_lt (w := 32) (by decide) (hlt _)
    have b3 := hlt (t - 7)
    have b4 := hlt (t - 16)
    refine s_skip (hK2 _ ?_)
    refine s_seq fun K3 hK3 => ?_
    refine s_block ?_
    refine s_drawnN 49 (by kernel_rfl) fun G S w0 hst => ?_
    refine n_auto2 hst rfl (n_num 143 ((t - 2 : Nat) : Int) rfl (subI t 2 (by omega) (by omega)) (n_elem (fe := eWd) hst rfl rfl rfl (t - 2) rfl (mx64 (by omega) (by omega)) (mx64_len F t).symm rfl (rd_own 0 rfl) ?_))
    refine n_auto2 hst rfl (n_elem (fe := eWd) (l := n256) hst rfl rfl rfl 9 rfl rfl rfl rfl hN ?_)
    refine n_auto2 hst rfl (n_elem (fe := eWd) (l := n256) hst rfl rfl rfl 10 rfl rfl rfl rfl hN ?_)
    refine n_auto2 hst rfl (n_elem (fe := eWd) (l := n256) hst rfl rfl rfl 11 rfl rfl rfl rfl hN ?_)
    refine n_X hst (rlow_C 17 19 10 (hlt (t - 2)) (by decide)) rfl fun _ => ?_
    refine n_auto2 hst rfl (n_num 159 ((t - 7 : Nat) : Int) rfl (subI t 7 (by omega) (by omega)) (n_elem (fe := eWd) hst rfl rfl rfl (t - 7) rfl (mx64 (by omega) (by omega)) (mx64_len F t).symm rfl (rd_own 0 rfl) ?_))
    refine n_auto2 hst rfl (n_num 165 ((t - 15 : Nat) : Int) rfl (subI t 15 (by omega) (by omega)) (n_elem (fe := eWd) hst rfl rfl rfl (t - 15) rfl (mx64 (by omega) (by omega)) (mx64_len F t).symm rfl (rd_own 0 rfl) ?_))
    refine n_auto2 hst rfl (n_elem (fe := eWd) (l := n256) hst rfl rfl rfl 6 rfl rfl rfl rfl hN ?_)
    refine n_auto2 hst rfl (n_elem (fe := eWd) (l := n256) hst rfl rfl rfl 7 rfl rfl rfl rfl hN ?_)
    refine n_auto2 hst rfl (n_elem (fe := eWd) (l := n256) hst rfl rfl rfl 8 rfl rfl rfl rfl hN ?_)
    refine n_X hst (rlow_C 7 18 3 (hlt (t - 15)) (by decide)) rfl fun _ => ?_
    refine n_auto2 hst rfl (n_num 182 ((t - 16 : Nat) : Int) rfl (subI t 16 (by omega) (by omega)) (n_elem (fe := eWd) hst rfl rfl rfl (t - 16) rfl (mx64 (by omega) (by omega)) (mx64_len F t).symm rfl (rd_own 0 rfl) ?_))
    refine n_auto2 hst rfl (n_num 185 _ rfl (u_s4 (by omega)) (n_X hst (rcut_C _) rfl fun _ => n_L hst rfl ?_))
    refine l_place TY_ok 0 (F t) t (fe := eWd) rfl rfl rfl rfl (congrArg eWd (hrec t ht0)) rfl (mx64_len F t).symm rfl (by rw [mx64_len]; omega) (eWd_ok _) (s_end (hK3 _ ?_))
    rw [mxl_set]
    refine s_autoE TY_ok rfl ?_
    exact k_next (t + 1) ⟨by omega, hlt2⟩ (by omega) ⟨⟨congrArg (fun x => some (SV.v (.int .i64 x))) (addI t 1 (by omega)), rfl, rfl, rfl, rfl, rfl, rfl, rfl, rfl, trivial⟩, trivial, .refl _, fun _ h _ => h, fun _ h => h⟩
  · obtain rfl : t = 64 := by omega
    exact s_exit (k_pass (k_pass (k_out (k_weak (e' := DW B d m h [(18, .v (.int .i64 ((64 : Nat) : Int)))] (mxl F y64 64)) ⟨⟨rfl, rfl, rfl, rfl, rfl, rfl, rfl, rfl, rfl, trivial⟩, trivial, .refl _, fun _ h _ => h, fun _ h => h⟩ hend))))
theorem ben_add {f : Nat → Nat} {k : Nat} (hk : k < 4) (hf : ∀ j, f j < 256) : IntKind.u64.wrap (IntKind.u64.wrap ((ben f k : Int) * 256) + IntKind.u64.wrap (f k : Int)) = ((ben f (k + 1) : Nat) : Int) := by
  have h1 := ben_lt hf k
  have h2 := Nat.pow_le_pow_right (n := 256) (by decide) (show k ≤ 3 by omega)
  have h3 := hf k
  rw [show (256 : Nat) ^ 3 = 16777216 by decide] at h2
  rw [show ((ben f k : Int) * 256) = ((ben f k * 256 : Nat) : Int) from rfl, wrapN _ (by omega), wrapN _ (by omega), u_add (by omega)]
  rfl
theorem words_S {B : Base} {Q : Exit → Act → World → Prop} (d : DX) {m : List UInt8} {h : List Nat} (F : Nat → Nat) (hlm : d.lm = m.length) (hm : d.a + 64 ≤ m.length) (hmax : m.length < 4611686018427387904)
    (hF : ∀ t, t < 16 → F t = ben (fun k => (m[d.a + t * 4 + k]!).toNat) 4)
    (hend : kS B (Q .normal) 359 (DW B d m h [(16, .v (.int .i64 ((16 : Nat) : Int)))] (mxl F y64 16))) : cS Tryd.prog B (.loop (dlo 4)) (Exit.inBlock 8 Q) 359 (DW B d m h [(16, .v (.int .i64 ((0 : Nat) : Int)))] (mxl F y64 0)) := by
  refine s_loop (fun s => 16 - s) (fun s : Nat => DW B d m h [(16, .v (.int .i64 (s : Int)))] (mxl F y64 s)) (fun s => s ≤ 16) ?_ 0 (Nat.zero_le _)
  rintro t ht
  conv => arg 3; whnf
  refine s_seq fun K2 hK2 => ?_
  refine s_auto TY_ok rfl ?_
  refine s_ifD ((t : Int) < 16) rfl (fun hlt2 => ?_) (fun hge => ?_)
  · have hlt2 : t < 16 := by omega
    have hlen : ∀ v, ((mxl F y64 t).set t v).length = 64 := fun v => by rw [List.length_set, mx64_len]
    refine s_skip (hK2 _ ?_)
    refine s_seq fun K3 hK3 => ?_
    refine s_block ?_
    refine s_auto TY_ok rfl ?_
    refine s_block ?_
    let P : Nat × List Nat → Env := fun s => DW B d m h [(17, .v (.int .i64 (s.1 : Int))), (16, .v (.int .i64 (t : Int)))] s.2
    refine c_weak (e' := P (0, mxl F y64 t)) ⟨⟨rfl, rfl, rfl, rfl, rfl, rfl, rfl, rfl, rfl, rfl, trivial⟩, trivial, .refl _, fun _ h _ => h, fun _ h => h⟩ (s_loop (fun s => 4 - s.1) P (fun s => s.1 ≤ 4 ∧ s.2 = (mxl F y64 t).set t (ben (fun k => (m[d.a + t * 4 + k]!).toNat) s.1)) ?_ (0, mxl F y64 t) ⟨Nat.zero_le _, set_zero64.symm⟩)
    rintro ⟨k, x⟩ ⟨hk, hx⟩
    dsimp only at hk hx
    subst hx
    refine s_seq fun K4 hK4 => ?_
    refine s_auto TY_ok rfl ?_
    refine s_ifD ((k : Int) < 4) rfl (fun hlt3 => ?_) (fun hge => ?_)
    · have hlt3 : k < 4 := by omega
      refine s_skip (hK4 _ ?_)
      refine s_seq fun K5 hK5 => ?_
      refine s_block ?_
      refine s_drawnN 19 (by kernel_rfl) fun G S w0 hst => ?_
      refine n_auto2 hst rfl (n_elem (fe := eWd) hst rfl rfl rfl t rfl (List.getElem?_set_self (by rw [mx64_len]; omega)) (hlen _).symm rfl (rd_own 0 rfl) ?_)
      refine n_auto2 hst rfl (n_num 128 ((d.a + t * 4 + k : Nat) : Int) rfl (by
        show IntKind.i64.wrap (IntKind.i64.wrap ((d.a : Int) + IntKind.i64.wrap ((t : Int) * ((4 : Nat) : Int))) + (k : Int)) = _
        rw [mulI t 4 (by omega), addI _ _ (by omega), addI _ _ (by omega)]) ?_)
      refine n_elem (fe := eB) (l := m) hst rfl rfl rfl (d.a + t * 4 + k) rfl (x := m[d.a + t * 4 + k]!) (by rw [getElem!_pos m _ (by omega), List.getElem?_eq_getElem (by omega)]) hlm rfl (fun _ _ _ hv => hv.fact.2) ?_
      refine n_auto2 hst rfl (n_num 132 _ rfl (ben_add (f := fun k => (m[d.a + t * 4 + k]!).toNat) hlt3 fun j => UInt8.toNat_lt _) (n_L hst rfl ?_))
      refine l_place TY_ok 0 (ben (fun k => (m[d.a + t * 4 + k]!).toNat) (k + 1)) t (fe := eWd) rfl rfl rfl rfl rfl rfl (hlen _).symm rfl (by rw [hlen]; omega) (eWd_ok _) (s_end (hK5 _ ?_))
      rw [List.set_set]
      refine s_autoE TY_ok rfl ?_
      exact k_next (k + 1, _) ⟨hlt3, rfl⟩ (by show 4 - (k + 1) < 4 - k; omega) ⟨⟨congrArg (fun x => some (SV.v (.int .i64 x))) (addI k 1 (by omega)), rfl, rfl, rfl, rfl, rfl, rfl, rfl, rfl, rfl, trivial⟩, trivial, .refl _, fun _ h _ => h, fun _ h => h⟩
    · obtain rfl : k = 4 := by omega
      refine s_exit (k_pass (k_pass (k_out (hK3 _ ?_))))
      dsimp only
      rw [← hF t hlt2, mxl_set]
      refine s_autoE TY_ok rfl ?_
      exact k_next (t + 1) hlt2 (by omega) ⟨⟨congrArg (fun x => some (SV.v (.int .i64 x))) (addI t 1 (by omega)), rfl, rfl, rfl, rfl, rfl, rfl, rfl, rfl, trivial⟩, trivial, .refl _, fun _ h _ => h, fun _ h => h⟩
  · obtain rfl : t = 16 := by omega
    exact s_exit (k_pass (k_pass (k_out (k_weak (e' := DW B d m h [(16, .v (.int .i64 ((16 : Nat) : Int)))] (mxl F y64 16)) ⟨⟨rfl, rfl, rfl, rfl, rfl, rfl, rfl, rfl, rfl, trivial⟩, trivial, .refl _, fun _ h _ => h, fun _ h => h⟩ hend))))
end Go.Proofs.YtcbfalfkdnfelaaDoor
