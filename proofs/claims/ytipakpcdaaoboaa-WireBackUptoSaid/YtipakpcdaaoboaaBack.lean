/-
  THE WALK OF WireBack.
-/
import Derived.Test.YtipakpcdaaoboaaItems
import Derived.Test.YtipakpcdaaoboaaRef
import Derived.Test.YtipakpcdaaoboaaBounds
import Derived.Deep.RegionWith
import Derived.Deep.DeepCutAuto
namespace Go.Proofs.Ytipakpcdaaoboaa
open Go.RowKit

/-- uint(K) % 5. -/
def kd (K : Int) : Nat := (K % 18446744073709551616 % 5).toNat
theorem kd_eq (K : Int) : (IntKind.u64.wrap K).tmod 5 = (kd K : Int) := by
  have e : IntKind.u64.wrap K = K % 18446744073709551616 := by simp [IntKind.wrap, IntKind.bits, IntKind.signed]
  have h0 : 0 ≤ K % 18446744073709551616 := by omega
  rw [e, Int.tmod_eq_emod_of_nonneg h0]
  unfold kd
  omega
theorem kd_lt (K : Int) : kd K < 5 := by unfold kd; omega
theorem k_yes (K : Int) (j : Nat) (h : kd K = j) : ((IntKind.u64.wrap K).tmod 5 == (j : Int)) = true := by
  rw [kd_eq, beq_iff_eq]
  omega
theorem k_no (K : Int) (j i : Nat) (h : kd K = j) (hne : j ≠ i) : ((IntKind.u64.wrap K).tmod 5 == (i : Int)) = false := by
  rw [kd_eq, beq_eq_false_iff_ne]
  omega

/-- How an item is written. -/
def e1 (x : It) : List UInt8 :=
  if kd x.1 = 0 then be8 x.2.1 else if kd x.1 = 1 then be8 x.2.2.length ++ x.2.2 else if kd x.1 = 2 then pad 32 (x.2.2.take 32) else if kd x.1 = 3 then pad 64 (x.2.2.take 64) else be8 (x.2.1 % 65537)
theorem e1_0 {x : It} (h : kd x.1 = 0) : e1 x = be8 x.2.1 := by simp [e1, h]
theorem e1_1 {x : It} (h : kd x.1 = 1) : e1 x = be8 x.2.2.length ++ x.2.2 := by simp [e1, h]
theorem e1_2 {x : It} (h : kd x.1 = 2) : e1 x = pad 32 (x.2.2.take 32) := by simp [e1, h]
theorem e1_3 {x : It} (h : kd x.1 = 3) : e1 x = pad 64 (x.2.2.take 64) := by simp [e1, h]
theorem e1_4 {x : It} (h : kd x.1 = 4) : e1 x = be8 (x.2.1 % 65537) := by simp [e1, h]

def E (L : List It) : List UInt8 := (L.map e1).flatten
theorem E_succ (L : List It) (k : Nat) (h : k < L.length) : E (L.take (k + 1)) = E (L.take k) ++ e1 L[k] := by
  rw [List.take_succ_eq_append_getElem h]
  simp only [E, List.map_append, List.map_cons, List.map_nil, List.flatten_append, List.flatten_cons, List.flatten_nil, List.append_nil]
theorem E_drop (L : List It) (k : Nat) (h : k < L.length) : E (L.drop k) = e1 L[k] ++ E (L.drop (k + 1)) := by
  rw [List.drop_eq_getElem_cons h]
  simp only [E, List.map_cons, List.flatten_cons]
theorem e1_len (x : It) (h : x.2.2.length ≤ 1048576) : (e1 x).length ≤ 1048640 := by
  unfold e1
  have h32 := pad_len 32 (x.2.2.take 32) (by rw [List.length_take]; omega)
  have h64 := pad_len 64 (x.2.2.take 64) (by rw [List.length_take]; omega)
  repeat' split
  all_goals first | (rw [be8_len]; omega) | (rw [List.length_append, be8_len]; omega) | omega
theorem E_len : ∀ (L : List It), (∀ x ∈ L, x.2.2.length ≤ 1048576) → (E L).length ≤ L.length * 1048640
  | [], _ => by simp [E]
  | x :: L, h => by
    have h1 := e1_len x (h x (by simp))
    have h2 := E_len L (fun y hy => h y (by simp [hy]))
    have e : (E (x :: L)).length = (e1 x).length + (E L).length := by simp only [E, List.map_cons, List.flatten_cons, List.length_append]
    rw [e, List.length_cons, Nat.succ_mul]
    omega

theorem add_1_ (p : Addr) : p.add 1 = ⟨p.block, p.off + 1, none⟩ := rfl
theorem add_2_ (p : Addr) : p.add 2 = ⟨p.block, p.off + 2, none⟩ := rfl

theorem Items.below {w w' : World} {hi B : Nat} {A : Option Addr} {L : List It} (h : Items w hi A L) (hb : Below B w w') (hB : hi ≤ B) : Items w' hi A L := fun hl => by
  obtain ⟨ad, rfl, ha, hc⟩ := h hl
  refine ⟨ad, rfl, ha, fun i x hx => ?_⟩
  obtain ⟨X, c, h0, h1, h2, h3, h4⟩ := hc i x hx
  have hk : ∀ j, w'.cell? (ad.add j) = w.cell? (ad.add j) := fun j => hb.cell (by rw [block_add]; omega)
  exact ⟨X, c, by rw [hk]; exact h0, by rw [hk]; exact h1, by rw [hk]; exact h2, h3.below hb hB, h4⟩
theorem Items.take {w : World} {hi : Nat} {A : Option Addr} {L : List It} (h : Items w hi A L) (k : Nat) : Items w hi A (L.take k) := fun hl => by
  obtain ⟨ad, rfl, ha, hc⟩ := h (by simp at hl; omega)
  refine ⟨ad, rfl, ha, fun i x hx => hc i x ?_⟩
  rw [List.getElem?_take] at hx
  split at hx
  · exact hx
  · cases hx

theorem OW.below {w w' : World} {base c : Nat} {A : Option Addr} {l : List UInt8} (h : OW w base A l c) (hb : Below w.heap.size w w') : OW w' base A l c :=
  World.ownsRow.kept (row := none) h ⟨hb.os, hb.tape, hb.output, hb.size, fun k hk _ => hb.block k hk⟩ (by cases A <;> simp [Value.ownBlock])

theorem OW.lt {w : World} {base c : Nat} {A : Option Addr} {l : List UInt8} (h : OW w base A l c) {g : Nat} (hg : A.map (·.block) = some g) : base ≤ g ∧ g < w.heap.size :=
  World.ownsRow.lt h g (by cases A with | none => cases hg | some a => simpa [Value.ownBlock] using hg)

theorem OW.far {w w' : World} {base c : Nat} {A : Option Addr} {l : List UInt8} {row : Option Nat} (h : OW w base A l c) (hg : w.grownBy w' row) (hne : A.map (·.block) = none ∨ A.map (·.block) ≠ row) : OW w' base A l c :=
  World.ownsRow.kept h hg (by cases A with | none => exact .inl rfl | some a => simpa [Value.ownBlock] using hne)

theorem E_take {w : World} {hi : Nat} {A : Option Addr} {M : List It} (h : Items w hi A M) (hm : M.length ≤ 40) (k : Nat) : (E (M.take k)).length ≤ 41945600 := by
  have hall : ∀ x ∈ M.take k, x.2.2.length ≤ 1048576 := fun x hx => by
    obtain ⟨i, hi, rfl⟩ := List.getElem_of_mem (List.mem_of_mem_take hx)
    obtain ⟨ad, _, _, hc⟩ := h (by omega)
    obtain ⟨X, c, _, _, _, _, _, h5⟩ := hc i M[i] (List.getElem?_eq_getElem hi)
    exact h5
  have h1 := E_len (M.take k) hall
  have h2 : (M.take k).length ≤ 40 := by rw [List.length_take]; omega
  have h3 : (M.take k).length * 1048640 ≤ 40 * 1048640 := Nat.mul_le_mul_right _ h2
  omega

theorem st_take {w : World} {lo hi c : Nat} {A : Option Addr} {l ext : List UInt8} (h : SL w lo hi A (l ++ ext) c) : SL w lo hi A l c := by
  have := h.take l.length
  rwa [List.take_left' rfl] at this

/-- What a round's two writings leave. -/
theorem st_next {w wq w2 w3 w4 : World} {l ext : List UInt8} {Y Y' : Option Addr} {g : Nat} (hb1 : Below w.heap.size w wq) (hY : ∀ y, Y.map (·.block) = some y → w.heap.size ≤ y ∧ y < wq.heap.size)
    (ho2 : w2.ownsRow wq.heap.size 5 1 (.slice (some ⟨g, 0, none⟩) (l ++ ext).length (l ++ ext).length) (l ++ ext).length (By (l ++ ext))) (hb2 : Below wq.heap.size wq w2) (hb3 : Below w2.heap.size w2 w3)
    (hg4 : w3.grownBy w4 (Y.map (·.block))) (hat4 : Y'.map (·.block) = Y.map (·.block) ∨ Y'.map (·.block) = some w3.heap.size) :
    OW w4 w.heap.size (some ⟨g, 0, none⟩) (l ++ ext) (l ++ ext).length ∧ (∀ g', (some (⟨g, 0, none⟩ : Addr)).map (·.block) = some g' → Y'.map (·.block) ≠ some g') ∧ Below w.heap.size w w4 := by
  have hg : wq.heap.size ≤ g ∧ g < w2.heap.size := OW.lt (A := some ⟨g, 0, none⟩) ho2 rfl
  have ho3 := OW.below (A := some ⟨g, 0, none⟩) ho2 hb3
  have ho4 := OW.far ho3 hg4 (.inr (fun e => by have := hY g e.symm; omega))
  refine ⟨own_base ho4 hb1.size, ?_, ((hb1.trans (hb2.mono hb1.size)).trans (hb3.mono (Nat.le_trans hb1.size hb2.size))).grown hg4 (Nat.le_trans hb1.size (Nat.le_trans hb2.size hb3.size)) (fun y hy => (hY y hy).1)⟩
  intro g' e h
  simp at e
  subst e
  rcases hat4 with e | e
  · rw [e] at h
    have := hY _ h
    omega
  · rw [e] at h
    injection h with h
    have := hb3.size
    omega

theorem str_size (l : List UInt8) : (str l).size = l.length := by simp [str, ByteArray.size]

theorem Rdr.far {w : World} {lo r f : Nat} {l : List UInt8} (h : Rdr w lo r l f) {p : Addr} (hp : p.block < lo) (hlo : lo ≤ r) (u : Value) : Rdr (w.setCell p u) lo r l f := by
  obtain ⟨A, c, hk, h1⟩ := h
  exact ⟨A, c, hk.far (by omega) u, h1.setCell (.inl hp) u⟩

theorem Rdr.drw {w : World} {lo r f : Nat} {l : List UInt8} (h : Rdr w lo r l f) : Rdr w.drew lo r l f := h

theorem conv_len {w : World} {lo hi n : Nat} {A : Option Addr} {l : List UInt8} (hl : l.length = n) (h : SL w lo hi A l l.length) : (convert 24 9 (.slice A n n)).run Try.prog w = .ok (.string (str l)) w := by
  subst hl
  exact conv_any h

/-- The bytes that are written over: a row of the call's own, or nothing. -/
def Mine (w : World) (lo hi : Nat) (A : Option Addr) (n : Nat) : Prop :=
  0 < n → ∃ g cs, A = some ⟨g, 0, none⟩ ∧ Blk w g 5 cs ∧ n ≤ cs.size ∧ lo ≤ g ∧ g < hi

theorem OW.mine {w : World} {base hi c : Nat} {A : Option Addr} {l : List UInt8} (h : OW w base A l c) (hh : ∀ g, A.map (·.block) = some g → g < hi) : Mine w base hi A l.length := fun hl => by
  rcases h.2 with ⟨_, hn⟩ | ⟨g, cap, cur, hv, hg, hk, hn, hcap, hsz, _⟩
  · omega
  · injection hv with hA _ _
    subst hA
    exact ⟨g, cur, rfl, hk, by omega, hg, hh g rfl⟩

theorem num_0 {K : Int} {N : Nat} {B rest : List UInt8} (h : kd K = 0) (hn : N < 18446744073709551616) : num (e1 (K, N, B) ++ rest) 0 = (N, rest, 0) := by
  rw [e1_0 (x := (K, N, B)) h]
  exact num_be8 N rest hn
theorem byts_1 {K : Int} {N : Nat} {B rest : List UInt8} (h : kd K = 1) (hl : B.length ≤ 1048576) : byts (e1 (K, N, B) ++ rest) 0 = (B, rest, 0) := by
  rw [e1_1 (x := (K, N, B)) h]
  have h1 := num_be8 B.length (B ++ rest) (by omega)
  rw [← List.append_assoc] at h1
  have h2 : most (be8 B.length ++ B ++ rest) 0 1048576 = (B.length, B ++ rest, 0) := by
    unfold most
    rw [h1, if_neg (show ¬ 1048576 < B.length by omega)]
  unfold byts
  rw [h2, tk_ok (by simp)]
  simp
theorem tk_23 {n : Nat} {F rest : List UInt8} (h : F.length = n) : tk (F ++ rest) 0 n = (F, rest, 0) := by
  rw [tk_ok (by simp; omega), List.take_left' h, List.drop_left' h]
theorem pad_self {n : Nat} {F : List UInt8} (h : F.length = n) : pad n F = F := by
  unfold pad
  rw [h, Nat.sub_self]
  simp
theorem most_4 {K : Int} {N : Nat} {B rest : List UInt8} (h : kd K = 4) : most (e1 (K, N, B) ++ rest) 0 65536 = (N % 65537, rest, 0) := by
  rw [e1_4 (x := (K, N, B)) h]
  have h1 := num_be8 (N % 65537) rest (by omega)
  unfold most
  rw [h1, if_neg (show ¬ 65536 < N % 65537 by omega)]

set_option maxRecDepth 100000 in
set_option maxHeartbeats 20000000 in
theorem back_walk (A : Option Addr) (L : List It) (c : Nat) (w : World) (hL : Items w w.heap.size A L) (hc : L.length ≤ c) (hm : c ≤ 9223372036854775807) :
    Calls Try.prog 3 #[.slice A L.length c] w fun e w' => e = .returned (.bool true) ∧ Below w.heap.size w w' := by
  have hbase : ∀ M : List It, M = L.take 40 → M.length ≤ 40 ∧ Items w w.heap.size A M ∧ M.length ≤ c := fun M e => by
    subst e
    exact ⟨by simp; omega, hL.take 40, by simp; omega⟩
  go_enter Try.func3, Try.ntmps3
  go_wp2_with (fail)
  refine (first_any w).mono ?_
  rintro e w0 ⟨rfl, hb0⟩
  have hz0 := hb0.size
  go_upto_region 3 with (fail)
  go_cut [3] (fun v wx => ∃ M : List It, v = .slice A M.length c ∧ M.length ≤ 40 ∧ Items w w.heap.size A M ∧ M.length ≤ c ∧ wx = w0)
  case first =>
    obtain ⟨M, hM⟩ : ∃ M : List It, M = L.take 40 := ⟨_, rfl⟩
    obtain ⟨hm40, hit, hmc⟩ := hbase M hM
    have HB := Lib.hid (And.intro hm40 (And.intro hit hmc))
    have HM := Lib.hid hM
    clear hbase hM hL hit hmc hm40
    by_cases h40 : L.length ≤ 40
    all_goals go_wp2_with (fail)
    · go_meet
      have hE : M.length = L.length := by (rw [HM.out]; simp; omega)
      exact ⟨M, by rw [hE], HB.out.1, HB.out.2.1, HB.out.2.2, rfl⟩
    · go_meet
      have hE : M.length = 40 := by (rw [HM.out]; simp; omega)
      exact ⟨M, by rw [hE], HB.out.1, HB.out.2.1, HB.out.2.2, rfl⟩
  case rest =>
    obtain ⟨M, rfl, hm40, hit, hmc, rfl⟩ := hcut
    clear hbase hL hc
    go_wp2_with (fail)
    have hEM := E_take hit hm40
    go_loopw [4, 5, 7, 8, 25] (fun b q _ _ i wr => ∃ k X cx Y cy, k ≤ M.length ∧ i = .int .i64 ((k : Nat) : Int) ∧ b = .slice X (E (M.take k)).length cx ∧ q = .slice Y (E (M.take k)).length cy ∧
      OW wr w.heap.size X (E (M.take k)) cx ∧ OW wr w.heap.size Y (E (M.take k)) cy ∧ (∀ g, X.map (·.block) = some g → Y.map (·.block) ≠ some g) ∧ Below w.heap.size w wr) (fun _ _ _ _ i _ => M.length - (intOf i).toNat)
    case atStart => exact ⟨0, none, 0, none, 0, Nat.zero_le _, rfl, rfl, rfl, OW.nil _ _, OW.nil _ _, by simp, hb0⟩
    case round =>
      obtain ⟨k, X, cx, Y, cy, hk, rfl, rfl, rfl, hox, hoy, hne, hb⟩ := hrel
      by_cases hlt : k < M.length
      · obtain ⟨ad, rfl, had, hcell⟩ := hit (by omega)
        obtain ⟨Z, cz, h0, h1, h2, hsz, hn, hl20⟩ := hcell k M[k] (List.getElem?_eq_getElem hlt)
        have hkk : ∀ j, wr.cell? (ad.add j) = w.cell? (ad.add j) := fun j => hb.cell (by rw [block_add]; omega)
        have h0' := (hkk _).trans h0
        have h1' := (hkk _).trans h1
        have h2' := (hkk _).trans h2
        rw [← add_add', add_1_] at h1'
        rw [← add_add', add_2_] at h2'
        have hE1 := E_succ M k hlt
        have hEk := hEM k
        have hEk1 := hEM (k + 1)
        rw [hE1, List.length_append] at hEk1
        obtain ⟨⟨K, N, B⟩, hx⟩ : ∃ x : It, x = M[k] := ⟨_, rfl⟩
        rw [← hx] at h0' h1' h2' hsz hn hl20 hE1 hEk1
        simp only at h0' h1' h2' hsz hn hl20
        clear hkk h0 h1 h2 hcell hx hne
        have HE := Lib.hid hE1
        clear hE1
        generalize E (M.take k) = l at *
        have hq : Blk (wr.alloc (Obj.cells #[.int .i64 K, .int .u64 N, .slice Z B.length cz] 27)) wr.heap.size 27 #[.int .i64 K, .int .u64 N, .slice Z B.length cz] := Blk.new _ _ _
        have hqw : Below wr.heap.size wr (wr.alloc (Obj.cells #[.int .i64 K, .int .u64 N, .slice Z B.length cz] 27)) := (Below.refl _ _).alloc (Nat.le_refl _) _
        have hox1 := hox.below hqw
        have hoy1 := hoy.below hqw
        have hb1 := hb.trans (hqw.mono hb.size)
        have hsz1 := (hsz.below hb1 (Nat.le_refl _)).more (Nat.le_refl 0) hb1.size
        have hcv := conv_any hox1.sl
        have d0 : (wr.alloc (Obj.cells #[.int .i64 K, .int .u64 N, .slice Z B.length cz] 27)).cell? ⟨wr.heap.size, 0, none⟩ = some (.int .i64 K) := hq.cell 0
        have d1 : (wr.alloc (Obj.cells #[.int .i64 K, .int .u64 N, .slice Z B.length cz] 27)).cell? ⟨wr.heap.size, 1, none⟩ = some (.int .u64 (N : Int)) := hq.cell 1
        have d2 : (wr.alloc (Obj.cells #[.int .i64 K, .int .u64 N, .slice Z B.length cz] 27)).cell? ⟨wr.heap.size, 2, none⟩ = some (.slice Z B.length cz) := hq.cell 2
        have hτ := hq.lt
        have hY : ∀ y, Y.map (·.block) = some y → w.heap.size ≤ y ∧ y < (wr.alloc (Obj.cells #[.int .i64 K, .int .u64 N, .slice Z B.length cz] 27)).heap.size := fun y hy => hoy1.lt hy
        have hlx := hox1.sl
        have HY := Lib.hid hY
        clear hox hoy hb hq hqw hsz hY
        have h5 := kd_lt K
        have h6 : kd K = 0 ∨ kd K = 1 ∨ kd K = 2 ∨ kd K = 3 ∨ kd K = 4 := by omega
        clear h5
        rcases h6 with h6 | h6 | h6 | h6 | h6
        · have t0 : ((IntKind.u64.wrap K).tmod 5 == (0 : Int)) = true := k_yes K 0 h6
          have he1 : e1 (K, N, B) = be8 N := e1_0 h6
          rw [he1] at hEk1 HE
          clear h6 he1
          go_wp2_with (fail)
          clear h0' h1' h2' hcv
          generalize (wr.alloc (Obj.cells #[.int .i64 K, .int .u64 N, .slice Z B.length cz] 27)) = wq at *
          generalize wr.heap.size = τ at *
          refine (number_any X l cx N wq.heap.size wq (hlx.more (Nat.zero_le _) (Nat.le_refl _)) (Nat.le_refl _) hn (by omega)).mono ?_
          rintro e w2 ⟨g, rfl, ho2, hb2⟩
          have hoy2 := hoy1.below hb2
          have d1' := (hb2.cell (p := ⟨τ, 1, none⟩) hτ).trans d1
          clear d0 d1 d2 hox1 hoy1 hlx
          go_wp2_with (fail)
          refine (refnum_any N w2 hn).mono ?_
          rintro e w3 ⟨g3, rfl, ho3, hb3⟩
          have hoy3 := hoy2.below hb3
          have hx3 := SL.own ho3
          have hbs := Nat.le_trans hb1.size (Nat.le_trans hb2.size hb3.size)
          clear ho3 hoy2 d1'
          go_wp2_with (at_builtin; refine wpList_append_sl _ rfl (.tmp 52) (.tmp 55) rfl w.heap.size _ _ cy _ Y (some ⟨g3, 0, none⟩) l (be8 N) rfl rfl hoy3 hx3 (by omega) hbs ?_; intro Y' cy' w4 hoy4 hg4 hat4; obtain ⟨hob4, hne4, hb4⟩ := st_next hb1 HY.out ho2 hb2 hb3 hg4 hat4; have HNE := Lib.hid hne4; clear hne4; have v1 := conv_any hob4.sl; have v2 := conv_any hoy4.sl; have v3 := conv_any (st_take hob4.sl); have v4 := str_size l; simp only [List.length_append] at v1 v2 v3)
          go_roundw
          case rel =>
            refine ⟨k + 1, some ⟨g, 0, none⟩, (l ++ be8 N).length, Y', cy', by omega, by go_num, ?_, ?_, ?_, ?_, HNE.out, hb4⟩
            · rw [HE.out]
              simp only [List.length_append]
            · rw [HE.out]
              simp only [List.length_append]
            · rw [HE.out]
              exact hob4
            · rw [HE.out]
              exact hoy4
          case measure => simp [intOf]; omega
        · have t0 : ((IntKind.u64.wrap K).tmod 5 == (0 : Int)) = false := k_no K 1 0 h6 (by omega)
          have t1 : ((IntKind.u64.wrap K).tmod 5 == (1 : Int)) = true := k_yes K 1 h6
          have he1 : e1 (K, N, B) = be8 B.length ++ B := e1_1 h6
          rw [he1] at hEk1 HE
          clear h6 he1
          go_wp2_with (fail)
          clear h0' h1' h2' hcv
          generalize (wr.alloc (Obj.cells #[.int .i64 K, .int .u64 N, .slice Z B.length cz] 27)) = wq at *
          generalize wr.heap.size = τ at *
          have hB := bytes_any X Z l B cx cz wq.heap.size wq (hlx.more (Nat.zero_le _) (Nat.le_refl _)) hsz1 (Nat.le_refl _) (by rw [List.length_append, be8_len] at hEk1; omega)
          rw [List.append_assoc] at hB
          refine hB.mono ?_
          clear hB
          rintro e w2 ⟨g, rfl, ho2, hb2⟩
          have hoy2 := hoy1.below hb2
          have d2' := (hb2.cell (p := ⟨τ, 2, none⟩) hτ).trans d2
          have hsz2 := hsz1.below hb2 (Nat.le_refl _)
          clear d0 d1 d2 hox1 hoy1 hlx
          go_wp2_with (fail)
          refine (refbytes_any Z B cz wq.heap.size w2 hsz2 hb2.size (by omega)).mono ?_
          rintro e w3 ⟨G3, c3, rfl, ho3, hb3⟩
          have hoy3 := hoy2.below hb3
          have hx3 := ho3.sl
          have hbs := Nat.le_trans hb1.size (Nat.le_trans hb2.size hb3.size)
          clear ho3 hoy2 d2'
          go_wp2_with (at_builtin; refine wpList_append_sl _ rfl (.tmp 63) (.tmp 66) rfl w.heap.size _ _ cy _ Y G3 l (be8 B.length ++ B) rfl (by rw [List.length_append]; rfl) hoy3 hx3 (by omega) hbs ?_; intro Y' cy' w4 hoy4 hg4 hat4; obtain ⟨hob4, hne4, hb4⟩ := st_next hb1 HY.out ho2 hb2 hb3 hg4 hat4; have HNE := Lib.hid hne4; clear hne4; have v1 := conv_any hob4.sl; have v2 := conv_any hoy4.sl; have v3 := conv_any (st_take hob4.sl); have v4 := str_size l; simp only [List.length_append] at v1 v2 v3)
          go_roundw
          case rel =>
            refine ⟨k + 1, some ⟨g, 0, none⟩, (l ++ (be8 B.length ++ B)).length, Y', cy', by omega, by go_num, ?_, ?_, ?_, ?_, HNE.out, hb4⟩
            · rw [HE.out]
              simp only [List.length_append]
            · rw [HE.out]
              simp only [List.length_append]
            · rw [HE.out]
              exact hob4
            · rw [HE.out]
              exact hoy4
          case measure => simp [intOf]; omega
        · have t0 : ((IntKind.u64.wrap K).tmod 5 == (0 : Int)) = false := k_no K 2 0 h6 (by omega)
          have t1 : ((IntKind.u64.wrap K).tmod 5 == (1 : Int)) = false := k_no K 2 1 h6 (by omega)
          have t2 : ((IntKind.u64.wrap K).tmod 5 == (2 : Int)) = true := k_yes K 2 h6
          have he1 : e1 (K, N, B) = pad 32 (B.take 32) := e1_2 h6
          rw [he1] at hEk1 HE
          clear h6 he1
          go_wp2_with (fail)
          clear h0' h1' h2' hcv
          generalize (wr.alloc (Obj.cells #[.int .i64 K, .int .u64 N, .slice Z B.length cz] 27)) = wq at *
          generalize wr.heap.size = τ at *
          refine (fixed_any K N 32 Z B cz wq.heap.size wq hsz1 (Nat.le_refl _) (by omega)).mono ?_
          rintro e wf ⟨gf, rfl, hof, hbf⟩
          have hlf := hlx.below hbf (Nat.le_refl _)
          have hff := SL.own hof
          have hpf := parts_new (w := wf) (hi := wf.heap.size) (ls := [l, pad 32 (B.take 32)]) (vs := [.slice X l.length cx, .slice (some ⟨gf, 0, none⟩) (pad 32 (B.take 32)).length (pad 32 (B.take 32)).length]) (Nat.le_refl _) (by
            intro i y hy
            match i, hy with
            | 0, hy => injection hy with hy; subst hy; exact ⟨_, _, rfl, hlf.more (Nat.zero_le _) hbf.size⟩
            | 1, hy => injection hy with hy; subst hy; exact ⟨_, _, rfl, hff.more (Nat.zero_le _) (Nat.le_refl _)⟩)
          have hbq := hbf.alloc hbf.size (Obj.cells #[.slice X l.length cx, .slice (some ⟨gf, 0, none⟩) (pad 32 (B.take 32)).length (pad 32 (B.take 32)).length] 24)
          have hJ := join_made wq _ _ 2 _ _ rfl hpf (by simp) (by omega) (by unfold tot; simp; omega) hbq
          rw [show [l, pad 32 (B.take 32)].flatten = l ++ pad 32 (B.take 32) by simp] at hJ
          have HJ := Lib.hid hJ
          clear hJ hpf hbq hff hlf hof
          go_wp2_with (fail)
          refine HJ.out.mono ?_
          rintro e w2 ⟨g, rfl, ho2, hb2⟩
          have hoy2 := hoy1.below hb2
          have d0' := (hb2.cell (p := ⟨τ, 0, none⟩) hτ).trans d0
          have d1' := (hb2.cell (p := ⟨τ, 1, none⟩) hτ).trans d1
          have d2' := (hb2.cell (p := ⟨τ, 2, none⟩) hτ).trans d2
          have hsz2 := hsz1.below hb2 (Nat.le_refl _)
          clear d0 d1 d2 hox1 hoy1 hlx HJ hbf
          go_wp2_with (fail)
          refine (fixed_any K N 32 Z B cz wq.heap.size w2 hsz2 hb2.size (by omega)).mono ?_
          rintro e w3 ⟨g3, rfl, ho3, hb3⟩
          have hoy3 := hoy2.below hb3
          have hx3 := SL.own ho3
          have hbs := Nat.le_trans hb1.size (Nat.le_trans hb2.size hb3.size)
          clear ho3 hoy2 d0' d1' d2'
          go_wp2_with (at_builtin; refine wpList_append_sl _ rfl (.tmp 75) (.tmp 77) rfl w.heap.size _ _ cy _ Y (some ⟨g3, 0, none⟩) l (pad 32 (B.take 32)) rfl rfl hoy3 hx3 (by omega) hbs ?_; intro Y' cy' w4 hoy4 hg4 hat4; obtain ⟨hob4, hne4, hb4⟩ := st_next hb1 HY.out ho2 hb2 hb3 hg4 hat4; have HNE := Lib.hid hne4; clear hne4; have v1 := conv_any hob4.sl; have v2 := conv_any hoy4.sl; have v3 := conv_any (st_take hob4.sl); have v4 := str_size l; simp only [List.length_append] at v1 v2 v3)
          go_roundw
          case rel =>
            refine ⟨k + 1, some ⟨g, 0, none⟩, (l ++ pad 32 (B.take 32)).length, Y', cy', by omega, by go_num, ?_, ?_, ?_, ?_, HNE.out, hb4⟩
            · rw [HE.out]
              simp only [List.length_append]
            · rw [HE.out]
              simp only [List.length_append]
            · rw [HE.out]
              exact hob4
            · rw [HE.out]
              exact hoy4
          case measure => simp [intOf]; omega
        · have t0 : ((IntKind.u64.wrap K).tmod 5 == (0 : Int)) = false := k_no K 3 0 h6 (by omega)
          have t1 : ((IntKind.u64.wrap K).tmod 5 == (1 : Int)) = false := k_no K 3 1 h6 (by omega)
          have t2 : ((IntKind.u64.wrap K).tmod 5 == (2 : Int)) = false := k_no K 3 2 h6 (by omega)
          have t3 : ((IntKind.u64.wrap K).tmod 5 == (3 : Int)) = true := k_yes K 3 h6
          have he1 : e1 (K, N, B) = pad 64 (B.take 64) := e1_3 h6
          rw [he1] at hEk1 HE
          clear h6 he1
          go_wp2_with (fail)
          clear h0' h1' h2' hcv
          generalize (wr.alloc (Obj.cells #[.int .i64 K, .int .u64 N, .slice Z B.length cz] 27)) = wq at *
          generalize wr.heap.size = τ at *
          refine (fixed_any K N 64 Z B cz wq.heap.size wq hsz1 (Nat.le_refl _) (by omega)).mono ?_
          rintro e wf ⟨gf, rfl, hof, hbf⟩
          have hlf := hlx.below hbf (Nat.le_refl _)
          have hff := SL.own hof
          have hpf := parts_new (w := wf) (hi := wf.heap.size) (ls := [l, [], pad 64 (B.take 64)]) (vs := [.slice X l.length cx, .slice none 0 0, .slice (some ⟨gf, 0, none⟩) (pad 64 (B.take 64)).length (pad 64 (B.take 64)).length]) (Nat.le_refl _) (by
            intro i y hy
            match i, hy with
            | 0, hy => injection hy with hy; subst hy; exact ⟨_, _, rfl, hlf.more (Nat.zero_le _) hbf.size⟩
            | 1, hy => injection hy with hy; subst hy; exact ⟨_, _, rfl, SL.nil _ _ _⟩
            | 2, hy => injection hy with hy; subst hy; exact ⟨_, _, rfl, hff.more (Nat.zero_le _) (Nat.le_refl _)⟩)
          have hbq := hbf.alloc hbf.size (Obj.cells #[.slice X l.length cx, .slice none 0 0, .slice (some ⟨gf, 0, none⟩) (pad 64 (B.take 64)).length (pad 64 (B.take 64)).length] 24)
          have hJ := join_made wq _ _ 3 _ _ rfl hpf (by simp) (by omega) (by unfold tot; simp; omega) hbq
          rw [show [l, [], pad 64 (B.take 64)].flatten = l ++ pad 64 (B.take 64) by simp] at hJ
          have HJ := Lib.hid hJ
          clear hJ hpf hbq hff hlf hof
          go_wp2_with (fail)
          refine HJ.out.mono ?_
          rintro e w2 ⟨g, rfl, ho2, hb2⟩
          have hoy2 := hoy1.below hb2
          have d0' := (hb2.cell (p := ⟨τ, 0, none⟩) hτ).trans d0
          have d1' := (hb2.cell (p := ⟨τ, 1, none⟩) hτ).trans d1
          have d2' := (hb2.cell (p := ⟨τ, 2, none⟩) hτ).trans d2
          have hsz2 := hsz1.below hb2 (Nat.le_refl _)
          clear d0 d1 d2 hox1 hoy1 hlx HJ hbf
          go_wp2_with (fail)
          refine (fixed_any K N 64 Z B cz wq.heap.size w2 hsz2 hb2.size (by omega)).mono ?_
          rintro e w3 ⟨g3, rfl, ho3, hb3⟩
          have hoy3 := hoy2.below hb3
          have hx3 := SL.own ho3
          have hbs := Nat.le_trans hb1.size (Nat.le_trans hb2.size hb3.size)
          clear ho3 hoy2 d0' d1' d2'
          go_wp2_with (at_builtin; refine wpList_append_sl _ rfl (.tmp 86) (.tmp 88) rfl w.heap.size _ _ cy _ Y (some ⟨g3, 0, none⟩) l (pad 64 (B.take 64)) rfl rfl hoy3 hx3 (by omega) hbs ?_; intro Y' cy' w4 hoy4 hg4 hat4; obtain ⟨hob4, hne4, hb4⟩ := st_next hb1 HY.out ho2 hb2 hb3 hg4 hat4; have HNE := Lib.hid hne4; clear hne4; have v1 := conv_any hob4.sl; have v2 := conv_any hoy4.sl; have v3 := conv_any (st_take hob4.sl); have v4 := str_size l; simp only [List.length_append] at v1 v2 v3)
          go_roundw
          case rel =>
            refine ⟨k + 1, some ⟨g, 0, none⟩, (l ++ pad 64 (B.take 64)).length, Y', cy', by omega, by go_num, ?_, ?_, ?_, ?_, HNE.out, hb4⟩
            · rw [HE.out]
              simp only [List.length_append]
            · rw [HE.out]
              simp only [List.length_append]
            · rw [HE.out]
              exact hob4
            · rw [HE.out]
              exact hoy4
          case measure => simp [intOf]; omega
        · have t0 : ((IntKind.u64.wrap K).tmod 5 == (0 : Int)) = false := k_no K 4 0 h6 (by omega)
          have t1 : ((IntKind.u64.wrap K).tmod 5 == (1 : Int)) = false := k_no K 4 1 h6 (by omega)
          have t2 : ((IntKind.u64.wrap K).tmod 5 == (2 : Int)) = false := k_no K 4 2 h6 (by omega)
          have t3 : ((IntKind.u64.wrap K).tmod 5 == (3 : Int)) = false := k_no K 4 3 h6 (by omega)
          have he1 : e1 (K, N, B) = be8 (N % 65537) := e1_4 h6
          rw [he1] at hEk1 HE
          clear h6 he1
          have hN4 : N % 65537 < 18446744073709551616 := by omega
          have hN5 : ((N : Int) % 65537) = ((N % 65537 : Nat) : Int) := by omega
          have HN5 := Lib.hid hN5
          clear hN5
          go_wp2_with (fail)
          clear h0' h1' h2' hcv
          generalize (wr.alloc (Obj.cells #[.int .i64 K, .int .u64 N, .slice Z B.length cz] 27)) = wq at *
          generalize wr.heap.size = τ at *
          rw [HN5.out]
          refine (number_any X l cx (N % 65537) wq.heap.size wq (hlx.more (Nat.zero_le _) (Nat.le_refl _)) (Nat.le_refl _) hN4 (by omega)).mono ?_
          rintro e w2 ⟨g, rfl, ho2, hb2⟩
          have hoy2 := hoy1.below hb2
          have d1' := (hb2.cell (p := ⟨τ, 1, none⟩) hτ).trans d1
          clear d0 d1 d2 hox1 hoy1 hlx
          go_wp2_with (fail)
          rw [HN5.out]
          refine (refnum_any (N % 65537) w2 hN4).mono ?_
          rintro e w3 ⟨g3, rfl, ho3, hb3⟩
          have hoy3 := hoy2.below hb3
          have hx3 := SL.own ho3
          have hbs := Nat.le_trans hb1.size (Nat.le_trans hb2.size hb3.size)
          clear ho3 hoy2 d1'
          go_wp2_with (at_builtin; refine wpList_append_sl _ rfl (.tmp 40) (.tmp 44) rfl w.heap.size _ _ cy _ Y (some ⟨g3, 0, none⟩) l (be8 (N % 65537)) rfl rfl hoy3 hx3 (by omega) hbs ?_; intro Y' cy' w4 hoy4 hg4 hat4; obtain ⟨hob4, hne4, hb4⟩ := st_next hb1 HY.out ho2 hb2 hb3 hg4 hat4; have HNE := Lib.hid hne4; clear hne4; have v1 := conv_any hob4.sl; have v2 := conv_any hoy4.sl; have v3 := conv_any (st_take hob4.sl); have v4 := str_size l; simp only [List.length_append] at v1 v2 v3)
          go_roundw
          case rel =>
            refine ⟨k + 1, some ⟨g, 0, none⟩, (l ++ be8 (N % 65537)).length, Y', cy', by omega, by go_num, ?_, ?_, ?_, ?_, HNE.out, hb4⟩
            · rw [HE.out]
              simp only [List.length_append]
            · rw [HE.out]
              simp only [List.length_append]
            · rw [HE.out]
              exact hob4
            · rw [HE.out]
              exact hoy4
          case measure => simp [intOf]; omega
      · obtain rfl : k = M.length := by omega
        rw [List.take_length] at hox hoy ⊢
        have hEl := hEM M.length
        rw [List.take_length] at hEl
        clear hEM hne hoy hlt
        go_wp2_with (fail)
        refine (new_any X (E M) cx wr.heap.size wr (hox.sl.more (Nat.zero_le _) (Nat.le_refl _)) (Nat.le_refl _) (by omega)).mono ?_
        rintro e w1 ⟨r, rfl, hr1, hrw, hb1⟩
        have hmn := (hox.below hb1).mine (hi := wr.heap.size) (fun g hg => (hox.lt hg).2)
        have hbw1 := hb.trans (hb1.mono hb.size)
        have hlr : w.heap.size ≤ wr.heap.size := hb.size
        have hwr : w.heap.size ≤ r := Nat.le_trans hb.size hrw
        clear hox hb hb1
        generalize wr.heap.size = lo at *
        go_wp2_with (fail)
        go_loopw [10, 109] (fun _ i wq => ∃ j : Nat, j ≤ (E M).length ∧ i = .int .i64 j ∧ Below w.heap.size w wq ∧ Rdr wq lo r (E M) 0 ∧ Mine wq w.heap.size lo X (E M).length) (fun _ i _ => (E M).length - (intOf i).toNat)
        case atStart => exact ⟨0, Nat.zero_le _, rfl, hbw1, hr1, hmn⟩
        case round =>
          obtain ⟨j, hj, rfl, hbq, hrq, hmq⟩ := hrel
          clear hbw1 hr1 hmn
          by_cases hlt : j < (E M).length
          · obtain ⟨g, cs, rfl, hk5, hcs, hg1, hg2⟩ := hmq (by omega)
            have hcc : wr.cell? ⟨g, j, none⟩ = some cs[j] := (hk5.cell j).trans (Array.getElem?_eq_getElem (by omega))
            have hff := hk5.free j
            have HM : Hid (Blk wr g 5 cs) := hk5
            clear hmq
            go_wp2
            go_roundw
            case rel =>
              refine ⟨j + 1, by omega, by go_num, hbq.setCell hg1 _, hrq.far hg2 hrw _, fun _ => ⟨g, _, rfl, hk5.set j _, by simpa using hcs, hg1, hg2⟩⟩
            case measure => simp [intOf]; omega
          · obtain rfl : j = (E M).length := by omega
            go_wp2_with (fail)
            have hbr := hbq
            have hrr := hrq
            clear hbq hrq
            obtain ⟨wl, rfl⟩ : ∃ wl : World, wl = wr := ⟨_, rfl⟩
            clear hmq
            go_loopw [12, 13, 14, 15, 118] (fun _ _ _ _ i wr => ∃ j : Nat, j ≤ M.length ∧ i = .int .i64 j ∧ Below w.heap.size w wr ∧ Rdr wr lo r (E (M.drop j)) 0) (fun _ _ _ _ i _ => M.length - (intOf i).toNat)
            case atStart => exact ⟨0, Nat.zero_le _, rfl, hbr, hrr⟩
            case round =>
              obtain ⟨j, hj, rfl, hb, hr⟩ := hrel
              clear hbr hrr
              by_cases hlt : j < M.length
              · obtain ⟨ad, rfl, had, hcell⟩ := hit (by omega)
                obtain ⟨Z, cz, h0, h1, h2, hsz, hn, hl20⟩ := hcell j M[j] (List.getElem?_eq_getElem hlt)
                have hkk : ∀ j, wr.cell? (ad.add j) = w.cell? (ad.add j) := fun j => hb.cell (by rw [block_add]; omega)
                have h0' := (hkk _).trans h0
                have h1' := (hkk _).trans h1
                have h2' := (hkk _).trans h2
                rw [← add_add', add_1_] at h1'
                rw [← add_add', add_2_] at h2'
                rw [E_drop M j hlt] at hr
                obtain ⟨⟨K, N, B⟩, hx⟩ : ∃ x : It, x = M[j] := ⟨_, rfl⟩
                rw [← hx] at h0' h1' h2' hsz hn hl20 hr
                simp only at h0' h1' h2' hsz hn hl20
                clear hkk h0 h1 h2 hcell hx
                have hrest : ∃ rest, rest = E (M.drop (j + 1)) := ⟨_, rfl⟩
                obtain ⟨rest, hre⟩ := hrest
                rw [← hre] at hr
                have HR := Lib.hid hre
                clear hre
                have hq : Blk (wr.alloc (Obj.cells #[.int .i64 K, .int .u64 N, .slice Z B.length cz] 27)) wr.heap.size 27 #[.int .i64 K, .int .u64 N, .slice Z B.length cz] := Blk.new _ _ _
                have hqw : Below wr.heap.size wr (wr.alloc (Obj.cells #[.int .i64 K, .int .u64 N, .slice Z B.length cz] 27)) := (Below.refl _ _).alloc (Nat.le_refl _) _
                have hb1 := hb.trans (hqw.mono hb.size)
                have hsz1 := (hsz.below hb1 (Nat.le_refl _))
                have hr1 := hr.below hqw hr.lt
                have hrτ := hr.lt
                have hτ := hq.lt
                have hwq := hb1.size
                have d0 : (wr.alloc (Obj.cells #[.int .i64 K, .int .u64 N, .slice Z B.length cz] 27)).cell? ⟨wr.heap.size, 0, none⟩ = some (.int .i64 K) := hq.cell 0
                have d1 : (wr.alloc (Obj.cells #[.int .i64 K, .int .u64 N, .slice Z B.length cz] 27)).cell? ⟨wr.heap.size, 1, none⟩ = some (.int .u64 (N : Int)) := hq.cell 1
                have d2 : (wr.alloc (Obj.cells #[.int .i64 K, .int .u64 N, .slice Z B.length cz] 27)).cell? ⟨wr.heap.size, 2, none⟩ = some (.slice Z B.length cz) := hq.cell 2
                clear hb hr hq hqw hsz
                have h5 := kd_lt K
                have h6 : kd K = 0 ∨ kd K = 1 ∨ kd K = 2 ∨ kd K = 3 ∨ kd K = 4 := by omega
                clear h5
                rcases h6 with h6 | h6 | h6 | h6 | h6
                · have t0 : ((IntKind.u64.wrap K).tmod 5 == (0 : Int)) = true := k_yes K 0 h6
                  have t1 : ((IntKind.u64.wrap K).tmod 5 == (1 : Int)) = false := k_no K 0 1 h6 (by omega)
                  have hC := rnum_any lo r _ 0 _ hr1.drw
                  rw [num_0 h6 hn] at hC
                  have HC := Lib.hid hC
                  clear hC h6
                  go_wp2_with (fail)
                  clear h0' h1' h2'
                  generalize (wr.alloc (Obj.cells #[.int .i64 K, .int .u64 N, .slice Z B.length cz] 27)) = wq at *
                  generalize wr.heap.size = τ at *
                  have HH := Lib.hid (And.intro hb1 (And.intro d0 (And.intro d1 d2)))
                  clear hb1 hr1
                  go_region_with (go_at_call 16; refine HC.out.mono ?_; rintro e w4 ⟨rfl, hr4, hg4⟩; have hb4 := below_only HH.out.1.drew hg4 HH.out.1.size hwr; have d0' := hg4.cell HH.out.2.1 (by simp; omega); have d1' := hg4.cell HH.out.2.2.1 (by simp; omega); have d2' := hg4.cell HH.out.2.2.2 (by simp; omega))
                  all_goals
                    clear HH HC hg4 d0 d1 d2
                    go_wp2_with (fail)
                    go_roundw
                    case rel => exact ⟨j + 1, by omega, by go_num, hb4, by rw [← HR.out]; exact hr4⟩
                    case measure => simp [intOf]; omega
                · have t0 : ((IntKind.u64.wrap K).tmod 5 == (0 : Int)) = false := k_no K 1 0 h6 (by omega)
                  have t1 : ((IntKind.u64.wrap K).tmod 5 == (1 : Int)) = true := k_yes K 1 h6
                  have hC := rbytes_any lo r _ 0 _ hr1.drw
                  rw [byts_1 h6 hl20] at hC
                  have HC := Lib.hid hC
                  clear hC h6
                  go_wp2_with (fail)
                  clear h0' h1' h2'
                  generalize (wr.alloc (Obj.cells #[.int .i64 K, .int .u64 N, .slice Z B.length cz] 27)) = wq at *
                  generalize wr.heap.size = τ at *
                  have HH := Lib.hid (And.intro hb1 (And.intro d0 (And.intro d1 d2)))
                  clear hb1 hr1
                  have hcB := conv_any (w := wq.drew) hsz1
                  have hstr : ((str B).toList == (str B).toList) = true := by simp
                  first | (go_region_with (go_at_call 17; refine HC.out.mono ?_; rintro e w4 ⟨g4, rfl, hx4, hr4, hg4⟩; have hb4 := below_only HH.out.1.drew hg4 HH.out.1.size hwr; have d0' := hg4.cell HH.out.2.1 (by simp; omega); have d1' := hg4.cell HH.out.2.2.1 (by simp; omega); have d2' := hg4.cell HH.out.2.2.2 (by simp; omega); have hcx4 := conv_any hx4; have hcB4 := conv_any (SL.grown (w := wq.drew) hsz1 hg4 hwq (.inr hwr)))) | fail
                  all_goals
                    clear HH HC hg4 d0 d1 d2 hcB hstr hx4 hcx4 hcB4
                    go_wp2_with (fail)
                    go_roundw
                    case rel => exact ⟨j + 1, by omega, by go_num, hb4, by rw [← HR.out]; exact hr4⟩
                    case measure => simp [intOf]; omega
                · have t0 : ((IntKind.u64.wrap K).tmod 5 == (0 : Int)) = false := k_no K 2 0 h6 (by omega)
                  have t1 : ((IntKind.u64.wrap K).tmod 5 == (1 : Int)) = false := k_no K 2 1 h6 (by omega)
                  have t2 : ((IntKind.u64.wrap K).tmod 5 == (2 : Int)) = true := k_yes K 2 h6
                  have hpl := pad_len 32 (B.take 32) (by rw [List.length_take]; omega)
                  have hC := rhash_any lo r _ 0 _ hr1
                  rw [e1_2 (x := (K, N, B)) h6, tk_23 hpl, pad_self hpl] at hC
                  have HC := Lib.hid hC
                  have HP := Lib.hid hpl
                  clear hC h6 hpl
                  go_wp2_with (fail)
                  clear h0' h1' h2'
                  generalize (wr.alloc (Obj.cells #[.int .i64 K, .int .u64 N, .slice Z B.length cz] 27)) = wq at *
                  generalize wr.heap.size = τ at *
                  refine HC.out.mono ?_
                  rintro e w4 ⟨rfl, hr4, hg4⟩
                  have hb4 := below_only hb1 hg4 hwq hwr
                  have d0' := hg4.cell d0 (by simp; omega)
                  have d1' := hg4.cell d1 (by simp; omega)
                  have d2' := hg4.cell d2 (by simp; omega)
                  have hsz4 := hsz1.grown hg4 hwq (.inr hwr)
                  have hτ4 := Nat.lt_of_lt_of_le hτ hg4.size
                  have hwq4 := hb4.size
                  clear d0 d1 d2 hb1 hr1 hsz1 hg4 HC
                  have hz : Blk (w4.alloc (.cells zrow32 39)) w4.heap.size 39 zrow32 := Blk.new _ _ _
                  go_wp2_with (refine wpList_store_row rfl 39 _ _ rfl w4.heap.size rfl (By (pad 32 (B.take 32))).toArray rfl 39 zrow32 hz (size39 _ (psize HP.out)) (zsize32.trans (psize HP.out).symm) (By_one _) ?_)
                  have hbl4 : Below w4.heap.size w4 ((w4.alloc (.cells zrow32 39)).setRow w4.heap.size (By (pad 32 (B.take 32))).toArray) := below_setRow ((Below.refl _ _).alloc (Nat.le_refl _) _) (Nat.le_refl _) _
                  have hz5 := hz.row (By (pad 32 (B.take 32))).toArray
                  have hb5 := hb4.trans (hbl4.mono hwq4)
                  have hr5 := hr4.below hbl4 hr4.lt
                  have hsz5 := hsz4.below hbl4 hwq4
                  have e0 := (hbl4.cell (p := ⟨τ, 0, none⟩) hτ4).trans d0'
                  have e1 := (hbl4.cell (p := ⟨τ, 1, none⟩) hτ4).trans d1'
                  have e2 := (hbl4.cell (p := ⟨τ, 2, none⟩) hτ4).trans d2'
                  have hτ5 := Nat.lt_of_lt_of_le hτ4 hbl4.size
                  clear hz hbl4 hb4 hr4 hsz4 d0' d1' d2'
                  change Code.wp _ _ _ _ ((w4.alloc (.cells zrow32 39)).setRow w4.heap.size (By (pad 32 (B.take 32))).toArray)
                  generalize ((w4.alloc (.cells zrow32 39)).setRow w4.heap.size (By (pad 32 (B.take 32))).toArray) = w5 at *
                  generalize w4.heap.size = γ at *
                  have hw5 := hb5.size
                  have hzl := hz5.lt
                  have HF := Lib.hid (fixed_any K N 32 Z B cz w.heap.size w5.drew (SL.drewN hsz5 1) hw5 (by omega))
                  have hsh := SL.blk (w := w5) hz5 (Nat.le_refl _) hzl (by rw [HP.out]; omega)
                  have hch := conv_any (w := w5.drew) (SL.drewN hsh 1)
                  rw [HP.out] at hch
                  have HH := Lib.hid (And.intro hb5 (And.intro hr5 (And.intro e0 (And.intro e1 (And.intro e2 hsh)))))
                  clear hb5 hr5 hsz5 hsh hz5
                  go_region_with (go_at_call 14; refine HF.out.mono ?_; rintro e w6 ⟨g6, rfl, ho6, hb6⟩; have hb7 := HH.out.1.drew.trans (hb6.mono hw5); have hr7 := HH.out.2.1.drw.below hb6 HH.out.2.1.lt; have e0' := (hb6.cell (p := ⟨τ, 0, none⟩) hτ5).trans HH.out.2.2.1; have e1' := (hb6.cell (p := ⟨τ, 1, none⟩) hτ5).trans HH.out.2.2.2.1; have e2' := (hb6.cell (p := ⟨τ, 2, none⟩) hτ5).trans HH.out.2.2.2.2.1; have hch6 := conv_len HP.out ((SL.drewN HH.out.2.2.2.2.2 1).below hb6 (Nat.le_refl _)); have hcf6 := conv_any (SL.own ho6))
                  all_goals
                    clear HH HF ho6 hb6 hch hch6 hcf6 e0 e1 e2
                    go_wp2_with (fail)
                    go_roundw
                    case rel => exact ⟨j + 1, by omega, by go_num, hb7, by rw [← HR.out]; exact hr7⟩
                    case measure => simp [intOf]; omega
                · have t0 : ((IntKind.u64.wrap K).tmod 5 == (0 : Int)) = false := k_no K 3 0 h6 (by omega)
                  have t1 : ((IntKind.u64.wrap K).tmod 5 == (1 : Int)) = false := k_no K 3 1 h6 (by omega)
                  have t2 : ((IntKind.u64.wrap K).tmod 5 == (2 : Int)) = false := k_no K 3 2 h6 (by omega)
                  have t3 : ((IntKind.u64.wrap K).tmod 5 == (3 : Int)) = true := k_yes K 3 h6
                  have hpl := pad_len 64 (B.take 64) (by rw [List.length_take]; omega)
                  have hC := rsig_any lo r _ 0 _ hr1
                  rw [e1_3 (x := (K, N, B)) h6, tk_23 hpl, pad_self hpl] at hC
                  have HC := Lib.hid hC
                  have HP := Lib.hid hpl
                  clear hC h6 hpl
                  go_wp2_with (fail)
                  clear h0' h1' h2'
                  generalize (wr.alloc (Obj.cells #[.int .i64 K, .int .u64 N, .slice Z B.length cz] 27)) = wq at *
                  generalize wr.heap.size = τ at *
                  refine HC.out.mono ?_
                  rintro e w4 ⟨rfl, hr4, hg4⟩
                  have hb4 := below_only hb1 hg4 hwq hwr
                  have d0' := hg4.cell d0 (by simp; omega)
                  have d1' := hg4.cell d1 (by simp; omega)
                  have d2' := hg4.cell d2 (by simp; omega)
                  have hsz4 := hsz1.grown hg4 hwq (.inr hwr)
                  have hτ4 := Nat.lt_of_lt_of_le hτ hg4.size
                  have hwq4 := hb4.size
                  clear d0 d1 d2 hb1 hr1 hsz1 hg4 HC
                  have hz : Blk (w4.alloc (.cells zrow64 41)) w4.heap.size 41 zrow64 := Blk.new _ _ _
                  go_wp2_with (refine wpList_store_row rfl 41 _ _ rfl w4.heap.size rfl (By (pad 64 (B.take 64))).toArray rfl 41 zrow64 hz (size41 _ (psize HP.out)) (zsize64.trans (psize HP.out).symm) (By_one _) ?_)
                  have hbl4 : Below w4.heap.size w4 ((w4.alloc (.cells zrow64 41)).setRow w4.heap.size (By (pad 64 (B.take 64))).toArray) := below_setRow ((Below.refl _ _).alloc (Nat.le_refl _) _) (Nat.le_refl _) _
                  have hz5 := hz.row (By (pad 64 (B.take 64))).toArray
                  have hb5 := hb4.trans (hbl4.mono hwq4)
                  have hr5 := hr4.below hbl4 hr4.lt
                  have hsz5 := hsz4.below hbl4 hwq4
                  have e0 := (hbl4.cell (p := ⟨τ, 0, none⟩) hτ4).trans d0'
                  have e1 := (hbl4.cell (p := ⟨τ, 1, none⟩) hτ4).trans d1'
                  have e2 := (hbl4.cell (p := ⟨τ, 2, none⟩) hτ4).trans d2'
                  have hτ5 := Nat.lt_of_lt_of_le hτ4 hbl4.size
                  clear hz hbl4 hb4 hr4 hsz4 d0' d1' d2'
                  change Code.wp _ _ _ _ ((w4.alloc (.cells zrow64 41)).setRow w4.heap.size (By (pad 64 (B.take 64))).toArray)
                  generalize ((w4.alloc (.cells zrow64 41)).setRow w4.heap.size (By (pad 64 (B.take 64))).toArray) = w5 at *
                  generalize w4.heap.size = γ at *
                  have hw5 := hb5.size
                  have hzl := hz5.lt
                  have HF := Lib.hid (fixed_any K N 64 Z B cz w.heap.size w5.drew (SL.drewN hsz5 1) hw5 (by omega))
                  have hsh := SL.blk (w := w5) hz5 (Nat.le_refl _) hzl (by rw [HP.out]; omega)
                  have hch := conv_any (w := w5.drew) (SL.drewN hsh 1)
                  rw [HP.out] at hch
                  have HH := Lib.hid (And.intro hb5 (And.intro hr5 (And.intro e0 (And.intro e1 (And.intro e2 hsh)))))
                  clear hb5 hr5 hsz5 hsh hz5
                  go_region_with (go_at_call 14; refine HF.out.mono ?_; rintro e w6 ⟨g6, rfl, ho6, hb6⟩; have hb7 := HH.out.1.drew.trans (hb6.mono hw5); have hr7 := HH.out.2.1.drw.below hb6 HH.out.2.1.lt; have e0' := (hb6.cell (p := ⟨τ, 0, none⟩) hτ5).trans HH.out.2.2.1; have e1' := (hb6.cell (p := ⟨τ, 1, none⟩) hτ5).trans HH.out.2.2.2.1; have e2' := (hb6.cell (p := ⟨τ, 2, none⟩) hτ5).trans HH.out.2.2.2.2.1; have hch6 := conv_len HP.out ((SL.drewN HH.out.2.2.2.2.2 1).below hb6 (Nat.le_refl _)); have hcf6 := conv_any (SL.own ho6))
                  all_goals
                    clear HH HF ho6 hb6 hch hch6 hcf6 e0 e1 e2
                    go_wp2_with (fail)
                    go_roundw
                    case rel => exact ⟨j + 1, by omega, by go_num, hb7, by rw [← HR.out]; exact hr7⟩
                    case measure => simp [intOf]; omega
                · have t0 : ((IntKind.u64.wrap K).tmod 5 == (0 : Int)) = false := k_no K 4 0 h6 (by omega)
                  have t1 : ((IntKind.u64.wrap K).tmod 5 == (1 : Int)) = false := k_no K 4 1 h6 (by omega)
                  have t2 : ((IntKind.u64.wrap K).tmod 5 == (2 : Int)) = false := k_no K 4 2 h6 (by omega)
                  have t3 : ((IntKind.u64.wrap K).tmod 5 == (3 : Int)) = false := k_no K 4 3 h6 (by omega)
                  have hC := count_any lo r _ 0 _ hr1.drw
                  rw [most_4 h6] at hC
                  have HC := Lib.hid hC
                  clear hC h6
                  go_wp2_with (fail)
                  clear h0' h1' h2'
                  generalize (wr.alloc (Obj.cells #[.int .i64 K, .int .u64 N, .slice Z B.length cz] 27)) = wq at *
                  generalize wr.heap.size = τ at *
                  have HH := Lib.hid (And.intro hb1 (And.intro d0 (And.intro d1 d2)))
                  clear hb1 hr1
                  go_region_with (go_at_call 20; refine HC.out.mono ?_; rintro e w4 ⟨rfl, hr4, hg4⟩; have hb4 := below_only HH.out.1.drew hg4 HH.out.1.size hwr; have d0' := hg4.cell HH.out.2.1 (by simp; omega); have d1' := hg4.cell HH.out.2.2.1 (by simp; omega); have d2' := hg4.cell HH.out.2.2.2 (by simp; omega))
                  all_goals
                    clear HH HC hg4 d0 d1 d2
                    go_wp2_with (fail)
                    go_roundw
                    case rel => exact ⟨j + 1, by omega, by go_num, hb4, by rw [← HR.out]; exact hr4⟩
                    case measure => simp [intOf]; omega
              · obtain rfl : j = M.length := by omega
                rw [List.drop_length] at hr
                have hD := done_any lo r _ 0 _ hr
                rw [show E [] = [] from rfl, show don [] 0 = 0 from rfl] at hD
                have HD := Lib.hid hD
                clear hD hr
                go_wp2_with (fail)
                refine HD.out.mono ?_
                rintro e w5 ⟨rfl, rfl⟩
                go_wp2
                go_ret
                exact ⟨rfl, hb⟩

end Go.Proofs.Ytipakpcdaaoboaa
