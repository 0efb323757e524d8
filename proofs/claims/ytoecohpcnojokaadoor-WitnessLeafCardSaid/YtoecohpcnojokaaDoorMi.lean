/-
  SEVERAL TEXTS IN ONE: Lay256, End256, Fill256, Sum256, TrM, TrQ, TrF.
-/
import Derived.Test.YtoecohpcnojokaaDoorMg
import Derived.Test.YtoecohpcnojokaaDoorMh
/-
  THE DIGESTS: lay256: the eight words' bytes, the greatest first; first256: what they begin as.
-/
namespace Go.Proofs.YtoecohpcnojokaaDoor
open Go.RowKit Go.IntWalk Nums

def z32b : List UInt8 := List.replicate 32 0
theorem zb32 : (Tryd.prog.info? 38).bind (fun i => i.zero.map (·.cells)) = some (By z32b).toArray := by kernel_rfl

/-- What lay256's rows lie in. -/
structure LY2 (w wr : World) (cs : Array Value) (m : List UInt8) : Prop where
  b0 : Blk wr w.heap.size 140 cs
  b1 : Blk wr (w.heap.size + 1) 38 (By z32b).toArray
  b2 : Blk wr (w.heap.size + 1 + 1) 38 (By m).toArray
  be : Below w.heap.size w wr
theorem LY2.set {w wr : World} {cs : Array Value} {m : List UInt8} (h : LY2 w wr cs m) (k : Nat) (x : UInt8) : LY2 w (wr.setCell ⟨w.heap.size + 1 + 1, k, none⟩ (.int .u8 (x.toNat : Int))) cs (m.set k x) where
  b0 := h.b0.far (by show w.heap.size ≠ w.heap.size + 1 + 1; omega) _
  b1 := h.b1.far (by show w.heap.size + 1 ≠ w.heap.size + 1 + 1; omega) _
  b2 := by
    have h4 := h.b2.set k (.int .u8 (x.toNat : Int))
    rw [By_set] at h4
    exact h4
  be := h.be.setCell (by show w.heap.size ≤ w.heap.size + 1 + 1; omega) _

set_option maxRecDepth 100000 in
set_option maxHeartbeats 2000000 in
theorem lay256_f {l : List Nat} (hl : l.length = 8) (hw : ∀ x ∈ l, x < 4294967296) (w : World) :
    Calls Tryd.prog 73 #[.agg (Uw l).toArray] w fun e w' => e = .returned (.agg (By (l.map (layw s256)).flatten).toArray) ∧ Below w.heap.size w w' := by
  have hD := flat_lenB (layw s256) (n := 4) (fun x => layw_len s256 x) l
  rw [hl] at hD
  have hg : ∀ i j, i < 8 → j < 4 → (((l.map (layw s256)).flatten)[4 * i + 3 - j]!).toNat = l[i]! / 256 ^ j % 256 := fun i j hi hj => by
    have h1 := flat_get (layw s256) (n := 4) (fun x => layw_len s256 x) l (i := i) (j := 3 - j) (by omega) (by omega)
    rw [show 4 * i + 3 - j = 4 * i + (3 - j) by omega, h1]
    exact layw_get (s := s256) (j := j) hj
  have hzs : (Uw l).toArray.size = 8 := by rw [List.size_toArray, Uw_len, hl]
  have hix : ∀ i, i < 8 → ∀ w1, (Instr.index 140 (.agg (Uw l).toArray) (.int .i64 ((i : Nat) : Int))).run Tryd.prog w1 = .ok (.int .u32 (l[i]! : Nat)) w1 := fun i hi w1 => by
    have h0 : (Uw l).toArray[i]? = some (.int .u32 (l[i]! : Nat)) := Uw_at (by omega)
    have h1 : ((i : Nat) : Int) < 8 := by omega
    have h2 : (0 : Int) ≤ (i : Nat) := by omega
    generalize l[i]! = c at *
    generalize (Uw l).toArray = cs at *
    unfold Instr.index Go.part
    go_simp
    obtain ⟨_, h⟩ := Array.getElem?_eq_some_iff.1 h0
    exact h
  have hwl : ∀ i, i < 8 → l[i]! < 4294967296 := fun i hi => by
    rw [getElem!_pos l i (by omega)]
    exact hw _ (List.getElem_mem _)
  generalize (l.map (layw s256)).flatten = D at *
  generalize (Uw l).toArray = cs at *
  go_enter Tryd.func73, Tryd.ntmps73
  refine wp_seq_k fun K hK => ?_
  refine wp_region_lit ?_
  refine wpl_box cs rfl rfl rfl ?_
  refine wpl_alloc (zs := (By z32b).toArray) rfl rfl zb32 ?_
  refine wpl_nil ?_
  go_simp
  refine hK _ _ ?_
  clear hK K
  refine wp_seq_k fun K hK => ?_
  refine wp_region_lit ?_
  refine wpl_alloc (zs := (By z32b).toArray) rfl rfl zb32 ?_
  refine wpl_nil ?_
  go_simp
  refine hK _ _ ?_
  clear hK K
  refine wp_at (fun W => LY2 w W cs z32b) ⟨blk3_0 w _ _ _ _, blk3_1 w _ _ _ _, blk3_2 w _ _ _ _, (((Below.refl _ _).alloc (Nat.le_refl _) _).alloc (by simp) _).alloc (by simp; omega) _⟩ ?_
  intro W hW
  have k0 := hW.b0
  have HW := Lib.hid hW
  clear hW
  go_wp2_with (refine wpList_load_row rfl 140 _ rfl w.heap.size rfl 140 cs (0, 0) _ k0 Tryd.underlying140 rfl (size_v8 _ hzs) ?_)
  clear k0
  go_loopw [8] (fun i wr => ∃ t : Nat, t ≤ 8 ∧ i = .int .i64 t ∧ LY2 w wr cs (pf D fun m => decide (m < 4 * t))) (fun i _ => 8 - (intOf i).toNat)
  case atStart =>
    refine ⟨0, by omega, rfl, ?_⟩
    rw [pf_none (fun m _ => decide_eq_false (by omega)), hD]
    exact HW.out
  case round =>
    clear HW
    obtain ⟨t, ht, rfl, hS⟩ := hrel
    by_cases htl : t < 8
    · have hi := hix t htl
      have hx := hwl t htl
      have hby := fun j hj => hg t j htl hj
      generalize l[t]! = x at *
      have g4 : (0 : Int) ≤ (t : Int) := by omega
      have HS := Lib.hid hS
      clear hS hg hix hwl
      go_wp2
      go_loopw [12, 5] (fun j v wq => ∃ n : Nat, n ≤ 4 ∧ j = .int .i64 n ∧ v = .int .u32 ((x / 256 ^ n : Nat) : Int) ∧ LY2 w wq cs (pf D fun m => decide (m < 4 * t ∨ 4 * t + 4 - n ≤ m ∧ m < 4 * t + 4))) (fun j _ _ => 4 - (intOf j).toNat)
      case atStart =>
        refine ⟨0, by omega, rfl, by rw [Nat.pow_zero, Nat.div_one], ?_⟩
        rw [pf_congr (q := fun m => decide (m < 4 * t)) (fun m _ => decide_eq_decide.2 (by omega))]
        exact HS.out
      case round =>
        clear HS
        obtain ⟨n, hn, rfl, rfl, hS⟩ := hrel
        by_cases hnl : n < 4
        · have hN := hS.set (4 * t + 3 - n) D[4 * t + 3 - n]!
          rw [pf_set (q := fun m => decide (m < 4 * t ∨ 4 * t + 4 - (n + 1) ≤ m ∧ m < 4 * t + 4)) (fun m _ => by rw [← Bool.decide_or]; exact decide_eq_decide.2 (by omega))] at hN
          have hb := hby n hnl
          have hdiv : x / 256 ^ (n + 1) = x / 256 ^ n / 256 := by rw [Nat.pow_succ, Nat.div_div_eq_div_mul]
          have hle : x / 256 ^ n < 4294967296 := Nat.lt_of_le_of_lt (Nat.div_le_self _ _) hx
          have c2 := (hS.b2.cell (4 * t + 3 - n)).trans (By_get (by rw [pf_len, hD]; omega))
          have f2 := hS.b2.free (4 * t + 3 - n)
          generalize x / 256 ^ n = y at *
          have q4 : IntKind.u8.wrap (y : Int) = ((D[4 * t + 3 - n]!).toNat : Int) := by
            rw [IntKind.wrap_u8', hb]
            omega
          have g5 : (0 : Int) ≤ (n : Int) := by omega
          have q5 : (y : Int) / 256 = ((y / 256 : Nat) : Int) := by omega
          have HN := Lib.hid (And.intro hN hdiv)
          clear hS hN hdiv hb hby hi
          generalize (D[4 * t + 3 - n]!).toNat = v at *
          generalize ((pf D fun m => decide (m < 4 * t ∨ 4 * t + 4 - n ≤ m ∧ m < 4 * t + 4))[4 * t + 3 - n]!).toNat = old at *
          generalize y / 256 = y2 at *
          go_wp2
          go_roundw
          case rel =>
            obtain ⟨hN, hdiv⟩ := HN.out
            refine ⟨n + 1, by omega, by go_num, by rw [hdiv], hN⟩
          case measure => simp [intOf]; omega
        · obtain rfl : n = 4 := by omega
          rw [pf_congr (q := fun m => decide (m < 4 * (t + 1))) (fun m _ => decide_eq_decide.2 (by omega))] at hS
          have HS := Lib.hid hS
          clear hS
          go_wp2
          go_roundw
          case rel => exact ⟨t + 1, by omega, by go_num, HS.out⟩
          case measure => simp [intOf]; omega
    · obtain rfl : t = 8 := by omega
      rw [pf_all (fun m hm => decide_eq_true (by omega))] at hS
      obtain ⟨b0, b1, b2, be⟩ := hS
      have hz : (By D).toArray.size = 32 := by rw [List.size_toArray, By_len, hD]
      clear b0
      go_wp2_with (first
        | (refine wpList_load_row rfl 38 _ rfl (w.heap.size + 1 + 1) rfl 38 (By D).toArray (0, 0) _ b2 Tryd.underlying38 rfl (size_hash _ hz) ?_)
        | (refine wpList_store_row rfl 38 _ _ rfl (w.heap.size + 1) rfl (By D).toArray rfl 38 _ b1 (size_hash _ hz) (by rw [hz]; rfl) (By_one _) ?_))
      refine bodyPost_ret (results_cell_row rfl _ _ (w.heap.size + 1) 38 (By D).toArray (0, 0) _ rfl (b1.row _) Tryd.underlying38 rfl (size_hash _ hz)) rfl ⟨rfl, ?_⟩
      exact below_setRow be (by omega) _

/-! ### first256 -/
theorem zv8 : (Tryd.prog.info? 140).bind (fun i => i.zero.map (·.cells)) = some z8v := by kernel_rfl
/-- The starts' table lies where it lay. -/
structure Tst (w : World) : Prop where
  cell : ∀ i, i < 8 → w.cell? ⟨0, i, none⟩ = some (.int .u64 (sqs[i]! : Nat))
  lt : 0 < w.heap.size
theorem Tst.below {w w' : World} (h : Tst w) (hb : Below w.heap.size w w') : Tst w' :=
  ⟨fun i hi => (hb.cell (p := ⟨0, i, none⟩) h.lt).trans (h.cell i hi), Nat.lt_of_lt_of_le h.lt hb.size⟩
/-- What first256's rows lie in. -/
structure FI2 (w wr : World) (l : List Nat) : Prop where
  b0 : Blk wr w.heap.size 140 z8v
  b1 : Blk wr (w.heap.size + 1) 140 (Uw l).toArray
  be : Below w.heap.size w wr
theorem FI2.set {w wr : World} {l : List Nat} (h : FI2 w wr l) (k x : Nat) : FI2 w (wr.setCell ⟨w.heap.size + 1, k, none⟩ (.int .u32 (x : Int))) (l.set k x) where
  b0 := h.b0.far (by show w.heap.size ≠ w.heap.size + 1; omega) _
  b1 := by
    have h4 := h.b1.set k (.int .u32 (x : Int))
    rw [Uw_set] at h4
    exact h4
  be := h.be.setCell (by show w.heap.size ≤ w.heap.size + 1; omega) _
theorem sqs_lt {t : Nat} (h : t < 8) : sqs[t]! < 18446744073709551616 := by
  have h1 : ∀ x ∈ sqs, x < 18446744073709551616 := by decide
  have h2 : t < sqs.length := h
  rw [getElem!_pos sqs t h2]
  exact h1 _ (List.getElem_mem _)
def sqh (t : Nat) : Nat := sqs[t]! / 4294967296
def z8n : List Nat := [0, 0, 0, 0, 0, 0, 0, 0]
theorem first_all : mxl sqh z8n 8 = s256.start := by decide +kernel

set_option maxRecDepth 100000 in
set_option maxHeartbeats 2000000 in
theorem first256_f (w : World) (hT : Tst w) :
    Calls Tryd.prog 69 #[] w fun e w' => e = .returned (.agg (Uw s256.start).toArray) ∧ Below w.heap.size w w' := by
  rw [← first_all]
  have hlen : ∀ t, (mxl sqh z8n t).length = 8 := fun t => by rw [mxl_len]; rfl
  go_enter Tryd.func69, Tryd.ntmps69
  refine wp_seq_k fun K hK => ?_
  refine wp_region_lit ?_
  refine wpl_alloc (zs := z8v) rfl rfl zv8 ?_
  refine wpl_nil ?_
  go_simp
  refine hK _ _ ?_
  clear hK K
  refine wp_seq_k fun K hK => ?_
  refine wp_region_lit ?_
  refine wpl_alloc (zs := z8v) rfl rfl zv8 ?_
  refine wpl_nil ?_
  go_simp
  refine hK _ _ ?_
  clear hK K
  have hb2 : Blk ((w.alloc (.cells z8v 140)).alloc (.cells z8v 140)) (w.heap.size + 1) 140 z8v := by
    have h := Blk.new (w.alloc (.cells z8v 140)) 140 z8v
    rwa [World.size_alloc] at h
  refine wp_at (fun W => FI2 w W z8n) ⟨(Blk.new w _ _).alloc _, hb2, ((Below.refl _ _).alloc (Nat.le_refl _) _).alloc (by simp) _⟩ ?_
  intro W hW
  clear hb2
  have HW := Lib.hid hW
  clear hW
  go_wp2
  go_loopw [3] (fun i wr => ∃ t : Nat, t ≤ 8 ∧ i = .int .i64 t ∧ FI2 w wr (mxl sqh z8n t)) (fun i _ => 8 - (intOf i).toNat)
  case atStart =>
    refine ⟨0, by omega, rfl, ?_⟩
    rw [mxl_zero]
    exact HW.out
  case round =>
    clear HW
    obtain ⟨t, ht, rfl, hS⟩ := hrel
    by_cases htl : t < 8
    · have hN := hS.set t (sqh t)
      rw [mxl_set] at hN
      have hg := (hT.below hS.be).cell t htl
      have hlt := sqs_lt htl
      have c1 := (hS.b1.cell t).trans (Uw_at (by rw [hlen]; omega))
      have f1 := hS.b1.free t
      have e1 : sqh t = sqs[t]! / 4294967296 := rfl
      have hq : sqh t < 4294967296 := by omega
      have q1 : ((sqs[t]! : Nat) : Int) / 4294967296 = ((sqh t : Nat) : Int) := by omega
      have q2 : IntKind.u32.wrap ((sqh t : Nat) : Int) = ((sqh t : Nat) : Int) := by rw [IntKind.wrap_u32]; omega
      have g4 : (0 : Int) ≤ (t : Int) := by omega
      have HN := Lib.hid hN
      clear hS hN e1 hT hlen
      generalize sqh t = y at *
      generalize sqs[t]! = x at *
      generalize (mxl sqh z8n t)[t]! = old at *
      go_wp2
      go_roundw
      case rel => exact ⟨t + 1, by omega, by go_num, HN.out⟩
      case measure => simp [intOf]; omega
    · obtain rfl : t = 8 := by omega
      obtain ⟨b0, b1, be⟩ := hS
      have hz : (Uw (mxl sqh z8n 8)).toArray.size = 8 := by rw [List.size_toArray, Uw_len, hlen]
      clear hT
      go_wp2_with (first
        | (refine wpList_load_row rfl 140 _ rfl (w.heap.size + 1) rfl 140 (Uw (mxl sqh z8n 8)).toArray (0, 0) _ b1 Tryd.underlying140 rfl (size_v8 _ hz) ?_)
        | (refine wpList_store_row rfl 140 _ _ rfl w.heap.size rfl (Uw (mxl sqh z8n 8)).toArray rfl 140 _ b0 (size_v8 _ hz) (by rw [hz]; rfl) (Uw_one _) ?_))
      refine bodyPost_ret (results_cell_row rfl _ _ w.heap.size 140 (Uw (mxl sqh z8n 8)).toArray (0, 0) _ rfl (b0.row _) Tryd.underlying140 rfl (size_v8 _ hz)) rfl ⟨rfl, ?_⟩
      exact below_setRow be (Nat.le_refl _) _
end Go.Proofs.YtoecohpcnojokaaDoor
/-
  THE DIGESTS: what a full block does (the function that Sum256 hands over), and the message's end.
-/
namespace Go.Proofs.YtoecohpcnojokaaDoor
open Go.RowKit Go.IntWalk Nums

/-- The eight words lie in block gh, the last block's bytes in block gb; all below the one turns nothing else. -/
structure S6 (B gh gb : Nat) (w0 w : World) (o : Oct) (b : List UInt8) : Prop where
  h : Blk w gh 140 (Uw o.list).toArray
  m : Blk w gb 142 (By b).toArray
  ob : OB 32 o
  len : b.length = 64
  ts : Ts w
  be : Below B w0 w
  bh : B ≤ gh
  bb : B ≤ gb
  ne : gh ≠ gb
  ht : 1 < B
section
variable {B gh gb : Nat} {w0 w w' : World} {o : Oct} {b : List UInt8}
theorem S6.up (h : S6 B gh gb w0 w o b) (k : Below w.heap.size w w') (hB : B ≤ w.heap.size) : S6 B gh gb w0 w' o b :=
  ⟨h.h.later k, h.m.later k, h.ob, h.len, h.ts.below k, h.be.trans (k.mono hB), h.bh, h.bb, h.ne, h.ht⟩
theorem S6.rebase (h : S6 B gh gb w0 w o b) : S6 B gh gb w w o b := ⟨h.h, h.m, h.ob, h.len, h.ts, Below.refl _ _, h.bh, h.bb, h.ne, h.ht⟩
theorem S6.since {w1 : World} (h : S6 B gh gb w0 w o b) (k : Below B w1 w0) : S6 B gh gb w1 w o b := ⟨h.h, h.m, h.ob, h.len, h.ts, k.trans h.be, h.bh, h.bb, h.ne, h.ht⟩
theorem S6.size (h : S6 B gh gb w0 w o b) : B ≤ w.heap.size := Nat.le_of_lt (Nat.lt_of_le_of_lt h.bh h.h.lt)
theorem S6.setH (h : S6 B gh gb w0 w o b) {p : Oct} (hp : OB 32 p) : S6 B gh gb w0 (w.setRow gh (Uw p.list).toArray) p b :=
  ⟨h.h.row _, h.m.rowFar (Ne.symm h.ne) _, hp, h.len, h.ts.belowB (below_setRow (Below.refl B w) h.bh _) h.ht, below_setRow h.be h.bh _, h.bh, h.bb, h.ne, h.ht⟩
theorem S6.setM (h : S6 B gh gb w0 w o b) {c : List UInt8} (hc : c.length = 64) : S6 B gh gb w0 (w.setRow gb (By c).toArray) o c :=
  ⟨h.h.rowFar h.ne _, h.m.row _, h.ob, hc, h.ts.belowB (below_setRow (Below.refl B w) h.bb _) h.ht, below_setRow h.be h.bb _, h.bh, h.bb, h.ne, h.ht⟩
theorem S6.setB (h : S6 B gh gb w0 w o b) (k : Nat) (x : UInt8) : S6 B gh gb w0 (w.setCell ⟨gb, k, none⟩ (.int .u8 (x.toNat : Int))) o (b.set k x) where
  h := h.h.far (by show gh ≠ gb; exact h.ne) _
  m := by
    have h4 := h.m.set k (.int .u8 (x.toNat : Int))
    rw [By_set] at h4
    exact h4
  ob := h.ob
  len := by rw [List.length_set]; exact h.len
  ts := h.ts.belowB ((Below.refl B w).setCell (p := ⟨gb, k, none⟩) h.bb _) h.ht
  be := h.be.setCell h.bb _
  bh := h.bh
  bb := h.bb
  ne := h.ne
  ht := h.ht
end

set_option maxRecDepth 100000 in
set_option maxHeartbeats 1000000 in
theorem take256_f {B gh gb : Nat} {w0 w : World} {o : Oct} {b : List UInt8} (h : S6 B gh gb w0 w o b) :
    Calls Tryd.prog 71 #[.pointer (some ⟨gh, 0, none⟩), .pointer (some ⟨gb, 0, none⟩)] w fun e w' => e = .returned (.tuple #[]) ∧ S6 B gh gb w0 w' (turnw s256 o b) b := by
  have HT := turn256_f h.ob h.len w h.ts
  have kh := h.h
  have km := h.m
  have hz : (Uw o.list).toArray.size = 8 := rfl
  have hz2 : (Uw (turnw s256 o b).list).toArray.size = 8 := rfl
  have hb128 := len_b64 h.len
  have hp := OB.turnw s256 o b
  have HK := Lib.hid h
  clear h
  generalize turnw s256 o b = p at *
  go_enter Tryd.func71, Tryd.ntmps71
  go_wp2_with (first
    | (refine wpList_load_row rfl 140 _ rfl gh rfl 140 (Uw o.list).toArray (0, 0) _ kh Tryd.underlying140 rfl (size_v8 _ hz) ?_)
    | (refine wpList_load_row rfl 142 _ rfl gb rfl 142 (By b).toArray (0, 0) _ km Tryd.underlying142 rfl (size_b64 _ hb128) ?_))
  refine HT.mono ?_
  rintro e w1 ⟨rfl, hw1⟩
  have h1 := HK.out.up hw1 HK.out.size
  have kh1 := h1.h
  have H2 := Lib.hid (h1.setH hp)
  clear h1 hw1 HT kh km
  go_wp2_with (refine wpList_store_row rfl 140 _ _ rfl gh rfl (Uw p.list).toArray rfl 140 _ kh1 (size_v8 _ hz2) (by rw [hz, hz2]) (Uw_one _) ?_)
  go_end0
  exact ⟨rfl, H2.out⟩

set_option maxRecDepth 100000 in
set_option maxHeartbeats 4000000 in
theorem end256_f {B gh gb : Nat} {w0 w : World} {o : Oct} {b : List UInt8} (h : S6 B gh gb w0 w o b) (r v : Nat) (hr : r < 64) :
    Calls Tryd.prog 75 #[.slice (some ⟨gb, 0, none⟩) 64 64, .int .i64 (r : Int), .int .u64 (v : Int), .func (.func 71) #[] #[.pointer (some ⟨gh, 0, none⟩), .pointer (some ⟨gb, 0, none⟩)]] w fun e w' =>
      e = .returned (.tuple #[]) ∧ ∃ b', S6 B gh gb w0 w' (runw s256 64 o (b.take r ++ tailw 64 r (8 * v))) b' := by
  have hlen := h.len
  have h1 := end_one (s := s256) (o := o) (v := 8 * v) (n := 64) (by omega) hlen hr
  have h2 := end_two (s := s256) (o := o) (v := 8 * v) (n := 64) (by omega) hlen hr
  have hcl := clr_set hlen hr
  have hS1 : S6 B gh gb w0 (w.setCell ⟨gb, r, none⟩ (.int .u8 128)) o (b.set r 128) := h.setB r 128
  have hsl : (b.set r 128).length = 64 := by rw [List.length_set]; exact hlen
  have hm1 := hS1.m
  have hS2 := hS1.setM (c := clr (b.set r 128) (r + 1)) (by rw [clr_len (by rw [hsl]; omega)]; exact hsl)
  rw [hcl] at hS2
  have hc0 := (h.m.cell r).trans (By_get (by omega))
  have hf0 := h.m.free r
  generalize (b[r]!).toNat = old at *
  have hl1 : (b.take r ++ 128 :: List.replicate (64 - 1 - r) 0).length = 64 := by
    rw [List.length_append, List.length_take, List.length_cons, List.length_replicate]
    omega
  obtain ⟨c1, hc1⟩ : ∃ c, c = b.take r ++ 128 :: List.replicate (64 - 1 - r) 0 := ⟨_, rfl⟩
  rw [← hc1] at hcl hS2 hl1 h1 h2
  have HC := Lib.hid hcl
  have HK := Lib.hid (And.intro h hS2)
  have hr2 : (r : Int) < 64 := by omega
  have hr3 : (0 : Int) ≤ (r : Int) := by omega
  have hx := be64_mod (8 * v)
  have hxe := be64_len (8 * v)
  have hxg := fun i hi => be64_get (v := 8 * v % 18446744073709551616) (i := i) hi
  rw [hx] at hxg
  have hv8 : IntKind.u64.wrap ((v : Int) * 8) = ((8 * v % 18446744073709551616 : Nat) : Int) := by rw [IntKind.wrap_u64]; omega
  have hvb : 8 * v % 18446744073709551616 < 18446744073709551616 := Nat.mod_lt _ (by decide)
  generalize be64 (8 * v) = E at *
  generalize 8 * v % 18446744073709551616 = y at *
  clear hS2 hx h hc1 hcl
  rcases (show r = 63 ∨ r + 1 ≤ 56 ∨ (56 < r + 1 ∧ r < 63) by omega) with rfl | hc | ⟨hc, h63⟩
  · rw [show ((63 : Nat) : Int) = (63 : Int) from rfl]
    go_enter Tryd.func75, Tryd.ntmps75
    go_wp2_with (refine wpl_clear (.tmp 16) rfl rfl gb 64 0 0 (some ⟨gb, 0, none⟩) rfl (fun h => absurd h (by decide)) (b.set 63 128) 142 hm1 (by rw [hsl]) c1 HC ?_)
    have hS := HK.out.2
    clear HK hm1 hc0 hf0 hS1
    refine (take256_f hS).mono ?_
    rintro z w3 ⟨rfl, hS3⟩
    have hm3 := hS3.m
    have hS4 := hS3.setM (c := clr c1 0) (by rw [clr_len (by omega)]; exact hl1)
    have hz4 : clr c1 0 = List.replicate 64 0 := by rw [clr_all, hl1]
    have HF := Lib.hid (h2 (by omega))
    rw [hz4] at hS4
    have hl : (List.replicate 64 (0 : UInt8)).length = 64 := List.length_replicate
    generalize List.replicate 64 (0 : UInt8) = c at *
    generalize turnw s256 o c1 = p at *
    have HZ := Lib.hid hz4
    have HS := Lib.hid hS4
    clear hS hS3 h1 h2 hS4 hz4
    go_wp2_with (refine wpl_clear (.tmp 28) rfl rfl gb 0 64 64 (some ⟨gb, 0, none⟩) rfl (fun _ => rfl) c1 142 hm3 (by rw [hl1]) c HZ ?_)
    clear hm3
    go_loopw [31, 8] (fun i u wr => ∃ k : Nat, k ≤ 8 ∧ i = .int .i64 k ∧ u = .int .u64 ((y / 256 ^ k : Nat) : Int) ∧ S6 B gh gb w0 wr p (eig c E 64 k)) (fun i _ _ => 8 - (intOf i).toNat)
    case atStart =>
      refine ⟨0, by omega, rfl, by rw [Nat.pow_zero, Nat.div_one], ?_⟩
      rw [eig_zero hl hxe]
      exact HS.out
    case round =>
      clear HS
      obtain ⟨k, hk, rfl, rfl, hS⟩ := hrel
      by_cases hkl : k < 8
      · have hN := hS.setB (63 - k) E[7 - k]!
        have hset := eig_set hl hxe hkl (by omega)
        rw [show 64 - 1 - k = 63 - k by omega] at hset
        rw [hset] at hN
        have hb := hxg k hkl
        have hdiv : y / 256 ^ (k + 1) = y / 256 ^ k / 256 := by rw [Nat.pow_succ, Nat.div_div_eq_div_mul]
        have hle : y / 256 ^ k < 18446744073709551616 := Nat.lt_of_le_of_lt (Nat.div_le_self _ _) hvb
        have c2 := (hS.m.cell (63 - k)).trans (By_get (by rw [eig_len hl hxe (by omega) (by omega)]; omega))
        have f2 := hS.m.free (63 - k)
        generalize y / 256 ^ k = z at *
        have q4 : IntKind.u8.wrap (z : Int) = ((E[7 - k]!).toNat : Int) := by
          rw [IntKind.wrap_u8', hb]
          omega
        have q5 : (z : Int) / 256 = ((z / 256 : Nat) : Int) := by omega
        have g5 : (0 : Int) ≤ (k : Int) := by omega
        have HN := Lib.hid (And.intro hN hdiv)
        clear hS hN hdiv hb hset hxg
        generalize (E[7 - k]!).toNat = x at *
        generalize ((eig c E 64 k)[63 - k]!).toNat = old2 at *
        generalize z / 256 = z2 at *
        go_wp2
        go_roundw
        case rel =>
          obtain ⟨hN, hdiv⟩ := HN.out
          exact ⟨k + 1, by omega, by go_num, by rw [hdiv], hN⟩
        case measure => simp [intOf]; omega
      · obtain rfl : k = 8 := by omega
        have HT := take256_f hS
        rw [HF.out] at HT
        have HT := Lib.hid HT
        clear hS hxg
        go_wp2_with (fail)
        refine HT.out.mono ?_
        rintro z w5 ⟨rfl, hS6⟩
        go_wp2_with (fail)
        go_end0
        exact ⟨rfl, _, hS6⟩
  · go_enter Tryd.func75, Tryd.ntmps75
    go_wp2_with (refine wpl_clear (.tmp 16) rfl rfl gb (r + 1) (63 - r) (63 - r) (some ⟨gb, r + 1, none⟩) rfl (fun _ => rfl) (b.set r 128) 142 hm1 (by rw [hsl]; omega) c1 HC ?_)
    have HF := Lib.hid (h1 (by omega))
    have HS := Lib.hid HK.out.2
    have hl := hl1
    clear HK h1 h2 hl1 hm1 hc0 hf0 hS1
    generalize c1 = c at *
    go_loopw [31, 8] (fun i u wr => ∃ k : Nat, k ≤ 8 ∧ i = .int .i64 k ∧ u = .int .u64 ((y / 256 ^ k : Nat) : Int) ∧ S6 B gh gb w0 wr o (eig c E 64 k)) (fun i _ _ => 8 - (intOf i).toNat)
    case atStart =>
      refine ⟨0, by omega, rfl, by rw [Nat.pow_zero, Nat.div_one], ?_⟩
      rw [eig_zero hl hxe]
      exact HS.out
    case round =>
      clear HS
      obtain ⟨k, hk, rfl, rfl, hS⟩ := hrel
      by_cases hkl : k < 8
      · have hN := hS.setB (63 - k) E[7 - k]!
        have hset := eig_set hl hxe hkl (by omega)
        rw [show 64 - 1 - k = 63 - k by omega] at hset
        rw [hset] at hN
        have hb := hxg k hkl
        have hdiv : y / 256 ^ (k + 1) = y / 256 ^ k / 256 := by rw [Nat.pow_succ, Nat.div_div_eq_div_mul]
        have hle : y / 256 ^ k < 18446744073709551616 := Nat.lt_of_le_of_lt (Nat.div_le_self _ _) hvb
        have c2 := (hS.m.cell (63 - k)).trans (By_get (by rw [eig_len hl hxe (by omega) (by omega)]; omega))
        have f2 := hS.m.free (63 - k)
        generalize y / 256 ^ k = z at *
        have q4 : IntKind.u8.wrap (z : Int) = ((E[7 - k]!).toNat : Int) := by
          rw [IntKind.wrap_u8', hb]
          omega
        have q5 : (z : Int) / 256 = ((z / 256 : Nat) : Int) := by omega
        have g5 : (0 : Int) ≤ (k : Int) := by omega
        have HN := Lib.hid (And.intro hN hdiv)
        clear hS hN hdiv hb hset hxg
        generalize (E[7 - k]!).toNat = x at *
        generalize ((eig c E 64 k)[63 - k]!).toNat = old2 at *
        generalize z / 256 = z2 at *
        go_wp2
        go_roundw
        case rel =>
          obtain ⟨hN, hdiv⟩ := HN.out
          exact ⟨k + 1, by omega, by go_num, by rw [hdiv], hN⟩
        case measure => simp [intOf]; omega
      · obtain rfl : k = 8 := by omega
        have HT := take256_f hS
        rw [HF.out] at HT
        have HT := Lib.hid HT
        clear hS hxg
        go_wp2_with (fail)
        refine HT.out.mono ?_
        rintro z w5 ⟨rfl, hS6⟩
        go_wp2_with (fail)
        go_end0
        exact ⟨rfl, _, hS6⟩
  · go_enter Tryd.func75, Tryd.ntmps75
    go_wp2_with (refine wpl_clear (.tmp 16) rfl rfl gb (r + 1) (63 - r) (63 - r) (some ⟨gb, r + 1, none⟩) rfl (fun _ => rfl) (b.set r 128) 142 hm1 (by rw [hsl]; omega) c1 HC ?_)
    have hS := HK.out.2
    clear HK hm1 hc0 hf0 hS1
    refine (take256_f hS).mono ?_
    rintro z w3 ⟨rfl, hS3⟩
    have hm3 := hS3.m
    have hS4 := hS3.setM (c := clr c1 0) (by rw [clr_len (by omega)]; exact hl1)
    have hz4 : clr c1 0 = List.replicate 64 0 := by rw [clr_all, hl1]
    have HF := Lib.hid (h2 (by omega))
    rw [hz4] at hS4
    have hl : (List.replicate 64 (0 : UInt8)).length = 64 := List.length_replicate
    generalize List.replicate 64 (0 : UInt8) = c at *
    generalize turnw s256 o c1 = p at *
    have HZ := Lib.hid hz4
    have HS := Lib.hid hS4
    clear hS hS3 h1 h2 hS4 hz4
    go_wp2_with (refine wpl_clear (.tmp 28) rfl rfl gb 0 64 64 (some ⟨gb, 0, none⟩) rfl (fun _ => rfl) c1 142 hm3 (by rw [hl1]) c HZ ?_)
    clear hm3
    go_loopw [31, 8] (fun i u wr => ∃ k : Nat, k ≤ 8 ∧ i = .int .i64 k ∧ u = .int .u64 ((y / 256 ^ k : Nat) : Int) ∧ S6 B gh gb w0 wr p (eig c E 64 k)) (fun i _ _ => 8 - (intOf i).toNat)
    case atStart =>
      refine ⟨0, by omega, rfl, by rw [Nat.pow_zero, Nat.div_one], ?_⟩
      rw [eig_zero hl hxe]
      exact HS.out
    case round =>
      clear HS
      obtain ⟨k, hk, rfl, rfl, hS⟩ := hrel
      by_cases hkl : k < 8
      · have hN := hS.setB (63 - k) E[7 - k]!
        have hset := eig_set hl hxe hkl (by omega)
        rw [show 64 - 1 - k = 63 - k by omega] at hset
        rw [hset] at hN
        have hb := hxg k hkl
        have hdiv : y / 256 ^ (k + 1) = y / 256 ^ k / 256 := by rw [Nat.pow_succ, Nat.div_div_eq_div_mul]
        have hle : y / 256 ^ k < 18446744073709551616 := Nat.lt_of_le_of_lt (Nat.div_le_self _ _) hvb
        have c2 := (hS.m.cell (63 - k)).trans (By_get (by rw [eig_len hl hxe (by omega) (by omega)]; omega))
        have f2 := hS.m.free (63 - k)
        generalize y / 256 ^ k = z at *
        have q4 : IntKind.u8.wrap (z : Int) = ((E[7 - k]!).toNat : Int) := by
          rw [IntKind.wrap_u8', hb]
          omega
        have q5 : (z : Int) / 256 = ((z / 256 : Nat) : Int) := by omega
        have g5 : (0 : Int) ≤ (k : Int) := by omega
        have HN := Lib.hid (And.intro hN hdiv)
        clear hS hN hdiv hb hset hxg
        generalize (E[7 - k]!).toNat = x at *
        generalize ((eig c E 64 k)[63 - k]!).toNat = old2 at *
        generalize z / 256 = z2 at *
        go_wp2
        go_roundw
        case rel =>
          obtain ⟨hN, hdiv⟩ := HN.out
          exact ⟨k + 1, by omega, by go_num, by rw [hdiv], hN⟩
        case measure => simp [intOf]; omega
      · obtain rfl : k = 8 := by omega
        have HT := take256_f hS
        rw [HF.out] at HT
        have HT := Lib.hid HT
        clear hS hxg
        go_wp2_with (fail)
        refine HT.out.mono ?_
        rintro z w5 ⟨rfl, hS6⟩
        go_wp2_with (fail)
        go_end0
        exact ⟨rfl, _, hS6⟩
end Go.Proofs.YtoecohpcnojokaaDoor
/-
  THE DIGESTS: fill: the parts' bytes, block by block; Sum256's.
-/
namespace Go.Proofs.YtoecohpcnojokaaDoor
open Go.RowKit Go.IntWalk Nums

/-- The message m so far: whole blocks a, and t in the last one. -/
structure FS6 (B gh gb : Nat) (w wr : World) (o : Oct) (m : List UInt8) (a t b : List UInt8) (k : Nat) : Prop where
  em : m = a ++ t
  ea : a.length = k * 64
  et : t.length < 64
  es : S6 B gh gb w wr (runw s256 64 o a) b
  eb : b.take t.length = t
set_option maxRecDepth 100000 in
set_option maxHeartbeats 4000000 in
theorem fill256_f {B gh gb : Nat} {w : World} {o : Oct} {b : List UInt8} (h : S6 B gh gb w w o b) (A : Option Addr) (ls : List (List UInt8)) (pc : Nat) (hA : Parts w B A ls) (hpc : ls.length ≤ pc) (hpm : pc ≤ 9223372036854775807) :
    Calls Tryd.prog 70 #[.slice (some ⟨gb, 0, none⟩) 64 64, .slice A ls.length pc, .func (.func 71) #[] #[.pointer (some ⟨gh, 0, none⟩), .pointer (some ⟨gb, 0, none⟩)]] w fun e w' =>
      e = .returned (.tuple #[]) ∧ ∃ b', S6 B gh gb w w' (runw s256 64 o (ls.flatten ++ tailw 64 (ls.flatten.length % 64) (8 * ls.flatten.length))) b' := by
  have h0 : FS6 B gh gb w w o (ls.take 0).flatten [] [] b 0 := by
    refine ⟨by simp, by simp, by simp, ?_, by simp⟩
    have e := runw_short (s := s256) (B := 64) (o := o) (l := []) (by simp)
    rw [e]
    exact h
  have H0 := Lib.hid h0
  have HA := Lib.hid hA
  clear h h0 hA
  go_enter Tryd.func70, Tryd.ntmps70
  go_wp2
  go_loopw [13, 6, 7] (fun i f z wr => ∃ n : Nat, n ≤ ls.length ∧ i = .int .i64 n ∧ ∃ a t b k, f = .int .i64 ((t : List UInt8).length : Nat) ∧ z = .int .u64 (((ls.take n).flatten.length % 18446744073709551616 : Nat) : Int) ∧ FS6 B gh gb w wr o (ls.take n).flatten a t b k) (fun i _ _ _ => ls.length - (intOf i).toNat)
  case atStart => exact ⟨0, by omega, rfl, [], [], b, 0, rfl, rfl, H0.out⟩
  case round =>
    clear H0
    obtain ⟨n, hn, rfl, a, t, b, k, rfl, rfl, hF⟩ := hrel
    by_cases hnl : n < ls.length
    · obtain ⟨ad, rfl, had, hcell⟩ := HA.out.below hF.es.be (Nat.le_refl _) (by omega)
      obtain ⟨P, c, hx, hsl⟩ := hcell n ls[n] (List.getElem?_eq_getElem hnl)
      have hfl := flat_take ls n hnl
      have hsz : IntKind.u64.wrap ((((ls.take n).flatten.length % 18446744073709551616 : Nat) : Int) + (ls[n].length : Int)) = (((ls.take (n + 1)).flatten.length % 18446744073709551616 : Nat) : Int) := by
        rw [hfl, List.length_append, IntKind.wrap_u64]
        omega
      have HL := Lib.hid hfl
      have hl1 := hsl.1
      have hl2 := hsl.2.1
      have hwn : IntKind.u64.wrap (ls[n].length : Int) = (ls[n].length : Int) := wrapN _ (by omega)
      have HS := Lib.hid (And.intro hF hsl)
      clear hF hsl hcell hfl
      obtain ⟨zn, hzn⟩ : ∃ z, (ls.take (n + 1)).flatten.length % 18446744073709551616 = z := ⟨_, rfl⟩
      rw [hzn] at hsz
      have HZN := Lib.hid hzn
      clear hzn
      generalize (ls.take n).flatten.length % 18446744073709551616 = z0 at *
      generalize ls[n] = l at *
      go_wp2
      go_loopw [9, 6] (fun p f wq => ∃ d r P c a t b k, l = d ++ r ∧ p = .slice P (r : List UInt8).length c ∧ f = .int .i64 ((t : List UInt8).length : Nat) ∧ SL wq 0 B P r c ∧ FS6 B gh gb w wq o ((ls.take n).flatten ++ d) a t b k) (fun p _ _ => lenv p)
      case atStart =>
        obtain ⟨hF, hsl⟩ := HS.out
        refine ⟨[], l, P, c, a, t, b, k, rfl, rfl, rfl, hsl, ?_⟩
        rw [List.append_nil]
        exact hF
      case round =>
        clear HS hwn hsz hx hl1 hl2
        obtain ⟨d, r, P, c, a, t, b, k, hd, rfl, rfl, hsl, hF⟩ := hrel
        by_cases hr : 0 < r.length
        · skip
          have hm0 := hF.es.m
          have hlt := hF.et
          have hz128 := hF.es.len
          have hbv := hsl.2.2.2
          have hs1 := hsl.1
          have hs2 := hsl.2.1
          have hcut := hsl.cut (k := min r.length (64 - t.length)) (Nat.min_le_left _ _)
          have htl := cop_take (r := r) (n := 64) hF.eb
          have hzl : (cop b t.length (r.take (64 - t.length))).length = 64 := by
            rw [cop_len (by rw [List.length_take]; omega)]
            exact hz128
          have hS2 := hF.es.setM hzl
          obtain ⟨z', hz'⟩ : ∃ z, cop b t.length (r.take (64 - t.length)) = z := ⟨_, rfl⟩
          obtain ⟨m, hm⟩ : ∃ m, min r.length (64 - t.length) = m := ⟨_, rfl⟩
          rw [hz'] at hS2 hzl htl
          rw [hm] at hcut htl
          have HZ := Lib.hid hz'
          have HM := Lib.hid hm
          have hrd : (r.drop m).length = r.length - m := List.length_drop
          have hmr : m ≤ r.length := by omega
          have hmt : t.length + m ≤ 64 := by omega
          have hm1 : 0 < m := by omega
          have hq : IntKind.i64.wrap ((t.length : Int) + (m : Int)) = ((t.length + m : Nat) : Int) := by rw [i64_left, wrap64_in _ (by omega)]; omega
          have hsl2 : SL (wr.setRow gb (By z').toArray) 0 B (if c = m then P else P.map (·.add m)) (r.drop m) (c - m) := hcut.below (below_setRow (Below.refl B wr) hF.es.bb _) (Nat.le_refl _)
          have hd2 : l = (d ++ r.take m) ++ r.drop m := by rw [hd, List.append_assoc, List.take_append_drop]
          have htm : r.take (64 - t.length) = r.take m := by
            rw [← hm]
            by_cases hh : r.length ≤ 64 - t.length
            · rw [Nat.min_eq_left hh, List.take_of_length_le hh, List.take_of_length_le (Nat.le_refl _)]
            · rw [Nat.min_eq_right (by omega)]
          rw [htm] at htl
          have hem := hF.em
          have hea := hF.ea
          have HS := Lib.hid (And.intro hS2 (And.intro hsl2 (And.intro hd2 (And.intro htl (And.intro hem hea)))))
          clear hF hsl hcut hS2 hsl2 hd hd2 htl htm hm hz' hem hea
          by_cases hf : t.length + m < 64
          · by_cases hck : c = m
            · have hck2 := hck.symm
              subst hck2
              go_wp2_with (refine wpl_copy (.tmp 27) (.tmp 28) rfl rfl gb t.length (64 - t.length) (64 - t.length) rfl P r m rfl b 142 hm0 0 B hbv (by rw [hz128]; omega) z' HZ m HM ?_)
              go_roundw
              case rel =>
                obtain ⟨hS2, hsl2, hd2, htl, hem, hea⟩ := HS.out
                first | rw [if_pos rfl] at hsl2 | rw [if_pos trivial] at hsl2
                refine ⟨d ++ r.take m, r.drop m, P, m - m, a, t ++ r.take m, z', k, hd2, by rw [hrd, show r.length - m = 0 by omega, Nat.sub_self], ?_, hsl2, ?_, hea, ?_, hS2, ?_⟩
                · rw [List.length_append, List.length_take, Nat.min_eq_left hmr]
                  go_num
                · rw [← List.append_assoc, hem, List.append_assoc]
                · rw [List.length_append, List.length_take, Nat.min_eq_left hmr]
                  exact hf
                · rw [List.length_append, List.length_take, Nat.min_eq_left hmr]
                  exact htl
              case measure => simp [lenv]; omega
            · skip
              go_wp2_with (refine wpl_copy (.tmp 27) (.tmp 28) rfl rfl gb t.length (64 - t.length) (64 - t.length) rfl P r c rfl b 142 hm0 0 B hbv (by rw [hz128]; omega) z' HZ m HM ?_)
              go_roundw
              case rel =>
                obtain ⟨hS2, hsl2, hd2, htl, hem, hea⟩ := HS.out
                rw [if_neg hck] at hsl2
                refine ⟨d ++ r.take m, r.drop m, (P.map (·.add m)), c - m, a, t ++ r.take m, z', k, hd2, by rw [hrd], ?_, hsl2, ?_, hea, ?_, hS2, ?_⟩
                · rw [List.length_append, List.length_take, Nat.min_eq_left hmr]
                  go_num
                · rw [← List.append_assoc, hem, List.append_assoc]
                · rw [List.length_append, List.length_take, Nat.min_eq_left hmr]
                  exact hf
                · rw [List.length_append, List.length_take, Nat.min_eq_left hmr]
                  exact htl
              case measure => simp [lenv]; omega
          · have hf : t.length + m = 64 := by omega
            by_cases hck : c = m
            · have hck2 := hck.symm
              subst hck2
              go_wp2_with (refine wpl_copy (.tmp 27) (.tmp 28) rfl rfl gb t.length (64 - t.length) (64 - t.length) rfl P r m rfl b 142 hm0 0 B hbv (by rw [hz128]; omega) z' HZ m HM ?_)
              refine (take256_f HS.out.1.rebase).mono ?_
              rintro e w4 ⟨rfl, hS4⟩
              go_wp2_with (fail)
              go_roundw
              case rel =>
                obtain ⟨hS2, hsl2, hd2, htl, hem, hea⟩ := HS.out
                first | rw [if_pos rfl] at hsl2 | rw [if_pos trivial] at hsl2
                have hzz : z' = t ++ r.take m := by
                  rw [← htl, hf, List.take_of_length_le (by omega)]
                have hfull := run_full (s := s256) (n := 64) (o := o) (by decide) hea hzl
                rw [hfull] at hS4
                refine ⟨d ++ r.take m, r.drop m, P, m - m, a ++ z', [], z', k + 1, hd2, by rw [hrd, show r.length - m = 0 by omega, Nat.sub_self], rfl, ?_, ?_, ?_, by decide, hS4.since hS2.be, rfl⟩
                · exact hsl2.below hS4.be (Nat.le_refl _)
                · rw [List.append_nil, hzz, ← List.append_assoc, hem, List.append_assoc]
                · rw [List.length_append, hea, hzl, Nat.add_mul, Nat.one_mul]
              case measure => simp [lenv]; omega
            · skip
              go_wp2_with (refine wpl_copy (.tmp 27) (.tmp 28) rfl rfl gb t.length (64 - t.length) (64 - t.length) rfl P r c rfl b 142 hm0 0 B hbv (by rw [hz128]; omega) z' HZ m HM ?_)
              refine (take256_f HS.out.1.rebase).mono ?_
              rintro e w4 ⟨rfl, hS4⟩
              go_wp2_with (fail)
              go_roundw
              case rel =>
                obtain ⟨hS2, hsl2, hd2, htl, hem, hea⟩ := HS.out
                rw [if_neg hck] at hsl2
                have hzz : z' = t ++ r.take m := by
                  rw [← htl, hf, List.take_of_length_le (by omega)]
                have hfull := run_full (s := s256) (n := 64) (o := o) (by decide) hea hzl
                rw [hfull] at hS4
                refine ⟨d ++ r.take m, r.drop m, (P.map (·.add m)), c - m, a ++ z', [], z', k + 1, hd2, by rw [hrd], rfl, ?_, ?_, ?_, by decide, hS4.since hS2.be, rfl⟩
                · exact hsl2.below hS4.be (Nat.le_refl _)
                · rw [List.append_nil, hzz, ← List.append_assoc, hem, List.append_assoc]
                · rw [List.length_append, hea, hzl, Nat.add_mul, Nat.one_mul]
              case measure => simp [lenv]; omega
        · have hr0 : r = [] := List.eq_nil_of_length_eq_zero (by omega)
          subst hr0
          rw [List.append_nil] at hd
          subst hd
          have HF := Lib.hid hF
          clear hF hsl
          go_wp2
          go_roundw
          case rel =>
            refine ⟨n + 1, by omega, by go_num, a, t, b, k, rfl, ?_, ?_⟩
            · rw [HZN.out]
            · rw [HL.out]
              exact HF.out
          case measure => simp [intOf]; omega
    · obtain rfl : n = ls.length := by omega
      rw [List.take_length] at hF ⊢
      have hE := end256_f hF.es t.length (ls.flatten.length % 18446744073709551616) hF.et
      rw [tailw_mod, hF.eb, run_end (by decide) hF.ea, ← hF.em] at hE
      have hmod : t.length = ls.flatten.length % 64 := by
        have h1 := hF.ea
        have h2 := hF.et
        rw [hF.em, List.length_append]
        omega
      have HE := Lib.hid hE
      have HMO := Lib.hid hmod
      clear hE hF hmod
      generalize ls.flatten.length % 18446744073709551616 = zz at *
      go_wp2_with (fail)
      refine HE.out.mono ?_
      rintro e w4 ⟨rfl, hS4⟩
      go_wp2_with (fail)
      go_end0
      rw [HMO.out] at hS4
      exact ⟨rfl, hS4⟩
end Go.Proofs.YtoecohpcnojokaaDoor
/-
  THE DIGESTS: Sum256.
-/
namespace Go.Proofs.YtoecohpcnojokaaDoor
open Go.RowKit Go.IntWalk Nums

theorem own_first256 : Own 69 := fun _ _ => by go_simp
def start256 : Oct := ⟨s256.start[0]!, s256.start[1]!, s256.start[2]!, s256.start[3]!, s256.start[4]!, s256.start[5]!, s256.start[6]!, s256.start[7]!⟩
theorem start256_ob : OB 32 start256 := by
  constructor <;> decide
theorem start256_list : start256.list = s256.start := by decide
theorem OB.list_lt2 {o : Oct} (h : OB 32 o) : ∀ x ∈ o.list, x < 4294967296 := by
  intro x hx
  simp only [Oct.list, List.mem_cons, List.not_mem_nil, or_false] at hx
  rcases hx with rfl | rfl | rfl | rfl | rfl | rfl | rfl | rfl
  · exact h.a
  · exact h.b
  · exact h.c
  · exact h.d
  · exact h.e
  · exact h.f
  · exact h.g
  · exact h.h

set_option maxRecDepth 100000 in
set_option maxHeartbeats 2000000 in
theorem sum256_f (A : Option Addr) (ls : List (List UInt8)) (pc : Nat) (w : World) (hT : Tsh w) (hA : Parts w w.heap.size A ls) (hpc : ls.length ≤ pc) (hpm : pc ≤ 9223372036854775807) :
    Calls Tryd.prog 57 #[.slice A ls.length pc] w fun e w' => e = .returned (.agg (By (digest s256 ls.flatten)).toArray) ∧ Below w.heap.size w w' := by
  have hD : digest s256 ls.flatten = ((runw s256 64 start256 (ls.flatten ++ tailw 64 (ls.flatten.length % 64) (8 * ls.flatten.length))).list.map (layw s256)).flatten := rfl
  rw [hD]
  clear hD
  have hTs : Tst w := ⟨hT.cell, hT.lt⟩
  generalize hR : runw s256 64 start256 (ls.flatten ++ tailw 64 (ls.flatten.length % 64) (8 * ls.flatten.length)) = R at *
  have HR := Lib.hid hR
  clear hR
  go_enter Tryd.func57, Tryd.ntmps57
  refine wp_seq_k fun K hK => ?_
  refine wp_region_lit ?_
  refine wpl_alloc (zs := (By z32b).toArray) rfl rfl zb32 ?_
  refine wpl_nil ?_
  go_simp
  refine hK _ _ ?_
  clear hK K
  refine wp_at (fun W => Blk W w.heap.size 38 (By z32b).toArray ∧ Below w.heap.size w W ∧ w.heap.size < W.heap.size) ⟨Blk.new w _ _, (Below.refl _ _).alloc (Nat.le_refl _) _, by rw [World.size_alloc]; omega⟩ ?_
  rintro W ⟨ho, hbe, hsz⟩
  refine wp_seq_k fun K hK => ?_
  refine reg_varF 1 3 140 (.tmp 5) z8v rfl rfl rfl rfl rfl rfl rfl (exec_alloc rfl (by kernel_rfl)) ?_
  simp only [List.take_succ_cons, List.take_zero]
  refine b_oneC rfl own_first256 (fun w1 h => first256_f w1 (hTs.below (Below.mono hbe (Nat.le_refl _)) |>.below h)) rfl rfl ?_
  simp only [Act.put, List.setIfInBounds_toArray, List.set_cons_zero, List.set_cons_succ]
  refine wpB_nil ⟨(Uw s256.start).toArray, fun _ => rfl, fun _ => rfl, rfl, size_v8 _ rfl, Uw_one _, fun gh W1 hgh hw1 hbh => ?_⟩
  simp only [Exit.then, Act.put, List.setIfInBounds_toArray, List.set_cons_zero, List.set_cons_succ]
  refine hK _ _ ?_
  clear hK K
  have ho := hw1.blk ho
  have hbe := below_up hbe hw1
  clear hw1
  have hng := hbh.lt
  refine wp_seq_k fun K hK => ?_
  refine wp_region_lit ?_
  refine wpl_alloc (zs := (By z64b).toArray) rfl rfl zb64 ?_
  refine wpl_nil ?_
  go_simp
  refine hK _ _ ?_
  clear hK K
  have ho := ho.alloc (.cells (By z64b).toArray 142)
  have hbh := hbh.alloc (.cells (By z64b).toArray 142)
  have hbe := hbe.alloc hbe.size (.cells (By z64b).toArray 142)
  have hbb := Blk.new W1 142 (By z64b).toArray
  generalize W1.alloc (.cells (By z64b).toArray 142) = W2 at *
  generalize W1.heap.size = gb at *
  have hTw := hT.below hbe
  rw [← start256_list] at hbh
  have hsgh : w.heap.size < gh := Nat.lt_of_lt_of_le hsz hgh
  have hS : S6 gh gh gb W2 W2 start256 z64b := ⟨hbh, hbb, start256_ob, rfl, hTw.steps, Below.refl _ _, Nat.le_refl _, Nat.le_of_lt hng, Nat.ne_of_lt hng, Nat.lt_of_lt_of_le hT.steps.lt (Nat.le_of_lt hsgh)⟩
  have hP : Parts W2 gh A ls := fun hl => by
    obtain ⟨ad, e, h1, h2⟩ := (hA.below hbe (Nat.le_refl _)) hl
    refine ⟨ad, e, Nat.lt_trans h1 hsgh, fun i l hi => ?_⟩
    obtain ⟨A', c', h3, h4⟩ := h2 i l hi
    exact ⟨A', c', h3, h4.more (Nat.le_refl _) (Nat.le_of_lt hsgh)⟩
  have HF := Lib.hid (fill256_f hS A ls pc hP hpc hpm)
  have hmf : ∀ (fn : Fn) (first cap : Array Value) (w : World), (Instr.makeFunc fn first cap).run Tryd.prog w = .ok (.func fn first cap) w := fun _ _ _ _ => rfl
  have HK := Lib.hid (And.intro ho hbe)
  clear hS hP hTw hbb hbh ho hbe hA hT
  go_wp2_with (fail)
  refine HF.out.mono ?_
  rintro e W3 ⟨rfl, b', hS3⟩
  rw [HR.out] at hS3
  have kh := hS3.h
  have hb3 := hS3.be
  have hzr : (Uw R.list).toArray.size = 8 := rfl
  have HL := Lib.hid (fun w1 => lay256_f (l := R.list) rfl (OB.list_lt2 hS3.ob) w1)
  have hko : Blk W3 w.heap.size 38 (By z32b).toArray := HK.out.1.below hb3 hsgh
  have hbe3 : Below w.heap.size w W3 := HK.out.2.trans (hb3.mono (Nat.le_of_lt hsgh))
  clear HF HK hS3 hb3 hmf
  go_wp2_with (refine wpList_load_row rfl 140 _ rfl gh rfl 140 (Uw R.list).toArray (0, 0) _ kh Tryd.underlying140 rfl (size_v8 _ hzr) ?_)
  refine (HL.out _).mono ?_
  rintro e W4 ⟨rfl, hw4⟩
  have hko := hko.later hw4
  have hbe4 := below_up hbe3 hw4
  have hz : (By (R.list.map (layw s256)).flatten).toArray.size = 32 := by
    rw [List.size_toArray, By_len, flat_lenB (layw s256) (n := 4) (fun x => layw_len s256 x) R.list]
    rfl
  clear HL hw4 kh hbe3
  obtain ⟨D, hDD⟩ : ∃ D, (R.list.map (layw s256)).flatten = D := ⟨_, rfl⟩
  rw [hDD] at hz ⊢
  have HDD := Lib.hid hDD
  clear hDD
  go_wp2_with (refine wpList_store_row rfl 38 _ _ rfl w.heap.size rfl (By D).toArray rfl 38 _ hko (size_hash _ hz) (by rw [hz]; rfl) (By_one _) ?_)
  refine bodyPost_ret (results_cell_row rfl _ _ w.heap.size 38 (By D).toArray (0, 0) _ rfl (hko.row _) Tryd.underlying38 rfl (size_hash _ hz)) rfl ⟨by rw [HDD.out], ?_⟩
  exact below_setRow hbe4 (Nat.le_refl _) _
end Go.Proofs.YtoecohpcnojokaaDoor
/-
  THE PROGRAM'S TREE: leaves and inner nodes are made.
-/
namespace Go.Proofs.YtoecohpcnojokaaDoor
open Go.RowKit Go.IntWalk Nums

/-! ### Objects given and let go -/
section
variable {P : Program} {b : Base} {ops : Array Oper} {Q : Exit → Act → World → Prop} {N : Nat} {E E' : SE} {L : List LV} {R : List Res} {F M : World → Prop} {g : Nat} {t : TypeId} {ps : List Pt}
theorem StW.objOut {G : Nat → Nat} {S : Nat → Prop} {w : World} (h : StW b G S L R F M w) {i : Nat} (hi : R[i]? = some (ObjS g t ps)) : ∃ S', StW b G S' L (R.eraseIdx i) (fun w => ObjF g t ps w ∧ F w) M w := by
  obtain ⟨S1, S2, h1, h2, h3, h4⟩ := h.let hi
  refine ⟨S2, h4.and fun w' hw => ⟨?_, h1.1.2⟩⟩
  have hg : S1 g := (h1.2 g).2 rfl
  have hlt := h1.1.1.lt
  have hnot : ¬ Dof b.X S2 G L g := by
    rintro (hx | hx | ⟨j, hj, e⟩)
    · obtain ⟨hx1, hx2⟩ := h.old g hx
      exact hx2 (h.mine g (.inl ((h3 g).2 (.inl hg))) hx1)
    · exact h2 g hg hx
    · exact h.sep j hj (by rw [e]; exact (h3 g).2 (.inl hg))
  exact (hw.block g hlt hnot).trans h1.1.1
theorem k_objOut {K : Act → World → Prop} (i : Nat) (hi : R[i]? = some (ObjS g t ps)) (h : kS b K N ⟨E, L, R.eraseIdx i, fun w => ObjF g t ps w ∧ F w, M⟩) : kS b K N ⟨E, L, R, F, M⟩ := fun a w ⟨G, S, h1, h2, h3⟩ => by
  obtain ⟨S', h4⟩ := h3.objOut hi
  exact h a w ⟨G, S', h1, h2, h4⟩
theorem l_objOut {l : List Oper} (i : Nat) (hi : R[i]? = some (ObjS g t ps)) (h : lS P b ops Q N l ⟨E, L, R.eraseIdx i, fun w => ObjF g t ps w ∧ F w, M⟩) : lS P b ops Q N l ⟨E, L, R, F, M⟩ := fun a w ⟨G, S, h1, h2, h3⟩ => by
  obtain ⟨S', h4⟩ := h3.objOut hi
  exact h a w ⟨G, S', h1, h2, h4⟩
/-- The newest variable is an object from here on. -/
theorem l_give {l : List Oper} {y : LV} (i : Nat) (hx : lookS E i = some (.a y.j 0)) (hs : SubS E' E) (h : ∀ g, lS P b ops Q N l ⟨(i, .v (.pointer (some ⟨g, 0, none⟩))) :: E', L, ObjS g y.t y.ps :: R, F, M⟩) : lS P b ops Q N l ⟨E, y :: L, R, F, M⟩ := k_give (K := fun a w => wpList P ops Q l a w) i hx hs h
end
instance : Pst Tsh := ⟨fun _ _ h hb => h.below hb⟩
theorem own_tsum : Own 57 := fun _ _ => by go_simp
theorem own_tleaf : Own 59 := fun _ _ => by go_simp
theorem own_tinner : Own 60 := fun _ _ => by go_simp
theorem prPs_ok {p : PairT} (h : OkP (prPs p)) : OkT2 p := by
  have h1 := (h (.agg 32 (By p.1).toArray) (by simp [prPs])).1
  have h2 := (h (.agg 32 (By p.2).toArray) (by simp [prPs])).1
  rw [List.size_toArray, By_len] at h1 h2
  exact ⟨h1, h2⟩
theorem obj_pair {h : Nat} {t : TypeId} {p : PairT} {w : World} (hF : ObjF h t (prPs p) w) : Rd 64 eP (some ⟨h, 0, none⟩) 1 [p] w := by
  refine ⟨Nat.le_refl _, by decide, fun e => (by cases e), fun x hx => ?_, fun _ => ⟨h, 0, rfl, hF.1.lt, fun i x hx => ?_⟩⟩
  · rw [List.mem_singleton.1 hx]
    exact eP_ok (prPs_ok hF.2)
  · cases i with
    | zero =>
      simp only [List.getElem?_cons_zero, Option.some.injEq] at hx
      subst hx
      exact range_of (A := []) (Z := []) hF.1 (by simp [SQ.cl, SQ.den, eP, Value.cells, prPs])
    | succ i => simp at hx
set_option maxRecDepth 100000 in
set_option maxHeartbeats 1000000 in
theorem tleaf_S (h : Nat) (p : PairT) : Spec 59 [.pointer (some ⟨h, 0, none⟩)] [] (fun w => ObjF h 98 (prPs p) w ∧ Tsh w) { ret := fun g : Nat => .v (.pointer (some ⟨g, 0, none⟩)), own := fun _ => [], p := fun g => TF (.leaf g h p) } := by
  refine spec_S [.c (.v (.pointer (some ⟨h, 0, none⟩)))] 17 Tryd.func59 rfl (by rw [Tryd.ntmps59]; rfl) (one_ok trivial) fun b => ?_
  refine s_pure (OkT2 p) (fun w hw _ => prPs_ok hw.1.2) fun hp => ?_
  refine s_auto TY_ok rfl ?_
  refine s_regH 13 (by decide) (by kernel_rfl) (by kernel_rfl) fun K hK G S w0 hst => ?_
  refine h_lit TY_ok [(0 : UInt8)] rfl rfl rfl rfl rfl rfl (fun _ => rfl) rfl (by decide) (by decide) fun B => ?_
  refine h_auto TY_ok hst rfl ?_
  refine h_op hst (.v (.slice (some ⟨h, 0 + 64 * 0, none⟩) 32 32)) trivial rfl rfl rfl rfl (runO_allQ rfl Tryd.underlying38 rfl rfl) ?_
  refine h_auto TY_ok hst rfl ?_
  refine h_op hst (.v (.slice (some ⟨h, 0 + 64 * 0 + 32, none⟩) 32 32)) trivial rfl rfl rfl rfl (runO_allQ rfl Tryd.underlying38 rfl rfl) ?_
  refine h_parts [.slice (some ⟨B, 0, none⟩) 1 1, .slice (some ⟨h, 0 + 64 * 0, none⟩) 32 32, .slice (some ⟨h, 0 + 64 * 0 + 32, none⟩) 32 32] [[0], p.1, p.2] hst rfl rfl rfl rfl rfl rfl rfl (by decide) (by decide) (fun w hw hu => ?_) fun A => ?_
  · have h1 := rd_pair (i := 0) (obj_pair hw.fact.1) rfl hp
    have h2 : Rd 1 eB (some ⟨B, 0, none⟩) 1 [0] w := hu 0 _ rfl (by kernel_rfl)
    exact ⟨h2.sb, h1.1, h1.2, trivial⟩
  refine h_call (r := .q (eY 32 (leafT p))) hst [.slice (some ⟨A, 0, none⟩) 3 3] rfl rfl rfl rfl own_tsum rfl rfl (fun _ => rfl) (eY_ok (n := 32) (digest256_len _)).1 (fun w hw hu => ?_) ?_
  · have hA : PT w (some ⟨A, 0, none⟩) [[0], p.1, p.2] := hu 9 _ rfl (by kernel_rfl)
    have hr2 := sum256_f (some ⟨A, 0, none⟩) [[0], p.1, p.2] 3 w hw.fact.2 hA (by simp) (by simp)
    have e : leafT p = digest s256 [[0], p.1, p.2].flatten := by simp [leafT]
    show Calls Tryd.prog _ _ w fun e w' => e = .returned (.agg (By (leafT p)).toArray) ∧ _
    rw [e]
    exact hr2
  refine h_auto TY_ok hst rfl ?_
  refine h_end hst ?_
  refine l_autoS TY_ok rfl ?_
  refine s_end (hK _ ?_)
  refine s_ret (k_give 2 rfl (E' := []) trivial fun g => ?_)
  refine k_objOut 0 rfl ?_
  exact k_ret TY_ok g rfl (by decide) rfl rfl rfl (fun _ hw _ => ⟨hw.1, hw.2.1⟩) (fun _ _ => trivial)
/-- What a variable of two sides holds. -/
def sdPs (a b : TA) : List Pt := [.agg 2 #[a.val, b.val]]
theorem val_one (t : TA) : t.val.oneCell' = true := by cases t <;> rfl
theorem sdPs_ok (a b : TA) : OkP (sdPs a b) := fun p hp => by
  rw [List.mem_singleton.1 hp]
  refine ⟨rfl, fun v hv => ?_⟩
  rcases List.mem_cons.1 hv with rfl | hv
  · exact val_one a
  · rw [List.mem_singleton.1 hv]
    exact val_one b
set_option maxRecDepth 100000 in
set_option maxHeartbeats 1000000 in
theorem tinner_S (x y : TA) (hl : x.len + y.len ≤ 1000000) : Spec 60 [.agg #[x.val, y.val]] [] (fun w => TF x w ∧ TF y w ∧ Tsh w) { ret := fun g : Nat => .v (.pointer (some ⟨g, 0, none⟩)), own := fun _ => [], p := fun g => TF (.node g x y) } := by
  refine spec_S [.p (sdPs x y)] 26 Tryd.func60 rfl (by rw [Tryd.ntmps60]; rfl) (one_ok (sdPs_ok x y)) fun b => ?_
  refine s_auto TY_ok rfl ?_
  refine s_new 6 [⟨3, 38, (By z32T).toArray⟩, ⟨4, 38, (By z32T).toArray⟩] (by decide) rfl ⟨⟨rfl, rfl, rfl, rfl, rfl⟩, ⟨rfl, rfl, rfl, rfl, rfl⟩, trivial⟩ (by kernel_rfl) (by kernel_rfl) (by kernel_rfl) fun K hK G S w0 hst => ?_
  refine n_op hst (.a 1 (0 + 1 * 0)) trivial rfl rfl rfl (runO_ixA 0 rfl Tryd.underlying114 rfl rfl rfl (by decide)) ?_
  refine n_opV hst (.v x.val) trivial rfl rfl rfl (runO_ldA _ rfl rfl rfl rfl Tryd.underlying25 rfl) ?_
  refine n_callS (F' := TF x) hst [x.val] rfl rfl rfl own_thash rfl rfl (fun _ => rfl) (thash_S x) (eY_ok x.root_len).1 (fun _ _ _ hv => hv.fact.1) ?_
  refine n_op hst (.a 1 (0 + 1 * 1)) trivial rfl rfl rfl (runO_ixA 1 rfl Tryd.underlying114 rfl rfl rfl (by decide)) ?_
  refine n_opV hst (.v y.val) trivial rfl rfl rfl (runO_ldA _ rfl rfl rfl rfl Tryd.underlying25 rfl) ?_
  refine n_callS (F' := TF y) hst [y.val] rfl rfl rfl own_thash rfl rfl (fun _ => rfl) (thash_S y) (eY_ok y.root_len).1 (fun _ _ _ hv => hv.fact.2.1) ?_
  have hx32 := x.root_len
  have hy32 := y.root_len
  have sz : ∀ l : List UInt8, l.length = 32 → (By l).toArray.size = 32 := fun l h => by rw [List.size_toArray, By_len, h]
  refine n_new hst [⟨3, none, 38, [.agg 32 (By x.root).toArray]⟩, ⟨4, none, 38, [.agg 32 (By y.root).toArray]⟩] [(By z32T).toArray, (By z32T).toArray] [.tmp 7, .tmp 10] rfl rfl rfl (fun u hu => ?_) ⟨rfl, rfl, trivial⟩ rfl ⟨⟨rfl, rfl, rfl⟩, ⟨rfl, rfl, rfl⟩, rfl⟩ ⟨⟨rfl, ?_, ?_, By_one _⟩, ⟨rfl, ?_, ?_, By_one _⟩, trivial⟩ ?_
  · rcases List.mem_cons.1 hu with rfl | hu
    · exact (eY_ok hx32).1
    · rw [List.mem_singleton.1 hu]
      exact (eY_ok hy32).1
  · exact (sz z32T rfl).trans (sz _ hx32).symm
  · show _ = some (By x.root).toArray.size
    rw [sz _ hx32]
    rfl
  · exact (sz z32T rfl).trans (sz _ hy32).symm
  · show _ = some (By y.root).toArray.size
    rw [sz _ hy32]
    rfl
  refine s_end (hK _ ?_)
  refine s_keep [1, 2, 3, 4] [1, 3, 4] rfl rfl ?_
  refine s_regH 13 (by decide) (by kernel_rfl) (by kernel_rfl) fun K hK G S w0 hst => ?_
  refine h_lit TY_ok [(1 : UInt8)] rfl rfl rfl rfl rfl rfl (fun _ => rfl) rfl (by decide) (by decide) fun B => ?_
  refine h_op hst (.s 3 0 32 32) trivial rfl rfl rfl rfl (runO_all rfl Tryd.underlying38 rfl rfl) ?_
  refine h_op hst (.s 4 0 32 32) trivial rfl rfl rfl rfl (runO_all rfl Tryd.underlying38 rfl rfl) ?_
  refine h_parts [.slice (some ⟨B, 0, none⟩) 1 1, (SV.s 3 0 32 32).den G, (SV.s 4 0 32 32).den G] [[1], x.root, y.root] hst rfl rfl rfl rfl rfl rfl rfl (by decide) (by decide) (fun w hw hu => ?_) fun A => ?_
  · have h2 : Rd 1 eB (some ⟨B, 0, none⟩) 1 [1] w := hu 0 _ rfl (by kernel_rfl)
    exact ⟨h2.sb, sb_var (j := 3) rfl hx32 (by decide) G S w hw, sb_var (j := 4) rfl hy32 (by decide) G S w hw, trivial⟩
  refine h_call (r := .q (eY 32 (nodeT x.root y.root))) hst [.slice (some ⟨A, 0, none⟩) 3 3] rfl rfl rfl rfl own_tsum rfl rfl (fun _ => rfl) (eY_ok (n := 32) (digest256_len _)).1 (fun w hw hu => ?_) ?_
  · have hA : PT w (some ⟨A, 0, none⟩) [[1], x.root, y.root] := hu 3 _ rfl (by kernel_rfl)
    have hr2 := sum256_f (some ⟨A, 0, none⟩) [[1], x.root, y.root] 3 w hw.fact.2.2 hA (by simp) (by simp)
    have e : nodeT x.root y.root = digest s256 [[1], x.root, y.root].flatten := by simp [nodeT]
    show Calls Tryd.prog _ _ w fun e w' => e = .returned (.agg (By (nodeT x.root y.root)).toArray) ∧ _
    rw [e]
    exact hr2
  refine h_op hst (.a 1 (0 + 1 * 0)) trivial rfl rfl rfl rfl (runO_ixA 0 rfl Tryd.underlying114 rfl rfl rfl (by decide)) ?_
  refine h_opV hst (.v x.val) trivial rfl rfl rfl rfl (runO_ldA _ rfl rfl rfl rfl Tryd.underlying25 rfl) ?_
  refine h_callS (F' := TF x) (r := .v (.int .i64 (x.len : Int))) hst [x.val] rfl rfl rfl rfl own_tsize rfl rfl (fun _ => rfl) trivial (tsize_S x) (fun _ _ _ hv => hv.fact.1) ?_
  refine h_op hst (.a 1 (0 + 1 * 1)) trivial rfl rfl rfl rfl (runO_ixA 1 rfl Tryd.underlying114 rfl rfl rfl (by decide)) ?_
  refine h_opV hst (.v y.val) trivial rfl rfl rfl rfl (runO_ldA _ rfl rfl rfl rfl Tryd.underlying25 rfl) ?_
  refine h_callS (F' := TF y) (r := .v (.int .i64 (y.len : Int))) hst [y.val] rfl rfl rfl rfl own_tsize rfl rfl (fun _ => rfl) trivial (tsize_S y) (fun _ _ _ hv => hv.fact.2.1) ?_
  refine h_auto TY_ok hst rfl ?_
  refine h_num 22 ((x.len + y.len : Nat) : Int) rfl (wrapI (by omega) (by omega) (by omega)) ?_
  refine h_auto TY_ok hst rfl ?_
  refine h_end hst ?_
  refine l_autoS TY_ok rfl ?_
  refine s_end (hK _ ?_)
  refine s_ret (k_give 2 rfl (E' := []) trivial fun g => ?_)
  refine k_objOut 0 rfl ?_
  exact k_ret TY_ok g rfl (by decide) rfl rfl rfl (fun _ hw _ => ⟨hw.1, hw.2.1, hw.2.2.1⟩) (fun _ _ => trivial)
end Go.Proofs.YtoecohpcnojokaaDoor
/-
  THE PROGRAM'S TREE: a pair is put in.
-/
namespace Go.Proofs.YtoecohpcnojokaaDoor
open Go.RowKit Go.IntWalk Nums

theorem own_tput : Own 42 := fun _ _ => by go_simp
theorem putT_len : ∀ (l : List PairT) (p : PairT), l.length ≤ (putT l p).length ∧ (putT l p).length ≤ l.length + 1
  | [], _ => ⟨Nat.zero_le _, Nat.le_refl _⟩
  | q :: l, p => by
    have := putT_len l p
    unfold putT
    split
    · simp only [List.length_cons]; omega
    · split
      · simp
      · simp
theorem wrapB2 {d e r : Nat} (h : d = 255 - r ∧ r ≤ 255) (he : (256 - r) % 256 = e) : IntKind.u8.wrap ((d : Int) + 1) = (e : Int) := by
  unfold IntKind.wrap
  simp [IntKind.bits, IntKind.signed]
  omega
theorem val_cells (t : TA) : t.val.cells = #[t.val] := by cases t <;> rfl
theorem leftT_one {d : Nat} {q : PairT} (h : bitT q.1 d = 0) : leftT d [q] = [q] ∧ rightT d [q] = [] := by simp [leftT, rightT, h]
theorem rightT_one {d : Nat} {q : PairT} (h : bitT q.1 d ≠ 0) : leftT d [q] = [] ∧ rightT d [q] = [q] := by simp [leftT, rightT, h]
theorem TOk.nil {r : Nat} {l : List PairT} (h : l = []) : TOk r l .nil := by cases r <;> exact h
theorem TOk.leaf {r : Nat} {l : List PairT} {g h : Nat} {p : PairT} (e : l = [p]) : TOk r l (.leaf g h p) := by cases r <;> exact e
theorem TOk.nil_inv {r : Nat} {l : List PairT} (h : TOk r l .nil) : l = [] := by cases r <;> exact h
theorem TOk.leaf_inv {r : Nat} {l : List PairT} {g h : Nat} {p : PairT} (e : TOk r l (.leaf g h p)) : l = [p] := by cases r <;> exact e
set_option maxRecDepth 100000 in
set_option maxHeartbeats 4000000 in
theorem tput_S : ∀ (r : Nat) (l : List PairT) (t : TA) (h : Nat) (p : PairT), r ≤ 256 → TOk r l t → SortT l → KeysT l → SharesT (256 - r) (p :: l) → l.length + 1 ≤ 1000000 →
    Spec 42 [t.val, .pointer (some ⟨h, 0, none⟩), .int .u8 (((256 - r) % 256 : Nat) : Int)] [] (fun w => TF t w ∧ ObjF h 98 (prPs p) w ∧ Tsh w) { ret := fun x : { t' : TA // TOk r (putT l p) t' } => .v x.1.val, own := fun _ => [], p := fun x => TF x.1 } := by
  intro r
  induction r using Nat.strongRecOn with
  | ind r ih =>
  intro l t h p hr ht hs hk hsh hl
  obtain ⟨D, hD⟩ : ∃ D, (256 - r) % 256 = D := ⟨_, rfl⟩
  rw [hD]
  refine spec_S [.c (.v t.val), .c (.v (.pointer (some ⟨h, 0, none⟩))), .c (.v (.int .u8 (D : Int)))] 71 Tryd.func42 rfl (by rw [Tryd.ntmps42]; rfl) (more_ok trivial (two_ok trivial trivial)) fun b => ?_
  refine s_pure (OkT2 p) (fun w hw _ => prPs_ok hw.2.1.2) fun hp2 => ?_
  refine s_auto TY_ok rfl ?_
  refine s_seq fun K hK => ?_
  cases t with
  | nil =>
    obtain rfl := ht.nil_inv
    refine s_regD 23 (by decide) (by kernel_rfl) (by kernel_rfl) fun K1 hK1 G S w0 hst => ?_
    refine g_autoS TY_ok hst rfl ?_
    refine g_skips rfl ?_
    refine g_autoS TY_ok hst rfl ?_
    refine g_endS hst ?_
    refine s_end (hK1 _ ?_)
    refine s_yes rfl ?_
    refine s_regA TY_ok rfl fun K2 hK2 => ?_
    refine l_call0 [.pointer (some ⟨h, 0, none⟩)] rfl rfl rfl own_tleaf rfl rfl (fun _ _ => rfl) (tleaf_S h p) (fun _ hw _ => ⟨hw.2.1, hw.2.2⟩) fun g => ?_
    refine l_autoS TY_ok rfl ?_
    refine s_end (hK2 _ ?_)
    exact s_ret (k_ret TY_ok ⟨.leaf g h p, TOk.leaf rfl⟩ rfl (by decide) rfl rfl rfl (fun _ hw _ => hw.1) (fun _ _ => trivial))
  | leaf g0 h0 q =>
    obtain rfl := ht.leaf_inv
    have hq := hk q List.mem_cons_self
    refine s_regD 23 (by decide) (by kernel_rfl) (by kernel_rfl) fun K1 hK1 G S w0 hst => ?_
    refine g_autoS TY_ok hst rfl ?_
    refine g_ldO TY_ok hst rfl rfl rfl rfl rfl rfl (obj_fact fun _ h _ => h.1.1) ?_
    refine g_autoS TY_ok hst rfl ?_
    refine g_ldO TY_ok hst rfl rfl rfl rfl rfl rfl (obj_fact fun _ h _ => h.1.1) ?_
    refine g_autoS TY_ok hst rfl ?_
    refine g_ldO TY_ok hst rfl rfl rfl rfl rfl rfl (obj_fact fun _ h _ => h.1.2) ?_
    refine g_autoS TY_ok hst rfl ?_
    refine g_ldO TY_ok hst rfl rfl rfl rfl rfl rfl (obj_fact fun _ h _ => h.2.1) ?_
    refine g_autoS TY_ok hst rfl ?_
    refine g_opS (.b (decide (q.1 = p.1))) trivial rfl rfl rfl (run_eqY rfl rfl rfl Tryd.underlying38 (by kernel_rfl) hq hp2.1) ?_
    by_cases he : q.1 = p.1
    · refine g_is 29 true rfl (by simp [he]) ?_
      refine g_autoS TY_ok hst rfl ?_
      refine g_endS hst ?_
      refine s_end (hK1 _ ?_)
      refine s_yes rfl ?_
      refine s_regA TY_ok rfl fun K2 hK2 => ?_
      refine l_call0 [.pointer (some ⟨h, 0, none⟩)] rfl rfl rfl own_tleaf rfl rfl (fun _ _ => rfl) (tleaf_S h p) (fun _ hw _ => ⟨hw.2.1, hw.2.2⟩) fun g => ?_
      refine l_autoS TY_ok rfl ?_
      refine s_end (hK2 _ ?_)
      have e2 : putT [q] p = [p] := by simp [putT, he, lessT_irrefl]
      exact s_ret (k_ret TY_ok ⟨.leaf g h p, TOk.leaf e2⟩ rfl (by decide) rfl rfl rfl (fun _ hw _ => hw.1) (fun _ _ => trivial))
    refine g_is 29 false rfl (by simp [he]) ?_
    refine g_autoS TY_ok hst rfl ?_
    refine g_endS hst ?_
    refine s_end (hK1 _ ?_)
    refine s_no rfl ?_
    refine s_skip (hK _ ?_)
    obtain ⟨r, rfl⟩ : ∃ q, r = q + 1 := ⟨r - 1, by
      by_cases e : r = 0
      · subst e
        exact absurd (ShareT.all hq hp2.1 (hsh q (by simp) p (by simp))) he
      · omega⟩
    obtain rfl : 255 - r = D := by omega
    clear hst hK1
    rw [show 256 - (r + 1) = 255 - r by omega] at hsh
    obtain ⟨d, hdr⟩ : ∃ d, 255 - r = d := ⟨_, rfl⟩
    obtain ⟨e8, he8⟩ : ∃ e, (256 - r) % 256 = e := ⟨_, rfl⟩
    have ih2 := fun l t h p ht hs hk => ih r (by omega) l t h p (by omega) ht hs hk
    simp only [he8] at ih2
    clear ih
    have hd : d < 256 := by omega
    rw [hdr] at hsh ⊢
    have h2 : 2 ≤ (putT [q] p).length := by
      by_cases h3 : lessT q.1 p.1 = true
      · simp [putT, h3]
      · simp [putT, h3, he]
    refine s_keep [0, 1, 2] [] rfl rfl ?_
    refine s_regA TY_ok rfl fun K1 hK1 => ?_
    refine l_ldO TY_ok rfl rfl rfl rfl rfl rfl (obj_fact fun _ h _ => h.1.1) ?_
    refine l_autoS TY_ok rfl ?_
    refine s_end (hK1 _ ?_)
    refine s_seq fun K2 hK2 => ?_
    refine s_regA TY_ok rfl fun K6 hK6 => ?_
    refine l_ldO TY_ok rfl rfl rfl rfl rfl rfl (obj_fact fun _ h _ => h.1.1) ?_
    refine l_autoS TY_ok rfl ?_
    refine s_end (hK6 _ ?_)
    refine s_yes rfl ?_
    have hrest : ∀ x y : TA, TOk r (leftT d [q]) x → TOk r (rightT d [q]) y → ∀ en, Weak en ⟨[(1, .v (.pointer (some ⟨h, 0, none⟩))), (2, .v (.int .u8 (d : Int))), (7, .a 7 0)], [⟨7, none, 114, sdPs x y⟩], [], fun w => TF x w ∧ TF y w ∧ ObjF h 98 (prPs p) w ∧ Tsh w, fun _ => True⟩ → kS b K2 71 en := by
      intro x y hx hy en hw
      refine k_weak hw (hK2 _ ?_)
      have hb2 := bitT_lt p.1 d
      refine s_regA TY_ok rfl fun K3 hK3 => ?_
      refine l_ldO TY_ok rfl rfl rfl rfl rfl rfl (obj_fact fun _ h _ => h.2.2.1) ?_
      refine l_autoS TY_ok rfl ?_
      refine l_call0 [.agg (By p.1).toArray, .int .u8 (d : Int)] rfl rfl rfl own_tbit rfl rfl (fun _ _ => rfl) (tbit_S hp2.1 d hd) (fun _ _ _ => trivial) fun _ => ?_
      refine l_autoS TY_ok rfl ?_
      have hlen : ∀ t' : TA, TOk (r + 1) (putT [q] p) t' → t'.len ≤ 1000000 := fun t' ht' => by
        rw [ht'.len]
        exact Nat.le_trans (putT_len [q] p).2 hl
      by_cases hbit : bitT p.1 d = 0
      · refine l_num 8 0 rfl (by rw [hbit]; rfl) ?_
        refine s_end (hK3 _ ?_)
        refine s_keep [1, 2, 7, 8] [7] rfl rfl ?_
        refine s_regA TY_ok rfl fun K4 hK4 => ?_
        refine l_op (.a 7 (0 + 1 * 0)) trivial rfl rfl rfl (runO_ixA 0 rfl Tryd.underlying114 rfl rfl rfl (by decide)) ?_
        refine l_opV (.v x.val) trivial rfl rfl rfl (runO_ldA _ rfl rfl rfl rfl Tryd.underlying25 rfl) ?_
        refine l_autoS TY_ok rfl ?_
        refine l_num 66 (e8 : Int) rfl (wrapB2 ⟨hdr.symm, by omega⟩ he8) ?_
        have eL : leftT d (putT [q] p) = putT (leftT d [q]) p := by rw [putT_left hs hk hp2.1, if_pos hbit]
        have eR : rightT d (putT [q] p) = rightT d [q] := by rw [putT_right hs hk hp2.1, if_pos hbit]
        have hsh2 : SharesT (256 - r) (p :: leftT d [q]) := by
          have := hsh.left
          rw [show leftT d (p :: [q]) = p :: leftT d [q] by simp [leftT, hbit], show d + 1 = 256 - r by omega] at this
          exact this
        refine l_call0 [x.val, .pointer (some ⟨h, 0, none⟩), .int .u8 (e8 : Int)] rfl rfl rfl own_tput rfl rfl (fun _ _ => rfl) (ih2 (leftT d [q]) x h p hx (hs.filter _) (hk.filter _) hsh2 (Nat.le_trans (Nat.add_le_add_right (List.length_filter_le _ _) 1) hl)) (fun _ h _ => ⟨h.2.1, h.2.2.2.1, h.2.2.2.2⟩) fun x' => ?_
        refine l_autoS TY_ok rfl ?_
        refine l_op (.a 7 (0 + 1 * 0)) trivial rfl rfl rfl (runO_ixA 0 rfl Tryd.underlying114 rfl rfl rfl (by decide)) ?_
        refine l_stA (sdPs x'.1 y) rfl rfl rfl rfl rfl rfl rfl (val_cells _) (val_one _) (show _ < 2 by decide) (sdPs_ok _ _) rfl ?_
        refine s_end (hK4 _ ?_)
        have hT : ∀ g, TOk (r + 1) (putT [q] p) (.node g x'.1 y) := fun g => ⟨h2, by show TOk r (leftT (255 - r) (putT [q] p)) x'.1; rw [hdr, eL]; exact x'.2, by show TOk r (rightT (255 - r) (putT [q] p)) y; rw [hdr, eR]; exact hy⟩
        refine s_keep [7] [7] rfl rfl ?_
        refine s_regA TY_ok rfl fun K5 hK5 => ?_
        refine l_call0 [.agg #[x'.1.val, y.val]] rfl rfl rfl own_tinner rfl rfl (fun _ _ => rfl) (tinner_S x'.1 y (hlen _ (hT 0))) (fun _ h _ => ⟨h.1, h.2.2.2.1, h.2.2.2.2.2⟩) fun g => ?_
        refine l_autoS TY_ok rfl ?_
        refine s_end (hK5 _ ?_)
        exact s_ret (k_ret TY_ok ⟨.node g x'.1 y, hT g⟩ rfl (by decide) rfl rfl rfl (fun _ hw _ => hw.1) (fun _ _ => trivial))
      · refine l_num 8 1 rfl (by rw [show bitT p.1 d = 1 by omega]; rfl) ?_
        refine s_end (hK3 _ ?_)
        refine s_keep [1, 2, 7, 8] [7] rfl rfl ?_
        refine s_regA TY_ok rfl fun K4 hK4 => ?_
        refine l_op (.a 7 (0 + 1 * 1)) trivial rfl rfl rfl (runO_ixA 1 rfl Tryd.underlying114 rfl rfl rfl (by decide)) ?_
        refine l_opV (.v y.val) trivial rfl rfl rfl (runO_ldA _ rfl rfl rfl rfl Tryd.underlying25 rfl) ?_
        refine l_autoS TY_ok rfl ?_
        refine l_num 66 (e8 : Int) rfl (wrapB2 ⟨hdr.symm, by omega⟩ he8) ?_
        have eL : leftT d (putT [q] p) = leftT d [q] := by rw [putT_left hs hk hp2.1, if_neg hbit]
        have eR : rightT d (putT [q] p) = putT (rightT d [q]) p := by rw [putT_right hs hk hp2.1, if_neg hbit]
        have hsh2 : SharesT (256 - r) (p :: rightT d [q]) := by
          have := hsh.right
          rw [show rightT d (p :: [q]) = p :: rightT d [q] by simp [rightT, hbit], show d + 1 = 256 - r by omega] at this
          exact this
        refine l_call0 [y.val, .pointer (some ⟨h, 0, none⟩), .int .u8 (e8 : Int)] rfl rfl rfl own_tput rfl rfl (fun _ _ => rfl) (ih2 (rightT d [q]) y h p hy (hs.filter _) (hk.filter _) hsh2 (Nat.le_trans (Nat.add_le_add_right (List.length_filter_le _ _) 1) hl)) (fun _ h _ => ⟨h.2.2.1, h.2.2.2.1, h.2.2.2.2⟩) fun y' => ?_
        refine l_autoS TY_ok rfl ?_
        refine l_op (.a 7 (0 + 1 * 1)) trivial rfl rfl rfl (runO_ixA 1 rfl Tryd.underlying114 rfl rfl rfl (by decide)) ?_
        refine l_stA (sdPs x y'.1) rfl rfl rfl rfl rfl rfl rfl (val_cells _) (val_one _) (show _ < 2 by decide) (sdPs_ok _ _) rfl ?_
        refine s_end (hK4 _ ?_)
        have hT : ∀ g, TOk (r + 1) (putT [q] p) (.node g x y'.1) := fun g => ⟨h2, by show TOk r (leftT (255 - r) (putT [q] p)) x; rw [hdr, eL]; exact hx, by show TOk r (rightT (255 - r) (putT [q] p)) y'.1; rw [hdr, eR]; exact y'.2⟩
        refine s_keep [7] [7] rfl rfl ?_
        refine s_regA TY_ok rfl fun K5 hK5 => ?_
        refine l_call0 [.agg #[x.val, y'.1.val]] rfl rfl rfl own_tinner rfl rfl (fun _ _ => rfl) (tinner_S x y'.1 (hlen _ (hT 0))) (fun _ h _ => ⟨h.2.2.1, h.1, h.2.2.2.2.2⟩) fun g => ?_
        refine l_autoS TY_ok rfl ?_
        refine s_end (hK5 _ ?_)
        exact s_ret (k_ret TY_ok ⟨.node g x y'.1, hT g⟩ rfl (by decide) rfl rfl rfl (fun _ hw _ => hw.1) (fun _ _ => trivial))
    have hb3 := bitT_lt q.1 d
    refine s_lit ?_
    refine l_autoS TY_ok rfl ?_
    refine l_ldO TY_ok rfl rfl rfl rfl rfl rfl (obj_fact fun _ h _ => h.1.1) ?_
    refine l_autoS TY_ok rfl ?_
    refine l_ldO TY_ok rfl rfl rfl rfl rfl rfl (obj_fact fun _ h _ => h.1.2) ?_
    refine l_autoS TY_ok rfl ?_
    refine l_call0 [.agg (By q.1).toArray, .int .u8 (d : Int)] rfl rfl rfl own_tbit rfl rfl (fun _ _ => rfl) (tbit_S hq d hd) (fun _ _ _ => trivial) fun _ => ?_
    refine l_autoS TY_ok rfl ?_
    by_cases hqb : bitT q.1 d = 0
    · obtain ⟨e1, e2⟩ := leftT_one hqb
      refine l_num 51 0 rfl (by rw [hqb]; rfl) ?_
      refine l_op (.a 7 (0 + 1 * 0)) trivial rfl rfl rfl (runO_ixA 0 rfl Tryd.underlying114 rfl rfl rfl (by decide)) ?_
      refine l_stA (sdPs (.leaf g0 h0 q) .nil) rfl rfl rfl rfl rfl rfl rfl (val_cells (.leaf g0 h0 q)) (val_one (.leaf g0 h0 q)) (show _ < 2 by decide) (sdPs_ok _ _) rfl ?_
      exact s_end (hrest (.leaf g0 h0 q) .nil (TOk.leaf e1) (TOk.nil e2) _ ⟨⟨rfl, rfl, rfl, trivial⟩, ⟨rfl, rfl, trivial⟩, .refl _, fun _ h _ => ⟨h.2.1, trivial, h.2.2.1, h.2.2.2⟩, fun _ _ => trivial⟩)
    · obtain ⟨e1, e2⟩ := rightT_one hqb
      refine l_num 51 1 rfl (by rw [show bitT q.1 d = 1 by omega]; rfl) ?_
      refine l_op (.a 7 (0 + 1 * 1)) trivial rfl rfl rfl (runO_ixA 1 rfl Tryd.underlying114 rfl rfl rfl (by decide)) ?_
      refine l_stA (sdPs .nil (.leaf g0 h0 q)) rfl rfl rfl rfl rfl rfl rfl (val_cells (.leaf g0 h0 q)) (val_one (.leaf g0 h0 q)) (show _ < 2 by decide) (sdPs_ok _ _) rfl ?_
      exact s_end (hrest .nil (.leaf g0 h0 q) (TOk.nil e1) (TOk.leaf e2) _ ⟨⟨rfl, rfl, rfl, trivial⟩, ⟨rfl, rfl, trivial⟩, .refl _, fun _ h _ => ⟨trivial, h.2.1, h.2.2.1, h.2.2.2⟩, fun _ _ => trivial⟩)
  | node g0 x0 y0 =>
    obtain ⟨r, rfl⟩ : ∃ q, r = q + 1 := ⟨r - 1, by
      cases r with
      | zero => exact ht.elim
      | succ r => rfl⟩
    obtain rfl : 255 - r = D := by omega
    rw [show 256 - (r + 1) = 255 - r by omega] at hsh
    obtain ⟨d, hdr⟩ : ∃ d, 255 - r = d := ⟨_, rfl⟩
    obtain ⟨e8, he8⟩ : ∃ e, (256 - r) % 256 = e := ⟨_, rfl⟩
    have ih2 := fun l t h p ht hs hk => ih r (by omega) l t h p (by omega) ht hs hk
    simp only [he8] at ih2
    clear ih
    have hd : d < 256 := by omega
    rw [hdr] at hsh ⊢
    obtain ⟨hl2, hx0, hy0⟩ := ht
    rw [hdr] at hx0 hy0
    have h2 : 2 ≤ (putT l p).length := Nat.le_trans hl2 (putT_len l p).1
    refine s_regD 23 (by decide) (by kernel_rfl) (by kernel_rfl) fun K1 hK1 G S w0 hst => ?_
    refine g_autoS TY_ok hst rfl ?_
    refine g_ldO TY_ok hst rfl rfl rfl rfl rfl rfl (obj_fact fun _ h _ => h.1.1) ?_
    refine g_autoS TY_ok hst rfl ?_
    refine g_endS hst ?_
    refine s_end (hK1 _ ?_)
    refine s_no rfl ?_
    refine s_skip (hK _ ?_)
    clear hst hK1
    refine s_keep [0, 1, 2] [] rfl rfl ?_
    refine s_regA TY_ok rfl fun K1 hK1 => ?_
    refine l_ldO TY_ok rfl rfl rfl rfl rfl rfl (obj_fact fun _ h _ => h.1.1) ?_
    refine l_autoS TY_ok rfl ?_
    refine s_end (hK1 _ ?_)
    refine s_seq fun K2 hK2 => ?_
    refine s_regA TY_ok rfl fun K6 hK6 => ?_
    refine l_ldO TY_ok rfl rfl rfl rfl rfl rfl (obj_fact fun _ h _ => h.1.1) ?_
    refine l_autoS TY_ok rfl ?_
    refine s_end (hK6 _ ?_)
    refine s_no rfl ?_
    have hrest : ∀ x y : TA, TOk r (leftT d l) x → TOk r (rightT d l) y → ∀ en, Weak en ⟨[(1, .v (.pointer (some ⟨h, 0, none⟩))), (2, .v (.int .u8 (d : Int))), (7, .a 7 0)], [⟨7, none, 114, sdPs x y⟩], [], fun w => TF x w ∧ TF y w ∧ ObjF h 98 (prPs p) w ∧ Tsh w, fun _ => True⟩ → kS b K2 71 en := by
      intro x y hx hy en hw
      refine k_weak hw (hK2 _ ?_)
      have hb2 := bitT_lt p.1 d
      refine s_regA TY_ok rfl fun K3 hK3 => ?_
      refine l_ldO TY_ok rfl rfl rfl rfl rfl rfl (obj_fact fun _ h _ => h.2.2.1) ?_
      refine l_autoS TY_ok rfl ?_
      refine l_call0 [.agg (By p.1).toArray, .int .u8 (d : Int)] rfl rfl rfl own_tbit rfl rfl (fun _ _ => rfl) (tbit_S hp2.1 d hd) (fun _ _ _ => trivial) fun _ => ?_
      refine l_autoS TY_ok rfl ?_
      have hlen : ∀ t' : TA, TOk (r + 1) (putT l p) t' → t'.len ≤ 1000000 := fun t' ht' => by
        rw [ht'.len]
        exact Nat.le_trans (putT_len l p).2 hl
      by_cases hbit : bitT p.1 d = 0
      · refine l_num 8 0 rfl (by rw [hbit]; rfl) ?_
        refine s_end (hK3 _ ?_)
        refine s_keep [1, 2, 7, 8] [7] rfl rfl ?_
        refine s_regA TY_ok rfl fun K4 hK4 => ?_
        refine l_op (.a 7 (0 + 1 * 0)) trivial rfl rfl rfl (runO_ixA 0 rfl Tryd.underlying114 rfl rfl rfl (by decide)) ?_
        refine l_opV (.v x.val) trivial rfl rfl rfl (runO_ldA _ rfl rfl rfl rfl Tryd.underlying25 rfl) ?_
        refine l_autoS TY_ok rfl ?_
        refine l_num 66 (e8 : Int) rfl (wrapB2 ⟨hdr.symm, by omega⟩ he8) ?_
        have eL : leftT d (putT l p) = putT (leftT d l) p := by rw [putT_left hs hk hp2.1, if_pos hbit]
        have eR : rightT d (putT l p) = rightT d l := by rw [putT_right hs hk hp2.1, if_pos hbit]
        have hsh2 : SharesT (256 - r) (p :: leftT d l) := by
          have := hsh.left
          rw [show leftT d (p :: l) = p :: leftT d l by simp [leftT, hbit], show d + 1 = 256 - r by omega] at this
          exact this
        refine l_call0 [x.val, .pointer (some ⟨h, 0, none⟩), .int .u8 (e8 : Int)] rfl rfl rfl own_tput rfl rfl (fun _ _ => rfl) (ih2 (leftT d l) x h p hx (hs.filter _) (hk.filter _) hsh2 (Nat.le_trans (Nat.add_le_add_right (List.length_filter_le _ _) 1) hl)) (fun _ h _ => ⟨h.2.1, h.2.2.2.1, h.2.2.2.2⟩) fun x' => ?_
        refine l_autoS TY_ok rfl ?_
        refine l_op (.a 7 (0 + 1 * 0)) trivial rfl rfl rfl (runO_ixA 0 rfl Tryd.underlying114 rfl rfl rfl (by decide)) ?_
        refine l_stA (sdPs x'.1 y) rfl rfl rfl rfl rfl rfl rfl (val_cells _) (val_one _) (show _ < 2 by decide) (sdPs_ok _ _) rfl ?_
        refine s_end (hK4 _ ?_)
        have hT : ∀ g, TOk (r + 1) (putT l p) (.node g x'.1 y) := fun g => ⟨h2, by show TOk r (leftT (255 - r) (putT l p)) x'.1; rw [hdr, eL]; exact x'.2, by show TOk r (rightT (255 - r) (putT l p)) y; rw [hdr, eR]; exact hy⟩
        refine s_keep [7] [7] rfl rfl ?_
        refine s_regA TY_ok rfl fun K5 hK5 => ?_
        refine l_call0 [.agg #[x'.1.val, y.val]] rfl rfl rfl own_tinner rfl rfl (fun _ _ => rfl) (tinner_S x'.1 y (hlen _ (hT 0))) (fun _ h _ => ⟨h.1, h.2.2.2.1, h.2.2.2.2.2⟩) fun g => ?_
        refine l_autoS TY_ok rfl ?_
        refine s_end (hK5 _ ?_)
        exact s_ret (k_ret TY_ok ⟨.node g x'.1 y, hT g⟩ rfl (by decide) rfl rfl rfl (fun _ hw _ => hw.1) (fun _ _ => trivial))
      · refine l_num 8 1 rfl (by rw [show bitT p.1 d = 1 by omega]; rfl) ?_
        refine s_end (hK3 _ ?_)
        refine s_keep [1, 2, 7, 8] [7] rfl rfl ?_
        refine s_regA TY_ok rfl fun K4 hK4 => ?_
        refine l_op (.a 7 (0 + 1 * 1)) trivial rfl rfl rfl (runO_ixA 1 rfl Tryd.underlying114 rfl rfl rfl (by decide)) ?_
        refine l_opV (.v y.val) trivial rfl rfl rfl (runO_ldA _ rfl rfl rfl rfl Tryd.underlying25 rfl) ?_
        refine l_autoS TY_ok rfl ?_
        refine l_num 66 (e8 : Int) rfl (wrapB2 ⟨hdr.symm, by omega⟩ he8) ?_
        have eL : leftT d (putT l p) = leftT d l := by rw [putT_left hs hk hp2.1, if_neg hbit]
        have eR : rightT d (putT l p) = putT (rightT d l) p := by rw [putT_right hs hk hp2.1, if_neg hbit]
        have hsh2 : SharesT (256 - r) (p :: rightT d l) := by
          have := hsh.right
          rw [show rightT d (p :: l) = p :: rightT d l by simp [rightT, hbit], show d + 1 = 256 - r by omega] at this
          exact this
        refine l_call0 [y.val, .pointer (some ⟨h, 0, none⟩), .int .u8 (e8 : Int)] rfl rfl rfl own_tput rfl rfl (fun _ _ => rfl) (ih2 (rightT d l) y h p hy (hs.filter _) (hk.filter _) hsh2 (Nat.le_trans (Nat.add_le_add_right (List.length_filter_le _ _) 1) hl)) (fun _ h _ => ⟨h.2.2.1, h.2.2.2.1, h.2.2.2.2⟩) fun y' => ?_
        refine l_autoS TY_ok rfl ?_
        refine l_op (.a 7 (0 + 1 * 1)) trivial rfl rfl rfl (runO_ixA 1 rfl Tryd.underlying114 rfl rfl rfl (by decide)) ?_
        refine l_stA (sdPs x y'.1) rfl rfl rfl rfl rfl rfl rfl (val_cells _) (val_one _) (show _ < 2 by decide) (sdPs_ok _ _) rfl ?_
        refine s_end (hK4 _ ?_)
        have hT : ∀ g, TOk (r + 1) (putT l p) (.node g x y'.1) := fun g => ⟨h2, by show TOk r (leftT (255 - r) (putT l p)) x; rw [hdr, eL]; exact hx, by show TOk r (rightT (255 - r) (putT l p)) y'.1; rw [hdr, eR]; exact y'.2⟩
        refine s_keep [7] [7] rfl rfl ?_
        refine s_regA TY_ok rfl fun K5 hK5 => ?_
        refine l_call0 [.agg #[x.val, y'.1.val]] rfl rfl rfl own_tinner rfl rfl (fun _ _ => rfl) (tinner_S x y'.1 (hlen _ (hT 0))) (fun _ h _ => ⟨h.2.2.1, h.1, h.2.2.2.2.2⟩) fun g => ?_
        refine l_autoS TY_ok rfl ?_
        refine s_end (hK5 _ ?_)
        exact s_ret (k_ret TY_ok ⟨.node g x y'.1, hT g⟩ rfl (by decide) rfl rfl rfl (fun _ hw _ => hw.1) (fun _ _ => trivial))
    exact s_skip (hrest x0 y0 hx0 hy0 _ ⟨⟨rfl, rfl, rfl, trivial⟩, ⟨rfl, rfl, trivial⟩, .refl _, fun _ h _ => ⟨h.1.2.1, h.1.2.2, h.2.1, h.2.2⟩, fun _ _ => trivial⟩)
end Go.Proofs.YtoecohpcnojokaaDoor
/-
  THE PROGRAM'S TREE: a key's pair is looked up.
-/
namespace Go.Proofs.YtoecohpcnojokaaDoor
open Go.RowKit Go.IntWalk Nums

theorem own_tfind : Own 41 := fun _ _ => by go_simp
/-- A cell behind a pointer. -/
theorem runO_ldB {L : List LV} {R : List Res} {F M : World → Prop} {N : Nat} {E : SE} {o : Oper} {t : TypeId} {x : Operand} {g off ty : Nat} {ps : List Pt} {d : TypeDesc} (v : Value) (ho : o.op = .load t x) (hx : evS E x = some (.v (.pointer (some ⟨g, off, none⟩)))) (hv : (catP ps)[off]? = some v) (hu : Tryd.prog.underlying t = some d) (hr : d.isRow = false) (h : ∀ G S w, View G S L R F M w → ObjF g ty ps w) :
    ∀ (G : Nat → Nat) (S : Nat → Prop) (a : Act) (w : World), Fr N (denE G E) a → View G S L R F M w → (execOp a.eval o).run Tryd.prog w = .ok (.value ((SV.v v).den G)) w := fun G S a w ha hw => by
  have h1 : a.eval x = .pointer (some ⟨g, off, none⟩) := ha.eval (evS_ok hx)
  have h2 := (h G S w hw).1.cell off
  rw [hv] at h2
  have h3 := run_load_cell hu hr h2
  unfold execOp
  simp only [ho, h1, Sem.run_bind, h3, Result.andThen_ok, Sem.run_pure]
  rfl
instance : Pst (fun _ : World => True) := ⟨fun _ _ _ _ => trivial⟩
theorem nd_at (a b : TA) : (catP (ndPs a b))[34]? = some a.val ∧ (catP (ndPs a b))[35]? = some b.val := by
  have h : (By (nodeT a.root b.root)).length = 32 := by rw [By_len]; exact digest256_len _
  have e : (catP (ndPs a b)).toList = By (nodeT a.root b.root) ++ [.int .i64 ((a.len + b.len : Nat) : Int), .pointer none, a.val, b.val] := by simp [ndPs, catP, Pt.cells, SC.den]
  rw [← Array.getElem?_toList, ← Array.getElem?_toList, e, List.getElem?_append_right (by omega), List.getElem?_append_right (by omega), h]
  exact ⟨rfl, rfl⟩
/-- What is found. -/
def FoundT (l : List PairT) (k : List UInt8) : Option (Nat × PairT) → Prop
  | none => ∀ q ∈ l, q.1 ≠ k
  | some x => x.2 ∈ l ∧ x.2.1 = k
def ptrF (x : Option (Nat × PairT)) : Value := .pointer (x.map fun y => ⟨y.1, 0, none⟩)
def FndW : Option (Nat × PairT) → World → Prop
  | none, _ => True
  | some x, w => ObjF x.1 98 (prPs x.2) w
instance {x : Option (Nat × PairT)} : Pst (FndW x) := ⟨fun w w' h hb => by
  cases x with
  | none => trivial
  | some x => exact ⟨h.1.later hb, h.2⟩⟩
theorem sideT {d : Nat} {l l0 : List PairT} {k : List UInt8} (h : ∀ q : PairT, q.1 = k → (q ∈ l ↔ q ∈ l0)) : (bitT k d = 0 → ∀ q : PairT, q.1 = k → (q ∈ leftT d l ↔ q ∈ l0)) ∧ (bitT k d ≠ 0 → ∀ q : PairT, q.1 = k → (q ∈ rightT d l ↔ q ∈ l0)) :=
  ⟨fun hb q hq => by rw [leftT_mem, h q hq, hq]; exact ⟨fun h => h.1, fun h => ⟨h, hb⟩⟩, fun hb q hq => by rw [rightT_mem, h q hq, hq]; exact ⟨fun h => h.1, fun h => ⟨h, hb⟩⟩⟩
set_option maxRecDepth 100000 in
set_option maxHeartbeats 4000000 in
theorem tfind_S (r0 : Nat) (l0 : List PairT) (t0 : TA) {k : List UInt8} (hk : k.length = 32) (hr0 : r0 ≤ 256) (ht0 : TOk r0 l0 t0) :
    Spec 41 [t0.val, (eY 32 k).den, .int .u8 (((256 - r0) % 256 : Nat) : Int)] [] (TF t0) { ret := fun x : { x : Option (Nat × PairT) // FoundT l0 k x } => .v (ptrF x.1), own := fun _ => [], p := fun x => FndW x.1 } := by
  refine spec_S [.c (.v t0.val), eY 32 k, .c (.v (.int .u8 (((256 - r0) % 256 : Nat) : Int)))] 43 Tryd.func41 rfl (by rw [Tryd.ntmps41]; rfl) (more_ok trivial (two_ok (eY_ok hk).1 trivial)) fun b => ?_
  refine s_auto TY_ok rfl ?_
  refine s_seq fun K hK => ?_
  refine s_block ?_
  let F : Nat × List PairT × TA × Nat → Env := fun ⟨_, _, t, e⟩ => ⟨[(0, .v t.val), (2, .v (.int .u8 (e : Int))), (4, .a 4 0)], [⟨4, none, 38, [.agg 32 (By k).toArray]⟩], [], TF t, fun _ => True⟩
  refine c_weak (e' := F (r0, l0, t0, (256 - r0) % 256)) ⟨⟨rfl, rfl, rfl, trivial⟩, ⟨rfl, rfl, trivial⟩, .refl _, fun _ h _ => h, fun _ _ => trivial⟩ (s_loop (fun x => x.1) F (fun x => x.1 ≤ 256 ∧ TOk x.1 x.2.1 x.2.2.1 ∧ x.2.2.2 = (256 - x.1) % 256 ∧ ∀ q : PairT, q.1 = k → (q ∈ x.2.1 ↔ q ∈ l0)) ?_ (r0, l0, t0, (256 - r0) % 256) ⟨hr0, ht0, rfl, fun _ _ => Iff.rfl⟩)
  rintro ⟨r, l, t, e⟩ ⟨hr, ht, he, hm⟩
  dsimp only at hr ht he hm
  refine s_seq fun K1 hK1 => ?_
  cases t with
  | nil =>
    obtain rfl := ht.nil_inv
    refine s_auto TY_ok rfl ?_
    refine s_no rfl ?_
    refine s_exit (k_pass (k_pass (k_out ?_)))
    refine hK _ ?_
    refine s_keep [0, 4] [4] rfl rfl ?_
    refine s_seq fun K2 hK2 => ?_
    refine s_regD 13 (by decide) (by kernel_rfl) (by kernel_rfl) fun K3 hK3 G S w0 hst => ?_
    refine g_autoS TY_ok hst rfl ?_
    refine g_endS hst ?_
    refine s_end (hK3 _ ?_)
    refine s_yes rfl ?_
    refine s_auto TY_ok rfl ?_
    exact s_ret (k_ret TY_ok ⟨none, fun q hq e => by have := (hm q e).2 hq; cases this⟩ rfl (by decide) rfl rfl rfl (fun _ _ _ => trivial) (fun _ _ => trivial))
  | leaf g h q =>
    obtain rfl := ht.leaf_inv
    refine s_regA TY_ok rfl fun K2 hK2 => ?_
    refine l_ldO TY_ok rfl rfl rfl rfl rfl rfl (obj_fact fun _ h _ => h.1) ?_
    refine l_autoS TY_ok rfl ?_
    refine s_end (hK2 _ ?_)
    refine s_no rfl ?_
    refine s_exit (k_pass (k_pass (k_out ?_)))
    refine hK _ ?_
    refine s_keep [0, 4] [4] rfl rfl ?_
    refine s_pure (OkT2 q) (fun w hw _ => prPs_ok hw.2.2) fun hq2 => ?_
    refine s_seq fun K2 hK2 => ?_
    refine s_regD 13 (by decide) (by kernel_rfl) (by kernel_rfl) fun K3 hK3 G S w0 hst => ?_
    refine g_autoS TY_ok hst rfl ?_
    refine g_ldO TY_ok hst rfl rfl rfl rfl rfl rfl (obj_fact fun _ h _ => h.1) ?_
    refine g_autoS TY_ok hst rfl ?_
    refine g_ldO TY_ok hst rfl rfl rfl rfl rfl rfl (obj_fact fun _ h _ => h.2) ?_
    refine g_autoS TY_ok hst rfl ?_
    refine g_opS (.b (!decide (q.1 = k))) trivial rfl rfl rfl (run_neqY rfl rfl rfl Tryd.underlying38 (by kernel_rfl) hq2.1 hk) ?_
    by_cases hqk : q.1 = k
    · refine g_is 37 false rfl (by simp [hqk]) ?_
      refine g_autoS TY_ok hst rfl ?_
      refine g_endS hst ?_
      refine s_end (hK3 _ ?_)
      refine s_no rfl ?_
      refine s_skip (hK2 _ ?_)
      refine s_regA TY_ok rfl fun K4 hK4 => ?_
      refine l_ldO TY_ok rfl rfl rfl rfl rfl rfl (obj_fact fun _ h _ => h.1) ?_
      refine l_autoS TY_ok rfl ?_
      refine s_end (hK4 _ ?_)
      exact s_ret (k_ret TY_ok ⟨some (h, q), (hm q hqk).1 List.mem_cons_self, hqk⟩ rfl (by decide) rfl rfl rfl (fun _ h _ => h.2) (fun _ _ => trivial))
    · refine g_is 37 true rfl (by simp [hqk]) ?_
      refine g_autoS TY_ok hst rfl ?_
      refine g_endS hst ?_
      refine s_end (hK3 _ ?_)
      refine s_yes rfl ?_
      refine s_auto TY_ok rfl ?_
      exact s_ret (k_ret TY_ok ⟨none, fun x hx e => by
        have := (hm x e).2 hx
        rw [List.mem_singleton.1 this] at e
        exact hqk e⟩ rfl (by decide) rfl rfl rfl (fun _ _ _ => trivial) (fun _ _ => trivial))
  | node g x y =>
    obtain ⟨r, rfl⟩ : ∃ q, r = q + 1 := ⟨r - 1, by
      cases r with
      | zero => exact ht.elim
      | succ r => rfl⟩
    obtain ⟨_, hx, hy⟩ := ht
    obtain ⟨d, hdr⟩ : ∃ d, 255 - r = d := ⟨_, rfl⟩
    obtain rfl : e = d := by omega
    rw [hdr] at hx hy
    have hd : e < 256 := by omega
    obtain ⟨e8, he8⟩ : ∃ e, (256 - r) % 256 = e := ⟨_, rfl⟩
    refine s_regA TY_ok rfl fun K2 hK2 => ?_
    refine l_ldO TY_ok rfl rfl rfl rfl rfl rfl (obj_fact fun _ h _ => h.1) ?_
    refine l_autoS TY_ok rfl ?_
    refine s_end (hK2 _ ?_)
    refine s_yes rfl ?_
    refine s_skip (hK1 _ ?_)
    refine s_block ?_
    have hb2 := bitT_lt k e
    refine s_regD 8 (by decide) (by kernel_rfl) (by kernel_rfl) fun K3 hK3 G S w0 hst => ?_
    refine g_autoS TY_ok hst rfl ?_
    refine g_callS (F' := fun _ => True) hst [.agg (By k).toArray, .int .u8 (e : Int)] rfl rfl rfl own_tbit rfl rfl (fun _ => rfl) (tbit_S hk e hd) trivial (fun _ _ _ _ => trivial) ?_
    by_cases hb : bitT k e = 0
    · refine g_num 19 0 rfl (by rw [show bitT k e = 0 by omega]; rfl) ?_
      refine g_autoS TY_ok hst rfl ?_
      refine g_opS (.v (.pointer (some ⟨g, 34 + 1 * 0, none⟩))) trivial rfl rfl rfl (runO_ixP 0 rfl Tryd.underlying114 rfl rfl rfl (by decide)) ?_
      refine g_opV hst (.v x.val) trivial rfl rfl rfl (runO_ldB x.val rfl rfl (nd_at x y).1 Tryd.underlying25 rfl (obj_fact fun _ h _ => h.1)) ?_
      refine g_endS hst ?_
      refine l_autoS TY_ok rfl ?_
      refine s_end (hK3 _ ?_)
      refine s_autoE TY_ok rfl ?_
      exact k_next (r, leftT e l, x, e8) ⟨by show r ≤ 256; omega, hx, he8.symm, (sideT hm).1 hb⟩ (Nat.lt_succ_self r) ⟨⟨rfl, congrArg some (congrArg SV.v (congrArg (Value.int .u8) (wrapB2 ⟨hdr.symm, by omega⟩ he8))), rfl, trivial⟩, ⟨rfl, rfl, trivial⟩, .refl _, fun _ h _ => h.2.1, fun _ _ => trivial⟩
    · refine g_num 19 1 rfl (by rw [show bitT k e = 1 by omega]; rfl) ?_
      refine g_autoS TY_ok hst rfl ?_
      refine g_opS (.v (.pointer (some ⟨g, 34 + 1 * 1, none⟩))) trivial rfl rfl rfl (runO_ixP 1 rfl Tryd.underlying114 rfl rfl rfl (by decide)) ?_
      refine g_opV hst (.v y.val) trivial rfl rfl rfl (runO_ldB y.val rfl rfl (nd_at x y).2 Tryd.underlying25 rfl (obj_fact fun _ h _ => h.1)) ?_
      refine g_endS hst ?_
      refine l_autoS TY_ok rfl ?_
      refine s_end (hK3 _ ?_)
      refine s_autoE TY_ok rfl ?_
      exact k_next (r, rightT e l, y, e8) ⟨by show r ≤ 256; omega, hy, he8.symm, (sideT hm).2 hb⟩ (Nat.lt_succ_self r) ⟨⟨rfl, congrArg some (congrArg SV.v (congrArg (Value.int .u8) (wrapB2 ⟨hdr.symm, by omega⟩ he8))), rfl, trivial⟩, ⟨rfl, rfl, trivial⟩, .refl _, fun _ h _ => h.2.2, fun _ _ => trivial⟩
end Go.Proofs.YtoecohpcnojokaaDoor
