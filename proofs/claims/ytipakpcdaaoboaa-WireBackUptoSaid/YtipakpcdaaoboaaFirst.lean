/-
  THE CONTRACT OF first; bytes as strings.
-/
import Derived.Test.YtipakpcdaaoboaaCalls
import Derived.Laws.BytesArg
import Derived.Lib.SlBytesConst
namespace Go.Proofs.Ytipakpcdaaoboaa
open Go.RowKit

/-- Bytes as a string. -/
def str (l : List UInt8) : ByteArray := ⟨l.toArray⟩

theorem str_eq (a b : List UInt8) : str a = str b ↔ a = b := by simp [str]

theorem str_toList (l : List UInt8) : (str l).toList = l := by rw [bytes_toList]; rfl
theorem str_beq (a b : List UInt8) : ((str a).toList == (str b).toList) = decide (a = b) := by
  rw [str_toList, str_toList, Bool.eq_iff_iff]
  simp

theorem conv_any {w : World} {lo hi c : Nat} {A : Option Addr} {l : List UInt8} (h : SL w lo hi A l c) : (convert 24 9 (.slice A l.length c)).run Try.prog w = .ok (.string (str l)) w := by
  cases A with
  | none =>
    have h0 := h.none_ rfl
    have hl : l = [] := List.eq_nil_of_length_eq_zero h0.1
    rw [run_convert_bytes_nil w 24 5 Try.underlying24 Try.underlying5 l.length c 9 Try.underlying9, hl]
    rfl
  | some ad =>
    have hl : (loadCells ad l.length).run Try.prog w = .ok ((l.map fun x => (x.toNat : Int)).map (Value.int .u8)).toArray w := by
      have h1 := run_loadCells_list (P := Try.prog) w ad (By l) (fun j v hj => h.cells ad rfl j v hj)
      simpa [By_len, By, Function.comp_def] using h1
    rw [run_convert_bytes_string w 24 9 5 _ l.length c Try.underlying24 Try.underlying5 Try.underlying9, run_bytesToString w _ l.length c _ hl, foldl_push_bytes]
    simp [str, ByteArray.empty, ByteArray.emptyWithCapacity, Function.comp_def]
    rfl

theorem SL.row {w : World} {g t lo hi : Nat} {fr : Nat × Nat} {l : List UInt8} (h : w.heap[g]? = some (.cells (By l).toArray t fr)) (h1 : lo ≤ g) (h2 : g < hi) (hm : l.length ≤ 9223372036854775807) : SL w lo hi (some ⟨g, 0, none⟩) l l.length :=
  ⟨Nat.le_refl _, hm, fun h => (by cases h), fun _ => ⟨_, rfl, h1, h2, fun j x hx => by
    have hadd : (⟨g, 0, none⟩ : Addr).add j = ⟨g, j, none⟩ := by unfold Addr.add; split <;> simp_all
    rw [hadd, cell_of_row w g j _ t fr h]
    simp [By, hx]⟩⟩

def ab : List UInt8 := [97, 98]
def demo : List UInt8 := be8 5 ++ be8 ab.length ++ ab
theorem demo1 : num demo 0 = (5, be8 2 ++ ab, 0) := by decide +kernel
theorem demo2 : byts (be8 2 ++ ab) 0 = (ab, [], 0) := by decide +kernel

theorem demo3 : ((str ab).toList == [97, 98]) = true := by decide +kernel

set_option maxHeartbeats 400000 in
theorem first_any (w : World) : Calls Try.prog 8 #[] w fun e w' => e = .returned (.bool true) ∧ Below w.heap.size w w' := by
  have kc := fun (w : World) (C : Array Value) (n c : Nat) => Lib.run_convert_bytes_const (P := Try.prog) w 24 5 C n c Try.underlying24 Try.underlying5
  go_enter Try.func8, Try.ntmps8
  go_wp2_with (fail)
  refine (number_any none [] 0 5 0 w (SL.nil _ _ _) (Nat.zero_le _) (by omega) (by simp)).mono ?_
  rintro e w1 ⟨g, rfl, ho, hb1⟩
  rw [List.nil_append] at ho
  have hs1 := (SL.own ho).alloc (Obj.cells #[Value.int IntKind.u8 97, Value.int IntKind.u8 98] 5 (2, 3)) (Nat.le_refl _)
  have hs2 : SL (w1.alloc (Obj.cells #[Value.int IntKind.u8 97, Value.int IntKind.u8 98] 5 (2, 3))) 0 (w1.heap.size + 1) (some ⟨w1.heap.size, 0, none⟩) ab ab.length :=
    SL.row (t := 5) (fr := (2, 3)) (heap_alloc_new w1 (Obj.cells #[Value.int IntKind.u8 97, Value.int IntKind.u8 98] 5 (2, 3))) (Nat.zero_le _) (by omega) (by decide)
  have hB := bytes_any _ _ _ _ _ _ (w1.heap.size + 1) _ (hs1.more (Nat.zero_le _) (by omega)) hs2 (by simp) (by simp [be8_len, ab])
  have HB := Lib.hid hB
  have hbz := hb1.alloc hb1.size (Obj.cells #[Value.int IntKind.u8 97, Value.int IntKind.u8 98] 5 (2, 3))
  clear hB hs1 hs2 ho
  go_wp2_with (fail)
  refine HB.out.mono ?_
  rintro e w2 ⟨g2, rfl, ho2, hb2⟩
  have hbw2 := hbz.trans (hb2.mono hbz.size)
  clear hbz hb2 HB hb1 kc
  have hN := new_any (some ⟨g2, 0, none⟩) demo demo.length w2.heap.size w2 ((SL.own ho2).more (Nat.zero_le _) (Nat.le_refl _)) (Nat.le_refl _) (by simp [demo, be8_len, ab])
  have HN := Lib.hid hN
  clear hN ho2
  go_wp2_with (fail)
  refine HN.out.mono ?_
  rintro e w3 ⟨r, rfl, hr, hrw, hb3⟩
  have hbw3 := hbw2.trans (hb3.mono hbw2.size)
  have hwr : w.heap.size ≤ r := Nat.le_trans hbw2.size hrw
  clear hb3 HN
  have hC := rnum_any _ r demo 0 w3 hr
  rw [demo1] at hC
  have HC := Lib.hid hC
  have hlt := hr.lt
  clear hC hr
  go_wp2_with (fail)
  refine HC.out.mono ?_
  rintro e w4 ⟨rfl, hr4, hg4⟩
  have hbw4 := below_only hbw3 hg4 hbw3.size hwr
  have hC2 := rbytes_any _ r (be8 2 ++ ab) 0 w4 hr4
  rw [demo2] at hC2
  have HC2 := Lib.hid hC2
  clear hC2 hr4 hg4 HC
  go_wp2_with (fail)
  refine HC2.out.mono ?_
  rintro e w5 ⟨g5, rfl, hs5, hr5, hg5⟩
  have hbw5 := below_only hbw4 hg5 hbw4.size hwr
  have hcv := conv_any hs5
  have hD := done_any _ r [] 0 w5 hr5
  rw [show don [] 0 = 0 from rfl] at hD
  have HD := Lib.hid hD
  have hab := demo3
  clear hD hr5 hg5 HC2 hs5
  go_wp2_with (fail)
  refine HD.out.mono ?_
  rintro e w6 ⟨rfl, rfl⟩
  go_wp2
  go_ret
  exact ⟨rfl, hbw5⟩

end Go.Proofs.Ytipakpcdaaoboaa
