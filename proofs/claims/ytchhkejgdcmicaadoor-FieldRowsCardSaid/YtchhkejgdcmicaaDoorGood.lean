/-
TWO ROWS OF NUMBERS IN BLOCKS OF THE CALL'S OWN.
THE DOCUMENT'S OWN NUMBERS: Good.
-/
import Derived.Test.YtchhkejgdcmicaaDoorQuiet
import Derived.Test.YtchhkejgdcmicaaDoorInv
namespace Go.Proofs.YtchhkejgdcmicaaDoor
open Go.RowKit Go.IntWalk Nums

/-- Two rows in blocks of the call's own. -/
structure SW (w wr : World) (a b : List Int) : Prop where
  b0 : Blk wr w.heap.size 30 (Is a).toArray
  b1 : Blk wr (w.heap.size + 1) 30 (Is b).toArray
  be : Below w.heap.size w wr
theorem SW.step {w wr w1 : World} {a b : List Int} (h : SW w wr a b) (hw : Below wr.heap.size wr w1) : SW w w1 a b :=
  ⟨h.b0.below hw h.b0.lt, h.b1.below hw h.b1.lt, h.be.trans (hw.mono h.be.size)⟩

end Go.Proofs.YtchhkejgdcmicaaDoor

namespace Go.Proofs.YtchhkejgdcmicaaDoor
open Go.RowKit Go.IntWalk Nums

/-- A row of bytes in a block of the call's own. -/
structure GW (w wr : World) (b : List UInt8) : Prop where
  b0 : Blk wr w.heap.size 22 (By b).toArray
  be : Below w.heap.size w wr
theorem GW.step {w wr w1 : World} {b : List UInt8} (h : GW w wr b) (hw : Below wr.heap.size wr w1) : GW w w1 b :=
  ⟨h.b0.below hw h.b0.lt, h.be.trans (hw.mono h.be.size)⟩

/-- The bytes are a number below p. -/
def isGood (b : List UInt8) : Bool := decide ((b[31]!).toNat < 128) && decide (enc (fof (le b % 57896044618658097711785492504343953926634992332820282019728792003956564819968)) = b)

set_option maxRecDepth 100000 in
set_option maxHeartbeats 2000000 in
theorem good_f (b : List UInt8) (hl : b.length = 32) (w : World) :
    Calls Tryd.prog 24 #[.agg (By b).toArray] w fun e w' => e = .returned (.bool (isGood b)) ∧ Below w.heap.size w w' := by
  have h0 : Blk (w.alloc (Obj.cells (By b).toArray 22)).drew w.heap.size 22 (By b).toArray := Blk.new w _ _
  have hbel : Below w.heap.size w (w.alloc (Obj.cells (By b).toArray 22)).drew := ((Below.refl _ _).alloc (Nat.le_refl _) _).drew
  have HW : Hid (GW w _ b) := Lib.hid ⟨h0, hbel⟩
  have HL := fun w1 => Lib.hid (load_any b w1 hl)
  have HP := fun w1 => Lib.hid (pack_f ((load_f hl).mono (by omega)) w1)
  have hE := fun w1 => equal32 (enc (fof (le b % 57896044618658097711785492504343953926634992332820282019728792003956564819968))) b (enc_len _) hl w1
  have hG : isGood b = (decide ((b[31]!).toNat < 128) && decide (enc (fof (le b % 57896044618658097711785492504343953926634992332820282019728792003956564819968)) = b)) := rfl
  have hz : (By b).toArray.size = 32 := by rw [List.size_toArray, By_len, hl]
  have hc : ∀ w1, GW w w1 b → w1.cell? ⟨w.heap.size, 31, none⟩ = some (.int .u8 ((b[31]!).toNat : Int)) := fun w1 hw1 => (hw1.b0.cell 31).trans (By_get (by omega))
  clear h0 hbel
  generalize isGood b = q at *
  generalize enc (fof (le b % 57896044618658097711785492504343953926634992332820282019728792003956564819968)) = u at *
  generalize (b[31]!).toNat = x at *
  go_enter Tryd.func24, Tryd.ntmps24
  go_wp2
  refine wp_region_quiet_C (fun w' => GW w w' b) (by kernel_rfl) (by kernel_rfl) HW.out ?_
  refine wpQuiet_step (fun K hK => ?_)
  go_simp
  refine ⟨_, fun _ _ => rfl, hK _ ?_⟩
  clear hK K
  refine q_go rfl (v := .int .u8 (x : Int)) (fun w1 hw1 => by have hc := hc w1 hw1; go_simp) ?_
  by_cases hx : x < 128
  · have hx2 : (x : Int) < 128 := by omega
    refine wpQuiet_step (fun K hK => ?_)
    go_simp
    refine ⟨_, fun _ _ => rfl, hK _ ?_⟩
    clear hK K
    refine wpQuiet_step (fun K hK => ?_)
    go_simp
    refine ⟨_, fun _ _ => rfl, hK _ ?_⟩
    clear hK K
    refine q_want_row (by rfl) 22 _ rfl w.heap.size rfl 22 (By b).toArray (0, 0) _ (fun w1 hw1 => hw1.b0) Tryd.underlying22 rfl (size_hash _ hz) ?_
    refine wpQuiet_step (fun K hK => ?_)
    go_simp
    apply Exists.intro
    refine ⟨fun w1 hw1 => (HL w1).out.mono fun e w2 ⟨he, hw2⟩ => ⟨he, hw1.step hw2⟩, hK _ ?_⟩
    clear hK K
    refine wpQuiet_step (fun K hK => ?_)
    go_simp
    apply Exists.intro
    refine ⟨fun w1 hw1 => (HP w1).out.mono fun e w2 ⟨he, hw2⟩ => ⟨he, hw1.step hw2⟩, hK _ ?_⟩
    clear hK K
    refine q_want_row (by rfl) 22 _ rfl w.heap.size rfl 22 (By b).toArray (0, 0) _ (fun w1 hw1 => hw1.b0) Tryd.underlying22 rfl (size_hash _ hz) ?_
    refine wpQuiet_step (fun K hK => ?_)
    go_simp
    refine ⟨_, fun _ _ => rfl, hK _ ?_⟩
    clear hK K
    refine wpQuiet_step (fun K hK => ?_)
    go_simp
    refine ⟨_, fun _ _ => rfl, hK _ ?_⟩
    clear hK K
    refine wpQuiet_step (fun K hK => ?_)
    go_simp
    refine ⟨_, fun _ _ => rfl, hK _ ?_⟩
    clear hK K
    refine wpQuiet_nil ?_
    intro w1 hw1
    go_wp2
    go_ret
    refine ⟨?_, hw1.be⟩
    simp [hG, hx]
  · have hx2 : ¬ (x : Int) < 128 := by omega
    refine wpQuiet_step (fun K hK => ?_)
    go_simp
    refine ⟨_, fun _ _ => rfl, hK _ ?_⟩
    clear hK K
    refine wpQuiet_step (fun K hK => ?_)
    go_simp
    refine ⟨_, fun _ _ => rfl, hK _ ?_⟩
    clear hK K
    refine q_skip (by rfl) ?_
    refine q_skip (by rfl) ?_
    refine q_skip (by rfl) ?_
    refine q_skip (by rfl) ?_
    refine q_skip (by rfl) ?_
    refine wpQuiet_step (fun K hK => ?_)
    go_simp
    refine ⟨_, fun _ _ => rfl, hK _ ?_⟩
    clear hK K
    refine wpQuiet_step (fun K hK => ?_)
    go_simp
    refine ⟨_, fun _ _ => rfl, hK _ ?_⟩
    clear hK K
    refine wpQuiet_nil ?_
    intro w1 hw1
    go_wp2
    go_ret
    refine ⟨?_, hw1.be⟩
    simp
end Go.Proofs.YtchhkejgdcmicaaDoor
