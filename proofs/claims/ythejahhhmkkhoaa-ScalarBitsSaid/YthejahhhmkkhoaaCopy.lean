/-
  REGIONS: 'copy(a[..], b[..])', where the order of the two slices is drawn.
-/
import Derived.Test.YthejahhhmkkhoaaCalls
namespace Go.Proofs.Ythejahhhmkkhoaa
open Go.RowKit Go.IntWalk

/-- l laid over z from place off on. -/
def cop (z : List UInt8) (off : Nat) (l : List UInt8) : List UInt8 := z.take off ++ (l ++ z.drop (off + l.length))
theorem cop_len {z l : List UInt8} {off : Nat} (h : off + l.length ≤ z.length) : (cop z off l).length = z.length := by
  simp [cop]
  omega

/-- What is asked behind the two slices. -/
def copyEnd (Q : Exit → Act → World → Prop) (w : World) (d s : Operand) (dst : Option Tmp) (a' : Act) : Prop :=
  ∃ (g off n c g2 c2 : Nat) (t t2 : TypeId) (z l : List UInt8), a'.eval d = .slice (some ⟨g, off, none⟩) n c ∧ a'.eval s = .slice (some ⟨g2, 0, none⟩) l.length c2 ∧ Blk w g t (By z).toArray ∧ Blk w g2 t2 (By l).toArray ∧ l.length ≤ n ∧ off + l.length ≤ z.length ∧
    ∀ w', Up w w' → Q .normal (a'.put dst (goInt l.length)) (w'.setRow g (By (cop z off l)).toArray)
theorem size_u8 : (Try.prog.info? 5).map (·.size) = some 1 := by kernel_rfl
theorem reg_copy {Q : Exit → Act → World → Prop} {id : Nat} {a : Act} {w : World} {l : List Oper} {o : Oper} (n : Nat) (d s : Operand) (hos : l.drop n = [o]) (ho : o.op = .call { callee := .builtin .copy, args := #[d, s], argTypes := #[31, 31] }) (hg : o.guard = none)
    (hB : tailB l.toArray n 0 1 = true) (hQ : ∀ c a d v w, Q (.panic c) (a.put d v) w → Q (.panic c) a w) (hm : Try.prog.follows .mixedOrders = true)
    (h : wpB Try.prog l.toArray (Up w) (copyEnd Q w d s o.dst) (l.take n) a) : (Code.region id l.toArray true).wp Try.prog Q a w := by
  have hn : n ≤ l.length := by
    have h1 := congrArg List.length hos
    simp only [List.length_drop, List.length_cons, List.length_nil] at h1
    omega
  refine region_B n (Up w) hn hm (by rw [hos]; exact hB) (fun _ _ h k => h.step k) (Up.drew w) hQ ?_
  rw [hos]
  refine wpB_mono (fun a' h' w' hw' => ?_) _ _ h
  obtain ⟨g, off, n, c, g2, c2, t, t2, z, l, hd, hs, hz, hl, h1, h2, hk⟩ := h'
  have hb := hw'.blk hz
  have hb2 := hw'.blk hl
  refine wpList_copy_own hg d s 31 31 ho 5 Try.underlying31 size_u8 g off n c ⟨g2, 0, none⟩ l.length c2 hd hs (By z).toArray t hb (By l) (by rw [By_len]; exact (Nat.min_eq_left h1).symm) ?_ (by rw [By_len, List.size_toArray, By_len]; exact h2) (By_one l) ?_
  · intro j v hv
    have hj : (Addr.mk g2 0 none).add j = ⟨g2, j, none⟩ := by
      unfold Addr.add
      by_cases h0 : j = 0
      · subst h0; rfl
      · simp [h0]
    rw [hj, hb2.cell j]
    simpa using hv
  · have e : (By z).toArray.toList.take off ++ (By l ++ (By z).toArray.toList.drop (off + (By l).length)) = By (cop z off l) := by
      simp [cop, By]
    rw [e, By_len]
    exact hk w' hw'
end Go.Proofs.Ythejahhhmkkhoaa
