/-
  REGIONS THAT DRAW THEIR ORDER: 'x, ok := f(..)', where what is stored need not wait for the second part.
-/
import Derived.Test.YtchhkejgdcmicaaDoorCalls
namespace Go.Proofs.YtchhkejgdcmicaaDoor
open Go.RowKit Go.IntWalk

section
variable {P : Program} {Q : Exit → Act → World → Prop}

/-- What is asked behind the reads and calls of 'x, ok := ..'. -/
def tupEnd (P : Program) (Q : Exit → Act → World → Prop) (w : World) (t t2 : Tmp) (ty : TypeId) (x y : Operand) (n : Nat) (a' : Act) : Prop :=
  ∃ (cells : Array Value) (v2 : Value), (∀ v, (a'.put (some t) v).eval (.tmp t) = v) ∧ (∀ v, (a'.put (some t) v).eval x = .agg cells) ∧ (∀ v, (a'.put (some t) v).eval y = v2) ∧ n = cells.size ∧ (P.info? ty).map (·.size) = some cells.size ∧ (∀ v ∈ cells.toList, v.oneCell' = true) ∧
    ∀ g w', w.heap.size ≤ g → Up w w' → Blk w' g ty cells → Q .normal ((a'.put (some t) (.pointer (some ⟨g, 0, none⟩))).put (some t2) v2) w'

theorem reg_tup {id : Nat} {a : Act} {w : World} {l : List Oper} {oa os ot : Oper} (n : Nat) (t t2 : Tmp) (ty : TypeId) (x y : Operand) (zs : Array Value) (hl : l = l.take n ++ [oa, os, ot]) (hn : (l.take n).length = n)
    (hop : os.op = .store ty (.tmp t) x) (hot : ot.op = .assign y) (hsg : os.guard = none) (htg : ot.guard = none) (hsd : os.dst = none) (htd : ot.dst = some t2) (hag : oa.guard = none) (had : oa.dst = some t) (hm : P.follows .mixedOrders = true)
    (hs : Region.noSelect l.toArray = true) (hh : headC .any l.toArray n l 0 = true) (hch : chainB .any l 0 none = true)
    (hr0 : Region.ready .any l.toArray (marks n 0 (Array.replicate l.toArray.size false)) = [n])
    (hr1 : Region.ready .any l.toArray ((marks n 0 (Array.replicate l.toArray.size false)).setIfInBounds n true) = [n + 1])
    (hr2 : Region.ready .any l.toArray (((marks n 0 (Array.replicate l.toArray.size false)).setIfInBounds n true).setIfInBounds (n + 1) true) = [n + 2])
    (hr3 : Region.ready .any l.toArray ((((marks n 0 (Array.replicate l.toArray.size false)).setIfInBounds n true).setIfInBounds (n + 1) true).setIfInBounds (n + 2) true) = [])
    (hQ : ∀ c a d v w, Q (.panic c) (a.put d v) w → Q (.panic c) a w)
    (hrun : ∀ (a : Act) w, (execOp a.eval oa).run P w = .ok (.value (.pointer (some ⟨w.heap.size, 0, none⟩))) (w.alloc (.cells zs ty)))
    (h : wpB P l.toArray (Up w) (tupEnd P Q w t t2 ty x y zs.size) (l.take n) a) : (Code.region id l.toArray true).wp P Q a w := by
  have hB : headB .any l.toArray n 0 (Array.replicate l.toArray.size false) = true := headB_of (by simpa using hch) n l 0 _ Inv.start (by simp) hh
  generalize l.take n = L at *
  subst hl
  subst hn
  refine wp_region_any hm ?_
  have hoa : (L ++ [oa, os, ot]).toArray[L.length]? = some oa := by simp
  have hos : (L ++ [oa, os, ot]).toArray[L.length + 1]? = some os := by simp
  have hoT : (L ++ [oa, os, ot]).toArray[L.length + 2]? = some ot := by simp
  have hz : (L ++ [oa, os, ot]).toArray.size = 3 + L.length := by simp; omega
  have hG : wpAnyU P .any (L ++ [oa, os, ot]).toArray (Up w) Q (3 + L.length) 0 (3 + L.length) w.drew (Array.replicate (L ++ [oa, os, ot]).toArray.size false) a := by
    refine wpAnyU_head (fun _ _ h k => h.step k) hs hQ 3 w.drew (Up.drew w) L 0 _ a (Closed.none _) (by omega) (fun j hj => by simp [List.getElem?_append_left hj]) hB ?_
    refine wpB_mono (fun a' h' => ⟨by rw [hr0]; exact List.cons_ne_nil _ _, fun i hi => ?_⟩) L a h
    rw [hr0, List.mem_singleton] at hi
    subst hi
    obtain ⟨cells, v2, h1, h2, h2y, hsz, hi, ho, hk⟩ := h'
    refine wpAnyU_new (base := w.heap.size) hoa hag hrun (fun _ _ h k => h.step k) (fun _ h => h.size) (Up.drew w) fun w1 hw1 hC1 hp => ⟨by rw [hr1]; exact List.cons_ne_nil _ _, fun i hi => ?_⟩
    have hb1 : Blk (w1.alloc (.cells zs ty)) w1.heap.size ty zs := Blk.new w1 _ _
    rw [hr1, List.mem_singleton] at hi
    subst hi
    rw [had]
    generalize w1.heap.size = g at *
    intro w2 hw2
    have hb2 := hb1.later hw2
    have hC2 : Up w w2 := (hC1.alloc _).step hw2
    unfold wpOp
    simp only [hos]
    rw [if_pos (by simp [Region.wanted, hsg])]
    refine .inl ?_
    have hst := run_store_row (P := P) w2 ty g cells zs ty hb2 (by rw [hi]) hsz ho
    unfold Oper.wp execOp
    simp only [hop, h1, h2, Sem.run_bind, hst, Result.andThen_ok, Sem.run_pure, Oper.upon]
    rw [hsd]
    have hC3 : Up w (w2.setRow g cells) := up_row hC2 hp _
    have hb3 : Blk (w2.setRow g cells) g ty cells := hb2.row _
    refine ⟨hC3, by rw [hr2]; exact List.cons_ne_nil _ _, fun i hi => ?_⟩
    rw [hr2, List.mem_singleton] at hi
    subst hi
    intro w4 hw4
    have hb4 := hb3.later hw4
    have hC4 : Up w w4 := hC3.step hw4
    unfold wpOp
    simp only [hoT]
    rw [if_pos (by simp [Region.wanted, htg])]
    refine .inl ?_
    unfold Oper.wp execOp
    simp only [hot, Sem.run_pure, Oper.upon]
    refine ⟨hC4, ?_⟩
    refine ⟨fun j hj => ?_, fun w5 hw5 => ⟨hr3, ?_⟩⟩
    · rw [hr3] at hj
      cases hj
    rw [htd]
    have e : (Act.put (Act.put a' (some t) (.pointer (some ⟨g, 0, none⟩))) none undef).eval y = v2 := h2y _
    rw [e]
    exact hk g w5 hp (hC4.step hw5) (hb4.later hw5)
  have h2 := wpAny_of_U (3 + L.length) _ a w.drew hG
  rw [Nat.zero_add, ← hz] at h2
  exact h2
end
end Go.Proofs.YtchhkejgdcmicaaDoor
