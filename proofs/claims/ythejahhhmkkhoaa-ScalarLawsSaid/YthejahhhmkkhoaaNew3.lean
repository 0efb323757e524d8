/-
  REGIONS THAT DRAW THEIR ORDER: three new variables ('x, y, z := ..').
-/
import Derived.Test.YthejahhhmkkhoaaCalls
namespace Go.Proofs.Ythejahhhmkkhoaa
open Go.RowKit Go.IntWalk

section
variable {P : Program} {Q : Exit → Act → World → Prop}

/-- **Three new variables.** -/
theorem region_new3 {id : Nat} {a : Act} {w : World} {l : List Oper} {oa ob oc : Oper} (n : Nat) (C0 : World → Prop) (base ta tb tc : Nat) (za zb zc : Array Value) (T : List Oper) (hl : l = l.take n ++ oa :: ob :: oc :: T) (hn : (l.take n).length = n) (hm : P.follows .mixedOrders = true)
    (hB : tailB l.toArray n 3 T.length = true)
    (hr : Region.ready .any l.toArray (marks n 0 (Array.replicate l.toArray.size false)) = [n, n + 1, n + 2])
    (hra : Region.ready .any l.toArray ((marks n 0 (Array.replicate l.toArray.size false)).setIfInBounds n true) = [n + 1, n + 2])
    (hrb : Region.ready .any l.toArray ((marks n 0 (Array.replicate l.toArray.size false)).setIfInBounds (n + 1) true) = [n, n + 2])
    (hrc : Region.ready .any l.toArray ((marks n 0 (Array.replicate l.toArray.size false)).setIfInBounds (n + 2) true) = [n, n + 1])
    (hrab : Region.ready .any l.toArray (((marks n 0 (Array.replicate l.toArray.size false)).setIfInBounds n true).setIfInBounds (n + 1) true) = [n + 2])
    (hrac : Region.ready .any l.toArray (((marks n 0 (Array.replicate l.toArray.size false)).setIfInBounds n true).setIfInBounds (n + 2) true) = [n + 1])
    (hrbc : Region.ready .any l.toArray (((marks n 0 (Array.replicate l.toArray.size false)).setIfInBounds (n + 1) true).setIfInBounds (n + 2) true) = [n])
    (hcl : ∀ w w', C0 w → Below w.heap.size w w' → C0 w') (hb : ∀ w, C0 w → base ≤ w.heap.size) (hC : C0 w.drew) (hQ : ∀ c a d v w, Q (.panic c) (a.put d v) w → Q (.panic c) a w)
    (hga : oa.guard = none) (hruna : ∀ (a : Act) w, (execOp a.eval oa).run P w = .ok (.value (.pointer (some ⟨w.heap.size, 0, none⟩))) (w.alloc (.cells za ta)))
    (hgb : ob.guard = none) (hrunb : ∀ (a : Act) w, (execOp a.eval ob).run P w = .ok (.value (.pointer (some ⟨w.heap.size, 0, none⟩))) (w.alloc (.cells zb tb)))
    (hgc : oc.guard = none) (hrunc : ∀ (a : Act) w, (execOp a.eval oc).run P w = .ok (.value (.pointer (some ⟨w.heap.size, 0, none⟩))) (w.alloc (.cells zc tc)))
    (hdab : ∀ d, oa.dst = some d → ob.dst ≠ some d) (hdac : ∀ d, oa.dst = some d → oc.dst ≠ some d) (hdbc : ∀ d, ob.dst = some d → oc.dst ≠ some d)
    (h : wpB P l.toArray C0 (fun a' => ∀ pa pb pc w', C0 w' → base ≤ pa → base ≤ pb → base ≤ pc → pa ≠ pb → pa ≠ pc → pb ≠ pc → Blk w' pa ta za → Blk w' pb tb zb → Blk w' pc tc zc →
      wpList P l.toArray Q T (((a'.put oa.dst (.pointer (some ⟨pa, 0, none⟩))).put ob.dst (.pointer (some ⟨pb, 0, none⟩))).put oc.dst (.pointer (some ⟨pc, 0, none⟩))) w') (l.take n) a) :
    (Code.region id l.toArray true).wp P Q a w := by
  generalize l.take n = L at *
  subst hl
  subst hn
  simp only [tailB, Bool.and_eq_true, decide_eq_true_eq] at hB
  obtain ⟨⟨⟨⟨hs, hh⟩, hz⟩, hsk⟩, hf⟩ := hB
  refine wp_region_any hm ?_
  have hoa : (L ++ oa :: ob :: oc :: T).toArray[L.length]? = some oa := by simp
  have hob : (L ++ oa :: ob :: oc :: T).toArray[L.length + 1]? = some ob := by simp
  have hoc : (L ++ oa :: ob :: oc :: T).toArray[L.length + 2]? = some oc := by simp
  have hT : ∀ j, j < T.length → T[j]? = (L ++ oa :: ob :: oc :: T).toArray[3 + L.length + j]? := fun j _ => by
    have e : 3 + L.length + j = L.length + (j + 3) := by omega
    rw [e]
    simp [List.getElem?_append_right]
  have hal := fun (w : World) t (zs : Array Value) => (Below.refl w.heap.size w).alloc (Nat.le_refl _) (.cells zs t)
  have hG : wpAnyU P .any (L ++ oa :: ob :: oc :: T).toArray C0 Q (3 + L.length) T.length (3 + L.length) w.drew (Array.replicate (L ++ oa :: ob :: oc :: T).toArray.size false) a := by
    refine wpAnyU_head hcl hs hQ 3 w.drew hC L 0 _ a (Closed.none _) (by omega) (fun j hj => by simp [List.getElem?_append_left hj]) hh ?_
    refine wpB_mono (fun a' h' => ⟨by rw [hr]; exact List.cons_ne_nil _ _, fun i hi => ?_⟩) L a h
    have hfin : ∀ pa pb pc w0 a2, C0 w0 → base ≤ pa → base ≤ pb → base ≤ pc → pa ≠ pb → pa ≠ pc → pb ≠ pc → Blk w0 pa ta za → Blk w0 pb tb zb → Blk w0 pc tc zc →
        a2 = ((a'.put oa.dst (.pointer (some ⟨pa, 0, none⟩))).put ob.dst (.pointer (some ⟨pb, 0, none⟩))).put oc.dst (.pointer (some ⟨pc, 0, none⟩)) →
        wpAnyU P .any (L ++ oa :: ob :: oc :: T).toArray C0 Q (3 + L.length) T.length 0 w0 ((((marks L.length 0 (Array.replicate (L ++ oa :: ob :: oc :: T).toArray.size false)).setIfInBounds L.length true).setIfInBounds (L.length + 1) true).setIfInBounds (L.length + 2) true) a2 := by
      rintro pa pb pc w0 a2 hC0 h1 h2 h3 n1 n2 n3 k1 k2 k3 rfl
      refine ⟨fun j hj i hi => ?_, fun w' hw' => ?_⟩
      · have h1 := List.all_eq_true.1 hsk j hj
        exact List.all_eq_true.1 h1 i (List.mem_range.2 hi)
      · exact wpAny_forced T (3 + L.length) _ _ w' hT hf (h' pa pb pc w' (hcl _ _ hC0 hw') h1 h2 h3 n1 n2 n3 (k1.later hw') (k2.later hw') (k3.later hw'))
    rw [hr] at hi
    rcases List.mem_cons.1 hi with rfl | hi
    · refine wpAnyU_new (base := base) hoa hga hruna hcl hb hC fun w1 hw1 hC1 ha => ⟨by rw [hra]; exact List.cons_ne_nil _ _, fun i hi => ?_⟩
      have hba : Blk (w1.alloc (.cells za ta)) w1.heap.size ta za := Blk.new w1 _ _
      rw [hra] at hi
      rcases List.mem_cons.1 hi with rfl | hi
      · refine wpAnyU_new (base := base) hob hgb hrunb hcl hb (hcl _ _ hC1 (hal _ _ _)) fun w2 hw2 hC2 hb' => ⟨by rw [(show Region.ready .any (L ++ oa :: ob :: oc :: T).toArray (((marks L.length 0 (Array.replicate (L ++ oa :: ob :: oc :: T).toArray.size false)).setIfInBounds L.length true).setIfInBounds (L.length + 1) true) = [(L.length + 2)] by exact hrab)]; exact List.cons_ne_nil _ _, fun i hi => ?_⟩
        rw [(show Region.ready .any (L ++ oa :: ob :: oc :: T).toArray (((marks L.length 0 (Array.replicate (L ++ oa :: ob :: oc :: T).toArray.size false)).setIfInBounds L.length true).setIfInBounds (L.length + 1) true) = [(L.length + 2)] by exact hrab), List.mem_singleton] at hi
        subst hi
        have hba := hba.later hw2
        have hn1 := Nat.ne_of_lt hba.lt
        have hba := hba.later (hal w2 tb zb)
        have hbb : Blk (w2.alloc (.cells zb tb)) w2.heap.size tb zb := Blk.new w2 _ _
        refine wpAnyU_new (base := base) hoc hgc hrunc hcl hb (hcl _ _ hC2 (hal _ _ _)) fun w3 hw3 hC3 hc => ?_
        have hba := hba.later hw3
        have hbb := hbb.later hw3
        have hn2 := Nat.ne_of_lt hba.lt
        have hn3 := Nat.ne_of_lt hbb.lt
        have hba := hba.later (hal w3 tc zc)
        have hbb := hbb.later (hal w3 tc zc)
        have hbc : Blk (w3.alloc (.cells zc tc)) w3.heap.size tc zc := Blk.new w3 _ _
        exact hfin w1.heap.size w2.heap.size w3.heap.size _ _ (hcl _ _ hC3 (hal _ _ _)) ha hb' hc hn1 hn2 hn3 hba hbb hbc (rfl)
      · rw [List.mem_singleton] at hi
        subst hi
        refine wpAnyU_new (base := base) hoc hgc hrunc hcl hb (hcl _ _ hC1 (hal _ _ _)) fun w2 hw2 hC2 hc => ⟨by rw [(show Region.ready .any (L ++ oa :: ob :: oc :: T).toArray (((marks L.length 0 (Array.replicate (L ++ oa :: ob :: oc :: T).toArray.size false)).setIfInBounds L.length true).setIfInBounds (L.length + 2) true) = [(L.length + 1)] by exact hrac)]; exact List.cons_ne_nil _ _, fun i hi => ?_⟩
        rw [(show Region.ready .any (L ++ oa :: ob :: oc :: T).toArray (((marks L.length 0 (Array.replicate (L ++ oa :: ob :: oc :: T).toArray.size false)).setIfInBounds L.length true).setIfInBounds (L.length + 2) true) = [(L.length + 1)] by exact hrac), List.mem_singleton] at hi
        subst hi
        have hba := hba.later hw2
        have hn1 := Nat.ne_of_lt hba.lt
        have hba := hba.later (hal w2 tc zc)
        have hbc : Blk (w2.alloc (.cells zc tc)) w2.heap.size tc zc := Blk.new w2 _ _
        refine wpAnyU_new (base := base) hob hgb hrunb hcl hb (hcl _ _ hC2 (hal _ _ _)) fun w3 hw3 hC3 hb' => ?_
        have hba := hba.later hw3
        have hbc := hbc.later hw3
        have hn2 := Nat.ne_of_lt hba.lt
        have hn3 := Nat.ne_of_lt hbc.lt
        have hba := hba.later (hal w3 tb zb)
        have hbc := hbc.later (hal w3 tb zb)
        have hbb : Blk (w3.alloc (.cells zb tb)) w3.heap.size tb zb := Blk.new w3 _ _
        rw [show (((marks L.length 0 (Array.replicate (L ++ oa :: ob :: oc :: T).toArray.size false)).setIfInBounds L.length true).setIfInBounds (L.length + 2) true).setIfInBounds (L.length + 1) true = (((marks L.length 0 (Array.replicate (L ++ oa :: ob :: oc :: T).toArray.size false)).setIfInBounds L.length true).setIfInBounds (L.length + 1) true).setIfInBounds (L.length + 2) true from Array.setIfInBounds_comm _ _ (by omega)]
        exact hfin w1.heap.size w3.heap.size w2.heap.size _ _ (hcl _ _ hC3 (hal _ _ _)) ha hb' hc hn2 hn1 (Ne.symm hn3) hba hbb hbc ((Act.put_comm (x := ob.dst) (y := oc.dst) (a'.put oa.dst (.pointer (some ⟨w1.heap.size, 0, none⟩))) (.pointer (some ⟨w3.heap.size, 0, none⟩)) (.pointer (some ⟨w2.heap.size, 0, none⟩)) hdbc).symm)
    · rcases List.mem_cons.1 hi with rfl | hi
      · refine wpAnyU_new (base := base) hob hgb hrunb hcl hb hC fun w1 hw1 hC1 hb' => ⟨by rw [hrb]; exact List.cons_ne_nil _ _, fun i hi => ?_⟩
        have hbb : Blk (w1.alloc (.cells zb tb)) w1.heap.size tb zb := Blk.new w1 _ _
        rw [hrb] at hi
        rcases List.mem_cons.1 hi with rfl | hi
        · refine wpAnyU_new (base := base) hoa hga hruna hcl hb (hcl _ _ hC1 (hal _ _ _)) fun w2 hw2 hC2 ha => ⟨by rw [(show Region.ready .any (L ++ oa :: ob :: oc :: T).toArray (((marks L.length 0 (Array.replicate (L ++ oa :: ob :: oc :: T).toArray.size false)).setIfInBounds (L.length + 1) true).setIfInBounds L.length true) = [(L.length + 2)] by rw [Array.setIfInBounds_comm _ _ (show (L.length + 1) ≠ L.length by omega)]; exact hrab)]; exact List.cons_ne_nil _ _, fun i hi => ?_⟩
          rw [(show Region.ready .any (L ++ oa :: ob :: oc :: T).toArray (((marks L.length 0 (Array.replicate (L ++ oa :: ob :: oc :: T).toArray.size false)).setIfInBounds (L.length + 1) true).setIfInBounds L.length true) = [(L.length + 2)] by rw [Array.setIfInBounds_comm _ _ (show (L.length + 1) ≠ L.length by omega)]; exact hrab), List.mem_singleton] at hi
          subst hi
          have hbb := hbb.later hw2
          have hn1 := Nat.ne_of_lt hbb.lt
          have hbb := hbb.later (hal w2 ta za)
          have hba : Blk (w2.alloc (.cells za ta)) w2.heap.size ta za := Blk.new w2 _ _
          refine wpAnyU_new (base := base) hoc hgc hrunc hcl hb (hcl _ _ hC2 (hal _ _ _)) fun w3 hw3 hC3 hc => ?_
          have hbb := hbb.later hw3
          have hba := hba.later hw3
          have hn2 := Nat.ne_of_lt hbb.lt
          have hn3 := Nat.ne_of_lt hba.lt
          have hbb := hbb.later (hal w3 tc zc)
          have hba := hba.later (hal w3 tc zc)
          have hbc : Blk (w3.alloc (.cells zc tc)) w3.heap.size tc zc := Blk.new w3 _ _
          rw [show ((marks L.length 0 (Array.replicate (L ++ oa :: ob :: oc :: T).toArray.size false)).setIfInBounds (L.length + 1) true).setIfInBounds L.length true = ((marks L.length 0 (Array.replicate (L ++ oa :: ob :: oc :: T).toArray.size false)).setIfInBounds L.length true).setIfInBounds (L.length + 1) true from Array.setIfInBounds_comm _ _ (by omega)]
          exact hfin w2.heap.size w1.heap.size w3.heap.size _ _ (hcl _ _ hC3 (hal _ _ _)) ha hb' hc (Ne.symm hn1) hn3 hn2 hba hbb hbc (congrArg (fun z => Act.put z oc.dst (.pointer (some ⟨w3.heap.size, 0, none⟩))) (Act.put_comm (x := oa.dst) (y := ob.dst) a' (.pointer (some ⟨w2.heap.size, 0, none⟩)) (.pointer (some ⟨w1.heap.size, 0, none⟩)) hdab).symm)
        · rw [List.mem_singleton] at hi
          subst hi
          refine wpAnyU_new (base := base) hoc hgc hrunc hcl hb (hcl _ _ hC1 (hal _ _ _)) fun w2 hw2 hC2 hc => ⟨by rw [(show Region.ready .any (L ++ oa :: ob :: oc :: T).toArray (((marks L.length 0 (Array.replicate (L ++ oa :: ob :: oc :: T).toArray.size false)).setIfInBounds (L.length + 1) true).setIfInBounds (L.length + 2) true) = [L.length] by exact hrbc)]; exact List.cons_ne_nil _ _, fun i hi => ?_⟩
          rw [(show Region.ready .any (L ++ oa :: ob :: oc :: T).toArray (((marks L.length 0 (Array.replicate (L ++ oa :: ob :: oc :: T).toArray.size false)).setIfInBounds (L.length + 1) true).setIfInBounds (L.length + 2) true) = [L.length] by exact hrbc), List.mem_singleton] at hi
          subst hi
          have hbb := hbb.later hw2
          have hn1 := Nat.ne_of_lt hbb.lt
          have hbb := hbb.later (hal w2 tc zc)
          have hbc : Blk (w2.alloc (.cells zc tc)) w2.heap.size tc zc := Blk.new w2 _ _
          refine wpAnyU_new (base := base) hoa hga hruna hcl hb (hcl _ _ hC2 (hal _ _ _)) fun w3 hw3 hC3 ha => ?_
          have hbb := hbb.later hw3
          have hbc := hbc.later hw3
          have hn2 := Nat.ne_of_lt hbb.lt
          have hn3 := Nat.ne_of_lt hbc.lt
          have hbb := hbb.later (hal w3 ta za)
          have hbc := hbc.later (hal w3 ta za)
          have hba : Blk (w3.alloc (.cells za ta)) w3.heap.size ta za := Blk.new w3 _ _
          rw [show (((marks L.length 0 (Array.replicate (L ++ oa :: ob :: oc :: T).toArray.size false)).setIfInBounds (L.length + 1) true).setIfInBounds (L.length + 2) true).setIfInBounds L.length true = (((marks L.length 0 (Array.replicate (L ++ oa :: ob :: oc :: T).toArray.size false)).setIfInBounds (L.length + 1) true).setIfInBounds L.length true).setIfInBounds (L.length + 2) true from Array.setIfInBounds_comm _ _ (by omega)]
          rw [show ((marks L.length 0 (Array.replicate (L ++ oa :: ob :: oc :: T).toArray.size false)).setIfInBounds (L.length + 1) true).setIfInBounds L.length true = ((marks L.length 0 (Array.replicate (L ++ oa :: ob :: oc :: T).toArray.size false)).setIfInBounds L.length true).setIfInBounds (L.length + 1) true from Array.setIfInBounds_comm _ _ (by omega)]
          exact hfin w3.heap.size w1.heap.size w2.heap.size _ _ (hcl _ _ hC3 (hal _ _ _)) ha hb' hc (Ne.symm hn2) (Ne.symm hn3) hn1 hba hbb hbc (((Act.put_comm (x := oa.dst) (y := oc.dst) (a'.put ob.dst (.pointer (some ⟨w1.heap.size, 0, none⟩))) (.pointer (some ⟨w3.heap.size, 0, none⟩)) (.pointer (some ⟨w2.heap.size, 0, none⟩)) hdac).symm).trans (congrArg (fun z => Act.put z oc.dst (.pointer (some ⟨w2.heap.size, 0, none⟩))) (Act.put_comm (x := oa.dst) (y := ob.dst) a' (.pointer (some ⟨w3.heap.size, 0, none⟩)) (.pointer (some ⟨w1.heap.size, 0, none⟩)) hdab).symm))
      · rw [List.mem_singleton] at hi
        subst hi
        refine wpAnyU_new (base := base) hoc hgc hrunc hcl hb hC fun w1 hw1 hC1 hc => ⟨by rw [hrc]; exact List.cons_ne_nil _ _, fun i hi => ?_⟩
        have hbc : Blk (w1.alloc (.cells zc tc)) w1.heap.size tc zc := Blk.new w1 _ _
        rw [hrc] at hi
        rcases List.mem_cons.1 hi with rfl | hi
        · refine wpAnyU_new (base := base) hoa hga hruna hcl hb (hcl _ _ hC1 (hal _ _ _)) fun w2 hw2 hC2 ha => ⟨by rw [(show Region.ready .any (L ++ oa :: ob :: oc :: T).toArray (((marks L.length 0 (Array.replicate (L ++ oa :: ob :: oc :: T).toArray.size false)).setIfInBounds (L.length + 2) true).setIfInBounds L.length true) = [(L.length + 1)] by rw [Array.setIfInBounds_comm _ _ (show (L.length + 2) ≠ L.length by omega)]; exact hrac)]; exact List.cons_ne_nil _ _, fun i hi => ?_⟩
          rw [(show Region.ready .any (L ++ oa :: ob :: oc :: T).toArray (((marks L.length 0 (Array.replicate (L ++ oa :: ob :: oc :: T).toArray.size false)).setIfInBounds (L.length + 2) true).setIfInBounds L.length true) = [(L.length + 1)] by rw [Array.setIfInBounds_comm _ _ (show (L.length + 2) ≠ L.length by omega)]; exact hrac), List.mem_singleton] at hi
          subst hi
          have hbc := hbc.later hw2
          have hn1 := Nat.ne_of_lt hbc.lt
          have hbc := hbc.later (hal w2 ta za)
          have hba : Blk (w2.alloc (.cells za ta)) w2.heap.size ta za := Blk.new w2 _ _
          refine wpAnyU_new (base := base) hob hgb hrunb hcl hb (hcl _ _ hC2 (hal _ _ _)) fun w3 hw3 hC3 hb' => ?_
          have hbc := hbc.later hw3
          have hba := hba.later hw3
          have hn2 := Nat.ne_of_lt hbc.lt
          have hn3 := Nat.ne_of_lt hba.lt
          have hbc := hbc.later (hal w3 tb zb)
          have hba := hba.later (hal w3 tb zb)
          have hbb : Blk (w3.alloc (.cells zb tb)) w3.heap.size tb zb := Blk.new w3 _ _
          rw [show ((marks L.length 0 (Array.replicate (L ++ oa :: ob :: oc :: T).toArray.size false)).setIfInBounds (L.length + 2) true).setIfInBounds L.length true = ((marks L.length 0 (Array.replicate (L ++ oa :: ob :: oc :: T).toArray.size false)).setIfInBounds L.length true).setIfInBounds (L.length + 2) true from Array.setIfInBounds_comm _ _ (by omega)]
          rw [show (((marks L.length 0 (Array.replicate (L ++ oa :: ob :: oc :: T).toArray.size false)).setIfInBounds L.length true).setIfInBounds (L.length + 2) true).setIfInBounds (L.length + 1) true = (((marks L.length 0 (Array.replicate (L ++ oa :: ob :: oc :: T).toArray.size false)).setIfInBounds L.length true).setIfInBounds (L.length + 1) true).setIfInBounds (L.length + 2) true from Array.setIfInBounds_comm _ _ (by omega)]
          exact hfin w2.heap.size w3.heap.size w1.heap.size _ _ (hcl _ _ hC3 (hal _ _ _)) ha hb' hc hn3 (Ne.symm hn1) (Ne.symm hn2) hba hbb hbc ((congrArg (fun z => Act.put z ob.dst (.pointer (some ⟨w3.heap.size, 0, none⟩))) (Act.put_comm (x := oa.dst) (y := oc.dst) a' (.pointer (some ⟨w2.heap.size, 0, none⟩)) (.pointer (some ⟨w1.heap.size, 0, none⟩)) hdac).symm).trans ((Act.put_comm (x := ob.dst) (y := oc.dst) (a'.put oa.dst (.pointer (some ⟨w2.heap.size, 0, none⟩))) (.pointer (some ⟨w3.heap.size, 0, none⟩)) (.pointer (some ⟨w1.heap.size, 0, none⟩)) hdbc).symm))
        · rw [List.mem_singleton] at hi
          subst hi
          refine wpAnyU_new (base := base) hob hgb hrunb hcl hb (hcl _ _ hC1 (hal _ _ _)) fun w2 hw2 hC2 hb' => ⟨by rw [(show Region.ready .any (L ++ oa :: ob :: oc :: T).toArray (((marks L.length 0 (Array.replicate (L ++ oa :: ob :: oc :: T).toArray.size false)).setIfInBounds (L.length + 2) true).setIfInBounds (L.length + 1) true) = [L.length] by rw [Array.setIfInBounds_comm _ _ (show (L.length + 2) ≠ (L.length + 1) by omega)]; exact hrbc)]; exact List.cons_ne_nil _ _, fun i hi => ?_⟩
          rw [(show Region.ready .any (L ++ oa :: ob :: oc :: T).toArray (((marks L.length 0 (Array.replicate (L ++ oa :: ob :: oc :: T).toArray.size false)).setIfInBounds (L.length + 2) true).setIfInBounds (L.length + 1) true) = [L.length] by rw [Array.setIfInBounds_comm _ _ (show (L.length + 2) ≠ (L.length + 1) by omega)]; exact hrbc), List.mem_singleton] at hi
          subst hi
          have hbc := hbc.later hw2
          have hn1 := Nat.ne_of_lt hbc.lt
          have hbc := hbc.later (hal w2 tb zb)
          have hbb : Blk (w2.alloc (.cells zb tb)) w2.heap.size tb zb := Blk.new w2 _ _
          refine wpAnyU_new (base := base) hoa hga hruna hcl hb (hcl _ _ hC2 (hal _ _ _)) fun w3 hw3 hC3 ha => ?_
          have hbc := hbc.later hw3
          have hbb := hbb.later hw3
          have hn2 := Nat.ne_of_lt hbc.lt
          have hn3 := Nat.ne_of_lt hbb.lt
          have hbc := hbc.later (hal w3 ta za)
          have hbb := hbb.later (hal w3 ta za)
          have hba : Blk (w3.alloc (.cells za ta)) w3.heap.size ta za := Blk.new w3 _ _
          rw [show ((marks L.length 0 (Array.replicate (L ++ oa :: ob :: oc :: T).toArray.size false)).setIfInBounds (L.length + 2) true).setIfInBounds (L.length + 1) true = ((marks L.length 0 (Array.replicate (L ++ oa :: ob :: oc :: T).toArray.size false)).setIfInBounds (L.length + 1) true).setIfInBounds (L.length + 2) true from Array.setIfInBounds_comm _ _ (by omega)]
          rw [show (((marks L.length 0 (Array.replicate (L ++ oa :: ob :: oc :: T).toArray.size false)).setIfInBounds (L.length + 1) true).setIfInBounds (L.length + 2) true).setIfInBounds L.length true = (((marks L.length 0 (Array.replicate (L ++ oa :: ob :: oc :: T).toArray.size false)).setIfInBounds (L.length + 1) true).setIfInBounds L.length true).setIfInBounds (L.length + 2) true from Array.setIfInBounds_comm _ _ (by omega)]
          rw [show ((marks L.length 0 (Array.replicate (L ++ oa :: ob :: oc :: T).toArray.size false)).setIfInBounds (L.length + 1) true).setIfInBounds L.length true = ((marks L.length 0 (Array.replicate (L ++ oa :: ob :: oc :: T).toArray.size false)).setIfInBounds L.length true).setIfInBounds (L.length + 1) true from Array.setIfInBounds_comm _ _ (by omega)]
          exact hfin w3.heap.size w2.heap.size w1.heap.size _ _ (hcl _ _ hC3 (hal _ _ _)) ha hb' hc (Ne.symm hn3) (Ne.symm hn2) (Ne.symm hn1) hba hbb hbc ((congrArg (fun z => Act.put z oa.dst (.pointer (some ⟨w3.heap.size, 0, none⟩))) (Act.put_comm (x := ob.dst) (y := oc.dst) a' (.pointer (some ⟨w2.heap.size, 0, none⟩)) (.pointer (some ⟨w1.heap.size, 0, none⟩)) hdbc).symm).trans (((Act.put_comm (x := oa.dst) (y := oc.dst) (a'.put ob.dst (.pointer (some ⟨w2.heap.size, 0, none⟩))) (.pointer (some ⟨w3.heap.size, 0, none⟩)) (.pointer (some ⟨w1.heap.size, 0, none⟩)) hdac).symm).trans (congrArg (fun z => Act.put z oc.dst (.pointer (some ⟨w1.heap.size, 0, none⟩))) (Act.put_comm (x := oa.dst) (y := ob.dst) a' (.pointer (some ⟨w3.heap.size, 0, none⟩)) (.pointer (some ⟨w2.heap.size, 0, none⟩)) hdab).symm)))
  have h2 := wpAny_of_U (3 + L.length) _ a w.drew hG
  rw [← Nat.add_assoc, ← hz] at h2
  exact h2

/-- What is asked behind the reads and calls of 'x, y, z := .., .., ..'. -/
def varEnd3 (P : Program) (Q : Exit → Act → World → Prop) (w : World) (t t2 t3 : Tmp) (ty : TypeId) (x x2 x3 : Operand) (n : Nat) (a' : Act) : Prop :=
  ∃ c1 c2 c3 : Array Value, (∀ v u r, (((a'.put (some t) v).put (some t2) u).put (some t3) r).eval (.tmp t) = v) ∧ (∀ v u r, (((a'.put (some t) v).put (some t2) u).put (some t3) r).eval (.tmp t2) = u) ∧
    (∀ v u r, (((a'.put (some t) v).put (some t2) u).put (some t3) r).eval (.tmp t3) = r) ∧
    (∀ v u r, (((a'.put (some t) v).put (some t2) u).put (some t3) r).eval x = .agg c1) ∧ (∀ v u r, (((a'.put (some t) v).put (some t2) u).put (some t3) r).eval x2 = .agg c2) ∧ (∀ v u r, (((a'.put (some t) v).put (some t2) u).put (some t3) r).eval x3 = .agg c3) ∧
    n = c1.size ∧ n = c2.size ∧ n = c3.size ∧ (P.info? ty).map (·.size) = some c1.size ∧ (P.info? ty).map (·.size) = some c2.size ∧ (P.info? ty).map (·.size) = some c3.size ∧
    (∀ v ∈ c1.toList, v.oneCell' = true) ∧ (∀ v ∈ c2.toList, v.oneCell' = true) ∧ (∀ v ∈ c3.toList, v.oneCell' = true) ∧
    ∀ g g2 g3 w', w.heap.size ≤ g → w.heap.size ≤ g2 → w.heap.size ≤ g3 → Up w w' → Blk w' g ty c1 → Blk w' g2 ty c2 → Blk w' g3 ty c3 →
      Q .normal (((a'.put (some t) (.pointer (some ⟨g, 0, none⟩))).put (some t2) (.pointer (some ⟨g2, 0, none⟩))).put (some t3) (.pointer (some ⟨g3, 0, none⟩))) w'
/-- **'x, y, z := .., .., ..'**, of one type, where the order is drawn. -/
theorem reg_var3 {id : Nat} {a : Act} {w : World} {l : List Oper} {oa ob oc os os2 os3 : Oper} (n : Nat) (t t2 t3 : Tmp) (ty : TypeId) (x x2 x3 : Operand) (zs : Array Value) (hl : l = l.take n ++ oa :: ob :: oc :: [os, os2, os3]) (hn : (l.take n).length = n)
    (hop : os.op = .store ty (.tmp t) x) (hop2 : os2.op = .store ty (.tmp t2) x2) (hop3 : os3.op = .store ty (.tmp t3) x3) (hsg : os.guard = none) (hsg2 : os2.guard = none) (hsg3 : os3.guard = none) (hsd : os.dst = none) (hsd2 : os2.dst = none) (hsd3 : os3.dst = none)
    (hag : oa.guard = none) (hbg : ob.guard = none) (hcg : oc.guard = none) (had : oa.dst = some t) (hbd : ob.dst = some t2) (hcd : oc.dst = some t3) (h12 : t ≠ t2) (h13 : t ≠ t3) (h23 : t2 ≠ t3) (hm : P.follows .mixedOrders = true)
    (hB : tailB l.toArray n 3 3 = true)
    (hr : Region.ready .any l.toArray (marks n 0 (Array.replicate l.toArray.size false)) = [n, n + 1, n + 2])
    (hra : Region.ready .any l.toArray ((marks n 0 (Array.replicate l.toArray.size false)).setIfInBounds n true) = [n + 1, n + 2])
    (hrb : Region.ready .any l.toArray ((marks n 0 (Array.replicate l.toArray.size false)).setIfInBounds (n + 1) true) = [n, n + 2])
    (hrc : Region.ready .any l.toArray ((marks n 0 (Array.replicate l.toArray.size false)).setIfInBounds (n + 2) true) = [n, n + 1])
    (hrab : Region.ready .any l.toArray (((marks n 0 (Array.replicate l.toArray.size false)).setIfInBounds n true).setIfInBounds (n + 1) true) = [n + 2])
    (hrac : Region.ready .any l.toArray (((marks n 0 (Array.replicate l.toArray.size false)).setIfInBounds n true).setIfInBounds (n + 2) true) = [n + 1])
    (hrbc : Region.ready .any l.toArray (((marks n 0 (Array.replicate l.toArray.size false)).setIfInBounds (n + 1) true).setIfInBounds (n + 2) true) = [n])
    (hQ : ∀ c a d v w, Q (.panic c) (a.put d v) w → Q (.panic c) a w)
    (hruna : ∀ (a : Act) w, (execOp a.eval oa).run P w = .ok (.value (.pointer (some ⟨w.heap.size, 0, none⟩))) (w.alloc (.cells zs ty)))
    (hrunb : ∀ (a : Act) w, (execOp a.eval ob).run P w = .ok (.value (.pointer (some ⟨w.heap.size, 0, none⟩))) (w.alloc (.cells zs ty)))
    (hrunc : ∀ (a : Act) w, (execOp a.eval oc).run P w = .ok (.value (.pointer (some ⟨w.heap.size, 0, none⟩))) (w.alloc (.cells zs ty)))
    (h : wpB P l.toArray (Up w) (varEnd3 P Q w t t2 t3 ty x x2 x3 zs.size) (l.take n) a) : (Code.region id l.toArray true).wp P Q a w := by
  have hne : ∀ {x y : Oper} {p q : Tmp}, x.dst = some p → y.dst = some q → p ≠ q → ∀ d, x.dst = some d → y.dst ≠ some d := fun h1 h2 h3 d h4 h5 => h3 (Option.some.inj (h1.symm.trans (h4.trans (h5.symm.trans h2))))
  refine region_new3 n (Up w) w.heap.size ty ty ty zs zs zs [os, os2, os3] hl hn hm hB hr hra hrb hrc hrab hrac hrbc (fun _ _ h k => h.step k) (fun _ h => h.size) (Up.drew w) hQ hag hruna hbg hrunb hcg hrunc (hne had hbd h12) (hne had hcd h13) (hne hbd hcd h23) ?_
  rw [had, hbd, hcd]
  refine wpB_mono (fun a' h' g g2 g3 w' hw' hg hg2 hg3 n12 n13 n23 hb hb2 hb3 => ?_) _ _ h
  obtain ⟨c1, c2, c3, e1, e2, e3, x1, x2, x3, z1, z2, z3, i1, i2, i3, o1, o2, o3, hk⟩ := h'
  refine wpList_store_row hsg ty (.tmp t) _ hop g (e1 _ _ _) c1 (x1 _ _ _) ty zs hb i1 z1 o1 ?_
  rw [hsd]
  refine wpList_store_row hsg2 ty (.tmp t2) _ hop2 g2 (e2 _ _ _) c2 (x2 _ _ _) ty zs (hb2.rowFar (Ne.symm n12) _) i2 z2 o2 ?_
  rw [hsd2]
  refine wpList_store_row hsg3 ty (.tmp t3) _ hop3 g3 (e3 _ _ _) c3 (x3 _ _ _) ty zs ((hb3.rowFar (Ne.symm n13) _).rowFar (Ne.symm n23) _) i3 z3 o3 ?_
  rw [hsd3]
  exact hk g g2 g3 _ hg hg2 hg3 (up_row (up_row (up_row hw' hg _) hg2 _) hg3 _) (((hb.row _).rowFar n12 _).rowFar n13 _) (((hb2.rowFar (Ne.symm n12) _).row _).rowFar n23 _) (((hb3.rowFar (Ne.symm n13) _).rowFar (Ne.symm n23) _).row _)
end
end Go.Proofs.Ythejahhhmkkhoaa
