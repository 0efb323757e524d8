/-
  SEVERAL TEXTS IN ONE: LawR.
-/
import Derived.Test.YtgmiaaapaiccdaaDoorMl
/-
  STEPS AT THE DOCUMENT'S OWN POINTS, over frames by what is known of them.
-/
namespace Go.Proofs.YtgmiaaapaiccdaaDoor
open Go.RowKit Go.IntWalk Nums

theorem own_rnew : Own 12 := fun _ _ => by go_simp
theorem own_rzero : Own 17 := fun _ _ => by go_simp
theorem own_rbase : Own 21 := fun _ _ => by go_simp
theorem own_rmul5 : Own 20 := fun _ _ => by go_simp
theorem own_radd5 : Own 24 := fun _ _ => by go_simp
theorem own_rneg : Own 27 := fun _ _ => by go_simp
theorem own_rbytes : Own 22 := fun _ _ => by go_simp
theorem own_rsmall : Own 16 := fun _ _ => by go_simp
theorem own_rdecode : Own 13 := fun _ _ => by go_simp
theorem own_cboth : Own 25 := fun _ _ => by go_simp
def nvC (t : Nat) : NV := ⟨t, 36, (Is n16).toArray⟩
def nvQ (t : Nat) : NV := ⟨t, 39, (pt n16 n16 n16 n16).toArray⟩
theorem Is_oneA (l : List Int) : ∀ v ∈ (Is l).toArray.toList, v.oneCell' = true := fun v hv => Is_one l v (by simpa using hv)
theorem size_C {l : List Int} (h : l.length = 16) : (Tryd.prog.info? 36).map (·.size) = some (Is l).toArray.size := size_curve _ (by rw [List.size_toArray, Is_len, h])
theorem size_C0 {l : List Int} (h : l.length = 16) : (Is n16).toArray.size = (Is l).toArray.size := by rw [List.size_toArray, List.size_toArray, Is_len, Is_len, h, n16_len]
theorem pr_len {X Y Z T : List Int} {A : Ed.Pt p} (h : PR X Y Z T A) : (pt X Y Z T).toArray.size = 64 := by
  obtain ⟨⟨x, y, z, hx, hy, hz, _⟩, _, ht⟩ := h
  exact pt_len hx.len hy.len hz.len ht
theorem pt0_len : (pt n16 n16 n16 n16).toArray.size = 64 := pt_len n16_len n16_len n16_len n16_len
section
variable {ops : Array Oper} {C0 : World → Prop} {Q : Act → Prop} {N : Nat} {E : List (Nat × Value)} {o : Oper} {rest : List Oper} {k : Nat}
theorem f_cu {x : Operand} {l : List Int} (b : Nat) (hl : l.length = 16) (hg : o.guard = none) (hd : o.dst = some k) (hk : Nat.blt k N = true) (ho : o.op = .load 36 x) (hx : ev E x = some (.pointer (some ⟨b, 0, none⟩)))
    (hc : ∀ w, C0 w → w.rangeAt b 0 (Is l)) (hn : bF Tryd.prog ops C0 Q rest N ((k, .agg (Is l).toArray) :: E)) : bF Tryd.prog ops C0 Q (o :: rest) N E :=
  f_row b 0 (Is l) _ hg hd hk ho hx hc Tryd.underlying36 rfl (by have := size_C hl; simpa using this) hn
theorem f_rp {x : Operand} {X Y Z T : List Int} (b : Nat) (hl : (pt X Y Z T).toArray.size = 64) (hg : o.guard = none) (hd : o.dst = some k) (hk : Nat.blt k N = true) (ho : o.op = .load 39 x) (hx : ev E x = some (.pointer (some ⟨b, 0, none⟩)))
    (hc : ∀ w, C0 w → w.rangeAt b 0 (pt X Y Z T)) (hn : bF Tryd.prog ops C0 Q rest N ((k, .agg (pt X Y Z T).toArray) :: E)) : bF Tryd.prog ops C0 Q (o :: rest) N E :=
  f_row b 0 (pt X Y Z T) _ hg hd hk ho hx hc Tryd.underlying39 rfl (by have := size_pt _ hl; simpa using this) hn
theorem f_cur {f : FuncId} {xs : Array Operand} {ats : Array TypeId} (args : Array Value) (hg : o.guard = none) (hd : o.dst = some k) (hk : Nat.blt k N = true)
    (hf : Own f) (hc : ∀ w, C0 w → Calls Tryd.prog f args w (fun e w' => ∃ r, NB 65573 r dd ∧ e = .returned (.agg (Is r).toArray) ∧ Below w.heap.size w w'))
    (ho : o.op = .call { callee := .value (.func f), args := xs, argTypes := ats }) (hx : xs.toList.map (ev E) = args.toList.map some) (hn : ∀ r, NB 65573 r dd → bF Tryd.prog ops C0 Q rest N ((k, .agg (Is r).toArray) :: E)) : bF Tryd.prog ops C0 Q (o :: rest) N E := by
  refine f_callV args (fun v => ∃ r, NB 65573 r dd ∧ v = .agg (Is r).toArray) hg hd hk hf (fun w hw => (hc w hw).mono ?_) ho hx ?_
  · rintro e w2 ⟨r, hr, rfl, hw2⟩
    exact ⟨_, rfl, ⟨r, hr, rfl⟩, hw2⟩
  · rintro _ ⟨r, hr, rfl⟩
    exact hn r hr
theorem f_rpt {f : FuncId} {xs : Array Operand} {ats : Array TypeId} (args : Array Value) (A : Ed.Pt p) (hg : o.guard = none) (hd : o.dst = some k) (hk : Nat.blt k N = true)
    (hf : Own f) (hc : ∀ w, C0 w → Calls Tryd.prog f args w (fun e w' => ∃ X Y Z T, PR X Y Z T A ∧ e = .returned (.agg (pt X Y Z T).toArray) ∧ Below w.heap.size w w'))
    (ho : o.op = .call { callee := .value (.func f), args := xs, argTypes := ats }) (hx : xs.toList.map (ev E) = args.toList.map some) (hn : ∀ X Y Z T, PR X Y Z T A → bF Tryd.prog ops C0 Q rest N ((k, .agg (pt X Y Z T).toArray) :: E)) : bF Tryd.prog ops C0 Q (o :: rest) N E := by
  refine f_callV args (fun v => ∃ X Y Z T, PR X Y Z T A ∧ v = .agg (pt X Y Z T).toArray) hg hd hk hf (fun w hw => (hc w hw).mono ?_) ho hx ?_
  · rintro e w2 ⟨X, Y, Z, T, hr, rfl, hw2⟩
    exact ⟨_, rfl, ⟨X, Y, Z, T, hr, rfl⟩, hw2⟩
  · rintro _ ⟨X, Y, Z, T, hr, rfl⟩
    exact hn X Y Z T hr
end
theorem rdec_pt {D : List Int} (hD : NB 65573 D dd) {A : Ed.Pt p} (hA : Ed.On dd A) (w : World) : Calls Tryd.prog 13 #[.agg (Is D).toArray, .agg (By (encP A)).toArray] w fun e w' =>
    ∃ v, e = .returned v ∧ (∃ X Y Z T, PR X Y Z T A ∧ v = .tuple #[.agg (pt X Y Z T).toArray, .bool true]) ∧ Below w.heap.size w w' :=
  (decode_f hD (encP_len A) w).mono fun e w' ⟨h, hw⟩ => by
    rcases h with ⟨X, Y, Z, T, B, hl, hB, he⟩ | ⟨h, _⟩
    · have : B = A := encP_inj hl.on hA hB
      subst this
      exact ⟨_, he, ⟨X, Y, Z, T, hl, rfl⟩, hw⟩
    · exact absurd ⟨A, hA, rfl⟩ h
theorem rdec_no {D : List Int} (hD : NB 65573 D dd) {b : List UInt8} (hb : b.length = 32) (hn : ¬ ∃ A, Ed.On dd A ∧ encP A = b) (w : World) : Calls Tryd.prog 13 #[.agg (Is D).toArray, .agg (By b).toArray] w fun e w' =>
    e = .returned (.tuple #[.agg (pt n16 n16 n16 n16).toArray, .bool false]) ∧ Below w.heap.size w w' :=
  (decode_f hD hb w).mono fun e w' ⟨h, hw⟩ => by
    rcases h with ⟨X, Y, Z, T, B, hl, hB, _⟩ | ⟨_, he⟩
    · exact absurd ⟨B, hl.on, hB⟩ hn
    · exact ⟨he, hw⟩
end Go.Proofs.YtgmiaaapaiccdaaDoor
