/-
  SEVERAL TEXTS IN ONE: CpM, Cp, ElHash, Steps, Num, Lent, Load, AddSub, Mul.
-/
import Derived.Test.YtiamoeifaahlfaaDoorMf
import Derived.Test.YtiamoeifaahlfaaDoorMg
import Derived.Test.YtiamoeifaahlfaaDoorMc
import Derived.Test.YtiamoeifaahlfaaDoorMa
import Derived.StillTailTactics
/-
  PLAIN NUMBERS: the program's formulas for sums and doublings of points; points that are small. No program is imported.
-/
namespace Nums
namespace Ed
section
variable {n : Nat} [NeZero n] {d : Fin n}

theorem Rep.t_eq (hn : Prime n) {x y z t : Fin n} {P : Pt n} (r : Rep x y z P) (ht : t * z = x * y) : t = P.x * P.y * z := by
 refine cancel hn r.z ?_;rw [ht, r.x, r.y]
 grind only

theorem plus_e (px py qx qy z1 z2 : Fin n) : (py * z1 + px * z1) * (qy * z2 + qx * z2) - (py * z1 - px * z1) * (qy * z2 - qx * z2) = (px * qy + py * qx) * (2 * (z1 * z2)) := by grind only
theorem plus_h (px py qx qy z1 z2 : Fin n) : (py * z1 + px * z1) * (qy * z2 + qx * z2) + (py * z1 - px * z1) * (qy * z2 - qx * z2) = (py * qy + px * qx) * (2 * (z1 * z2)) := by grind only
theorem plus_t (px py qx qy z1 z2 d : Fin n) : px * py * z1 * ((qx * qy * z2 + qx * qy * z2) * d) = d * px * qx * py * qy * (2 * (z1 * z2)) := by grind only
theorem plus_z (z1 z2 : Fin n) : z1 * (z2 + z2) = 2 * (z1 * z2) := by grind only
theorem fac_p (k u : Fin n) : u + k * u = (1 + k) * u := by grind only
theorem fac_m (k u : Fin n) : u - k * u = (1 - k) * u := by grind only
theorem Rep.efgh (g : Good n d) {P Q : Pt n} (hP : On d P) (hQ : On d Q) {e f gg h u : Fin n} (hu : u ≠ 0) (he : e = (P.x * Q.y + P.y * Q.x) * u) (hf : f = (1 - kk d P Q) * u) (hg : gg = (1 + kk d P Q) * u) (hh : h = (P.y * Q.y + P.x * Q.x) * u) :
  Rep (e * f) (gg * h) (f * gg) (Ed.add d P Q) := by
 have hx := add_x g hP hQ;have hy := add_y g hP hQ;have n1 := plus_ne g hP hQ;have n2 := minus_ne g hP hQ;subst he hf hg hh;refine ⟨mul_ne g.pr (mul_ne g.pr n2 hu) (mul_ne g.pr n1 hu), ?_, ?_⟩
 ·rw [← hx]
  grind only
 ·rw [← hy]
  grind only

theorem Rep.plus (g : Good n d) {P Q : Pt n} (hP : On d P) (hQ : On d Q) {x1 y1 z1 t1 x2 y2 z2 t2 : Fin n} (r : Rep x1 y1 z1 P) (h1 : t1 * z1 = x1 * y1) (s : Rep x2 y2 z2 Q) (h2 : t2 * z2 = x2 * y2) {un li z t e f gg h : Fin n}
  (hun : un = (y1 - x1) * (y2 - x2)) (hli : li = (y1 + x1) * (y2 + x2)) (hz : z = z1 * (z2 + z2)) (ht : t = t1 * ((t2 + t2) * d)) (he : e = li - un) (hf : f = z - t) (hg : gg = z + t) (hh : h = li + un) :
  Rep (e * f) (gg * h) (f * gg) (Ed.add d P Q) ∧ e * h * (f * gg) = e * f * (gg * h) := by
 have e1 := r.t_eq g.pr h1;have e2 := s.t_eq g.pr h2;have hu : (2 : Fin n) * (z1 * z2) ≠ 0 := mul_ne g.pr g.two (mul_ne g.pr r.z s.z);refine ⟨Rep.efgh g hP hQ hu ?_ ?_ ?_ ?_, by grind only⟩
 ·rw [he, hli, hun, r.x, r.y, s.x, s.y, plus_e]
 ·rw [hf, hz, ht, e1, e2, plus_t, plus_z, ← fac_m]
  rfl
 ·rw [hg, hz, ht, e1, e2, plus_t, plus_z, ← fac_p]
  rfl
 ·rw [hh, hli, hun, r.x, r.y, s.x, s.y, plus_h]

theorem dbl_e (px py z : Fin n) : px * z * (py * z) + px * z * (py * z) = (px * py + py * px) * (z * z) := by grind only
theorem dbl_g (px py z : Fin n) : py * z * (py * z) - px * z * (px * z) = (py * py - px * px) * (z * z) := by grind only
theorem dbl_h (px py z : Fin n) : py * z * (py * z) + px * z * (px * z) = (py * py + px * px) * (z * z) := by grind only
theorem dbl_f (k u : Fin n) : u + u - (1 + k) * u = (1 - k) * u := by grind only
theorem on_kk {P : Pt n} (hP : On d P) : P.y * P.y - P.x * P.x = 1 + kk d P P := by
 have h : P.y*P.y - P.x*P.x = 1 + d*P.x*P.x*P.y*P.y := hP;rw [h]
 rfl
theorem Rep.dbl (g : Good n d) {P : Pt n} (hP : On d P) {x y z : Fin n} (r : Rep x y z P) {xx yy zz xy e gg h f : Fin n} (hxx : xx = x * x) (hyy : yy = y * y) (hzz : zz = z * z) (hxy : xy = x * y)
  (he : e = xy + xy) (hg : gg = yy - xx) (hh : h = yy + xx) (hf : f = zz + zz - gg) : Rep (e * f) (gg * h) (f * gg) (Ed.add d P P) ∧ e * h * (f * gg) = e * f * (gg * h) := by
 have hu : z * z ≠ 0 := mul_ne g.pr r.z r.z
 have hgg : gg = (1 + kk d P P) * (z * z) := by rw [hg, hyy, hxx, r.x, r.y, dbl_g, on_kk hP]
 refine ⟨Rep.efgh g hP hP hu ?_ ?_ hgg ?_, by grind only⟩
 ·rw [he, hxy, r.x, r.y, dbl_e]
 ·rw [hf, hzz, hgg, dbl_f]
 ·rw [hh, hyy, hxx, r.x, r.y, dbl_h]

theorem Rep.one (hn : Prime n) (x y : Fin n) : Rep x y 1 ⟨x, y⟩ := ⟨fun h => ne_one hn h.symm, by show x = x * 1; grind only, by show y = y * 1; grind only⟩
theorem y_one (g : Good n d) {P : Pt n} (hP : On d P) (hy : P.y = 1) : P = zero := by
 have h : P.y*P.y - P.x*P.x = 1 + d*P.x*P.x*P.y*P.y := hP;rw [hy] at h
 have h2 : P.x * P.x * (d + 1) = 0 := by grind only
 have hd : d + 1 ≠ 0 := fun h0 => by
  obtain ⟨i, hi⟩ := g.i;refine g.d i ?_;rw [hi]
  grind only
 have hx : P.x = 0 := by
  by_cases hx : P.x = 0
  ·exact hx
  ·exact absurd h2 (mul_ne g.pr (mul_ne g.pr hx hx) hd)
 cases P
 simp only at hx hy;rw [hx, hy]
 rfl
theorem Rep.y_iff (g : Good n d) {P : Pt n} (hP : On d P) {x y z : Fin n} (r : Rep x y z P) : y = z ↔ P = Ed.zero := by
 constructor
 ·intro h
  refine y_one g hP (cancel g.pr r.z ?_);rw [← r.y, h]
  grind only
 ·rintro rfl
  rw [r.y]
  show 1 * z = z
  grind only
end
end Ed
end Nums
/-
  THE PROGRAM'S POINTS: what their cells are; '==' of them; the steps of a walk at numbers and points, over frames by what is known of them.
-/
namespace Go.Proofs.YtiamoeifaahlfaaDoor
open Go.RowKit Go.IntWalk Nums

def pc (X Y Z T : List Nat) : List Nat := X ++ (Y ++ (Z ++ T))
def zl : List Nat := [0, 0, 0, 0, 0]
def pz : List Nat := pc zl zl zl zl
theorem Us_app (a b : List Nat) : Us (a ++ b) = Us a ++ Us b := by simp [Us]
theorem Us_pc (X Y Z T : List Nat) : Us (pc X Y Z T) = Us X ++ (Us Y ++ (Us Z ++ Us T)) := by simp [pc, Us]
theorem pc_len {X Y Z T : List Nat} (hX : X.length = 5) (hY : Y.length = 5) (hZ : Z.length = 5) (hT : T.length = 5) : (pc X Y Z T).length = 20 := by simp [pc, hX, hY, hZ, hT]
theorem Us_oneA (l : List Nat) : ∀ v ∈ (Us l).toArray.toList, v.oneCell' = true := fun v hv => Us_one l v (by simpa using hv)
theorem us_size {l : List Nat} {n : Nat} (h : l.length = n) : (Us l).toArray.size = n := by rw [List.size_toArray, Us_len, h]

theorem size_cp {n : Nat} (h : n = 20) : (Tryd.prog.info? 64).map (·.size) = some n := by
 rw [h]
 kernel_rfl
theorem size_ad {n : Nat} (h : n = 20) : (Tryd.prog.info? 106).map (·.size) = some n := by
 rw [h]
 kernel_rfl
theorem size_e {l : List Nat} (h : l.length = 5) : (Tryd.prog.info? 62).map (·.size) = some (Us l).length := by
 rw [Us_len, h]
 kernel_rfl

theorem zl_len : zl.length = 5 := rfl
theorem pz_len : pz.length = 20 := rfl
def nvE (t : Nat) : NV := ⟨t, 62, z5⟩
def nvA (t : Nat) : NV := ⟨t, 106, (Us pz).toArray⟩

section
variable {w : World} {g t : Nat} {X Y Z T : List Nat}
theorem Blk.mid5 {w : World} {g t off : Nat} {A V Z : List Value} (h : Blk w g t (A ++ (V ++ Z)).toArray) (ho : off = A.length) : w.rangeAt g off V := fun j v hv => by
 rw [h.cell (off + j), ho];have hj := (List.getElem?_eq_some_iff.1 hv).1;simp only [List.getElem?_toArray];rw [List.getElem?_append_right (by omega), Nat.add_sub_cancel_left, List.getElem?_append_left hj];exact hv
theorem Blk.cx (h : Blk w g t (Us (pc X Y Z T)).toArray) : w.rangeAt g 0 (Us X) := by
 rw [Us_pc] at h;exact Blk.mid5 (A := []) h rfl
theorem Blk.cy (h : Blk w g t (Us (pc X Y Z T)).toArray) (hX : X.length = 5) : w.rangeAt g 5 (Us Y) := by
 rw [Us_pc] at h;exact Blk.mid5 (A := Us X) h (by rw [Us_len, hX])
theorem Blk.cz (h : Blk w g t (Us (pc X Y Z T)).toArray) (hX : X.length = 5) (hY : Y.length = 5) : w.rangeAt g 10 (Us Z) := by
 rw [Us_pc, ← List.append_assoc] at h;exact Blk.mid5 h (by simp [Us_len, hX, hY])
theorem Blk.ct (h : Blk w g t (Us (pc X Y Z T)).toArray) (hX : X.length = 5) (hY : Y.length = 5) (hZ : Z.length = 5) : w.rangeAt g 15 (Us T) := by
 rw [Us_pc, ← List.append_assoc, ← List.append_assoc] at h
 have h2 : Blk w g t (Us X ++ Us Y ++ Us Z ++ (Us T ++ [])).toArray := by rw [List.append_nil]; exact h
 exact Blk.mid5 h2 (by simp [Us_len, hX, hY, hZ])
end

/-! ### Fields -/
theorem cpf0 (b : Nat) (w : World) : (Instr.fieldAt 64 (.pointer (some ⟨b, 0, none⟩)) 0).run Tryd.prog w = .ok (.pointer (some ⟨b, 0, none⟩)) w := by go_simp
theorem cpf1 (b : Nat) (w : World) : (Instr.fieldAt 64 (.pointer (some ⟨b, 0, none⟩)) 1).run Tryd.prog w = .ok (.pointer (some ⟨b, 5, none⟩)) w := by go_simp
theorem cpf2 (b : Nat) (w : World) : (Instr.fieldAt 64 (.pointer (some ⟨b, 0, none⟩)) 2).run Tryd.prog w = .ok (.pointer (some ⟨b, 10, none⟩)) w := by go_simp
theorem cpf3 (b : Nat) (w : World) : (Instr.fieldAt 64 (.pointer (some ⟨b, 0, none⟩)) 3).run Tryd.prog w = .ok (.pointer (some ⟨b, 15, none⟩)) w := by go_simp
theorem caf0 (b : Nat) (w : World) : (Instr.fieldAt 106 (.pointer (some ⟨b, 0, none⟩)) 0).run Tryd.prog w = .ok (.pointer (some ⟨b, 0, none⟩)) w := by go_simp
theorem caf1 (b : Nat) (w : World) : (Instr.fieldAt 106 (.pointer (some ⟨b, 0, none⟩)) 1).run Tryd.prog w = .ok (.pointer (some ⟨b, 5, none⟩)) w := by go_simp
theorem caf2 (b : Nat) (w : World) : (Instr.fieldAt 106 (.pointer (some ⟨b, 0, none⟩)) 2).run Tryd.prog w = .ok (.pointer (some ⟨b, 10, none⟩)) w := by go_simp
theorem caf3 (b : Nat) (w : World) : (Instr.fieldAt 106 (.pointer (some ⟨b, 0, none⟩)) 3).run Tryd.prog w = .ok (.pointer (some ⟨b, 15, none⟩)) w := by go_simp

/-! ### Built -/
theorem builtP (parts : List (Nat × Value)) : Tryd.prog.built 64 parts = Instr.fill (#[(0, 5), (5, 5), (10, 5), (15, 5)][·]?) (Us zl ++ (Us zl ++ (Us zl ++ Us zl))).toArray parts :=
 built_of (t := 64) (z := (Us pz).toArray) (pl := [(0, 5), (5, 5), (10, 5), (15, 5)]) (by kernel_rfl)
theorem builtA (parts : List (Nat × Value)) : Tryd.prog.built 106 parts = Instr.fill (#[(0, 5), (5, 5), (10, 5), (15, 5)][·]?) (Us zl ++ (Us zl ++ (Us zl ++ Us zl))).toArray parts :=
 built_of (t := 106) (z := (Us pz).toArray) (pl := [(0, 5), (5, 5), (10, 5), (15, 5)]) (by kernel_rfl)
theorem fill0 {X : List Nat} (hX : X.length = 5) (rest : List (Nat × Value)) : Instr.fill (#[(0, 5), (5, 5), (10, 5), (15, 5)][·]?) (Us zl ++ (Us zl ++ (Us zl ++ Us zl))).toArray ((0, .agg (Us X).toArray) :: rest) = Instr.fill (#[(0, 5), (5, 5), (10, 5), (15, 5)][·]?) (Us X ++ (Us zl ++ (Us zl ++ Us zl))).toArray rest := by
 have h := fill_put (#[(0, 5), (5, 5), (10, 5), (15, 5)][·]?) 0 5 [] (Us zl) (Us zl ++ (Us zl ++ Us zl)) (Us X) rest rfl (by rw [Us_len, hX]) rfl;rw [List.nil_append, List.nil_append] at h;exact h
section
variable {X Y Z T : List Nat} (hX : X.length = 5) (hY : Y.length = 5) (hZ : Z.length = 5) (hT : T.length = 5)
include hX hY hZ
theorem fill3 : Instr.fill (#[(0, 5), (5, 5), (10, 5), (15, 5)][·]?) (Us zl ++ (Us zl ++ (Us zl ++ Us zl))).toArray [(0, .agg (Us X).toArray), (1, .agg (Us Y).toArray), (2, .agg (Us Z).toArray)] = some (Us X ++ (Us Y ++ (Us Z ++ Us zl))).toArray := by
 rw [fill0 hX, fill_put _ 1 5 (Us X) (Us zl) (Us zl ++ Us zl) (Us Y) _ (by rw [Us_len, hX]; rfl) (by rw [Us_len, hY]) rfl]
 have e : Us X ++ (Us Y ++ (Us zl ++ Us zl)) = (Us X ++ Us Y) ++ (Us zl ++ Us zl) := by rw [List.append_assoc]
 rw [e, fill_put _ 2 5 (Us X ++ Us Y) (Us zl) (Us zl) (Us Z) _ (by simp [Us_len, hX, hY]) (by rw [Us_len, hZ]) rfl, List.append_assoc]
 rfl
include hT
theorem fill4 : Instr.fill (#[(0, 5), (5, 5), (10, 5), (15, 5)][·]?) (Us zl ++ (Us zl ++ (Us zl ++ Us zl))).toArray [(0, .agg (Us X).toArray), (1, .agg (Us Y).toArray), (2, .agg (Us Z).toArray), (3, .agg (Us T).toArray)] = some (Us (pc X Y Z T)).toArray := by
 rw [fill0 hX, fill_put _ 1 5 (Us X) (Us zl) (Us zl ++ Us zl) (Us Y) _ (by rw [Us_len, hX]; rfl) (by rw [Us_len, hY]) rfl]
 have e : Us X ++ (Us Y ++ (Us zl ++ Us zl)) = (Us X ++ Us Y) ++ (Us zl ++ Us zl) := by rw [List.append_assoc]
 rw [e, fill_put _ 2 5 (Us X ++ Us Y) (Us zl) (Us zl) (Us Z) _ (by simp [Us_len, hX, hY]) (by rw [Us_len, hZ]) rfl]
 have e2 : Us X ++ Us Y ++ (Us Z ++ Us zl) = (Us X ++ (Us Y ++ Us Z)) ++ (Us zl ++ []) := by simp
 rw [e2, fill_put _ 3 5 (Us X ++ (Us Y ++ Us Z)) (Us zl) [] (Us T) _ (by simp [Us_len, hX, hY, hZ]) (by rw [Us_len, hT]) rfl, Us_pc]
 simp [Instr.fill]
theorem builtP4 : Tryd.prog.built 64 [(0, .agg (Us X).toArray), (1, .agg (Us Y).toArray), (2, .agg (Us Z).toArray), (3, .agg (Us T).toArray)] = some (Us (pc X Y Z T)).toArray := by rw [builtP, fill4 hX hY hZ hT]
theorem builtA4 : Tryd.prog.built 106 [(0, .agg (Us X).toArray), (1, .agg (Us Y).toArray), (2, .agg (Us Z).toArray), (3, .agg (Us T).toArray)] = some (Us (pc X Y Z T)).toArray := by rw [builtA, fill4 hX hY hZ hT]
omit hT
theorem builtP3 : Tryd.prog.built 64 [(0, .agg (Us X).toArray), (1, .agg (Us Y).toArray), (2, .agg (Us Z).toArray)] = some (Us (pc X Y Z zl)).toArray := by rw [builtP, fill3 hX hY hZ, Us_pc]
end
theorem builtP0 : Tryd.prog.built 64 [] = some (Us pz).toArray := by rw [builtP]; rfl

/-! ### '==' -/
theorem part_pt (w : World) (A V Z : List Nat) (off : Nat) (ho : A.length = off) (hV : V.length = 5) : (part 62 (Us A ++ (Us V ++ Us Z)).toArray off).run Tryd.prog w = .ok (.agg (Us V).toArray) w := by
 have hagg : (isAgg 62).run Tryd.prog w = .ok true w := by
  unfold isAgg
  rw [Sem.run_bind, run_underlying Tryd.underlying62 w]
  rfl
 have hs : (sizeOf 62).run Tryd.prog w = .ok 5 w := by kernel_rfl
 have he : (Us A ++ (Us V ++ Us Z)).toArray.extract off (off + 5) = (Us V).toArray := by
  apply Array.ext'
  simp only [List.extract_toArray, List.extract_eq_take_drop];rw [List.drop_append, List.drop_eq_nil_of_le (by rw [Us_len]; omega), Us_len, ho, Nat.sub_self, List.drop_zero, List.nil_append, Nat.add_sub_cancel_left, List.take_append, Us_len, hV, Nat.sub_self, List.take_zero, List.append_nil, List.take_of_length_le (by rw [Us_len, hV]; exact Nat.le_refl _)]
 unfold part
 simp only [Sem.run_bind, hagg, Result.andThen_ok, if_true, hs, Sem.run_pure, he]
theorem equal_elD (d : Nat) (l m : List Nat) (hl : l.length = 5) (hm : m.length = 5) (w : World) :
  (Op.equalIn (d + 3) 62 (.agg (Us l).toArray) (.agg (Us m).toArray)).run Tryd.prog w = .ok (decide (l = m)) w := by
 have he := equalIn_words d 5 60 l m Tryd.underlying60 hl hm w
 have hst : Tryd.prog.stoodInHeld 62 = false := by kernel_rfl
 rw [Op.equalIn];simp only [Sem.run_bind, run_underlying Tryd.underlying62, Result.andThen_ok, run_program, hst];rw [if_neg (by decide)];have hp := partEl w l hl;have hq := partEl w m hm;generalize decide (l = m) = q at *
 cases q <;> simp [Sem.run_bind, hp, hq, he, Sem.run_pure]
set_option maxRecDepth 20000 in
theorem equal_pt (X Y Z T X' Y' Z' T' : List Nat) (hX : X.length = 5) (hY : Y.length = 5) (hZ : Z.length = 5) (hT : T.length = 5) (hX' : X'.length = 5) (hY' : Y'.length = 5) (hZ' : Z'.length = 5) (hT' : T'.length = 5) (w : World) :
  (Op.equalIn 10000 64 (.agg (Us (pc X Y Z T)).toArray) (.agg (Us (pc X' Y' Z' T')).toArray)).run Tryd.prog w = .ok (decide (X = X' ∧ Y = Y' ∧ Z = Z' ∧ T = T')) w := by
 have e1 := equal_elD 9996 X X' hX hX' w;have e2 := equal_elD 9996 Y Y' hY hY' w;have e3 := equal_elD 9996 Z Z' hZ hZ' w;have e4 := equal_elD 9996 T T' hT hT' w
 have p1 : ∀ X Y Z T : List Nat, X.length = 5 → (part 62 (Us (pc X Y Z T)).toArray 0).run Tryd.prog w = .ok (.agg (Us X).toArray) w := fun X Y Z T h => by
  have := part_pt w [] X (Y ++ (Z ++ T)) 0 rfl h
  simpa [pc, Us] using this
 have p2 : ∀ X Y Z T : List Nat, X.length = 5 → Y.length = 5 → (part 62 (Us (pc X Y Z T)).toArray 5).run Tryd.prog w = .ok (.agg (Us Y).toArray) w := fun X Y Z T h h2 => by
  have := part_pt w X Y (Z ++ T) 5 h h2
  simpa [pc, Us] using this
 have p3 : ∀ X Y Z T : List Nat, X.length = 5 → Y.length = 5 → Z.length = 5 → (part 62 (Us (pc X Y Z T)).toArray 10).run Tryd.prog w = .ok (.agg (Us Z).toArray) w := fun X Y Z T h h2 h3 => by
  have := part_pt w (X ++ Y) Z T 10 (by simp [h, h2]) h3
  simpa [pc, Us] using this
 have p4 : ∀ X Y Z T : List Nat, X.length = 5 → Y.length = 5 → Z.length = 5 → T.length = 5 → (part 62 (Us (pc X Y Z T)).toArray 15).run Tryd.prog w = .ok (.agg (Us T).toArray) w := fun X Y Z T h h2 h3 h4 => by
  have := part_pt w (X ++ (Y ++ Z)) T [] 15 (by simp [h, h2, h3]) h4
  simpa [pc, Us] using this
 have hst : Tryd.prog.stoodInHeld 64 = false := by kernel_rfl
 have a1 := p1 X Y Z T hX;have a2 := p2 X Y Z T hX hY;have a3 := p3 X Y Z T hX hY hZ;have a4 := p4 X Y Z T hX hY hZ hT;have b1 := p1 X' Y' Z' T' hX';have b2 := p2 X' Y' Z' T' hX' hY';have b3 := p3 X' Y' Z' T' hX' hY' hZ';have b4 := p4 X' Y' Z' T' hX' hY' hZ' hT';generalize (Us (pc X Y Z T)).toArray = u at *;generalize (Us (pc X' Y' Z' T')).toArray = v at *;clear p1 p2 p3 p4;rw [Op.equalIn];simp only [Sem.run_bind, run_underlying Tryd.underlying64, Result.andThen_ok, run_program, hst];rw [if_neg (by decide)]
 by_cases h1 : X = X' <;> by_cases h2 : Y = Y' <;> by_cases h3 : Z = Z' <;> by_cases h4 : T = T' <;>
  simp only [h1, h2, h3, h4, decide_true, decide_false, and_true, and_false] at e1 e2 e3 e4 ⊢ <;>
  simp [Sem.run_bind, a1, a2, a3, a4, b1, b2, b3, b4, e1, e2, e3, e4, h1, h2, h3, h4, Sem.run_pure]

/-! ### What the cells mean -/
structure QB (l : List Nat) (A : Ed.Pt p) : Prop where
  ex : ∃ X Y Z T x y z t, l = pc X Y Z T ∧ EB X x ∧ EB Y y ∧ EB Z z ∧ EB T t ∧ Ed.Rep x y z A ∧ t * z = x * y
  on : Ed.On dd A
def PB (l : List Nat) (A : Ed.Pt p) : Prop := (l = pz ∧ A = Ed.zero) ∨ QB l A
structure AB (l : List Nat) (A : Ed.Pt p) : Prop where
  ex : ∃ X Y Z T x y z t, l = pc X Y Z T ∧ EB X (y + x) ∧ EB Y (y - x) ∧ EB Z (z + z) ∧ EB T ((t + t) * dd) ∧ Ed.Rep x y z A ∧ t * z = x * y
  on : Ed.On dd A
theorem QB.len {l : List Nat} {A : Ed.Pt p} (h : QB l A) : l.length = 20 := by
 obtain ⟨⟨X, Y, Z, T, x, y, z, t, rfl, hX, hY, hZ, hT, _⟩, _⟩ := h;exact pc_len hX.len hY.len hZ.len hT.len
theorem AB.len {l : List Nat} {A : Ed.Pt p} (h : AB l A) : l.length = 20 := by
 obtain ⟨⟨X, Y, Z, T, x, y, z, t, rfl, hX, hY, hZ, hT, _⟩, _⟩ := h;exact pc_len hX.len hY.len hZ.len hT.len
theorem PB.len {l : List Nat} {A : Ed.Pt p} (h : PB l A) : l.length = 20 := by
 rcases h with ⟨rfl, _⟩ | h
 ·rfl
 ·exact h.len
theorem PB.on {l : List Nat} {A : Ed.Pt p} (h : PB l A) : Ed.On dd A := by
 rcases h with ⟨_, rfl⟩ | h
 ·exact Ed.on_zero
 ·exact h.on
theorem ne_zl {l : List Nat} {z : F} (h : EB l z) (hz : z ≠ 0) : l ≠ zl := by
 rintro rfl
 exact hz (h.val.symm.trans fof_zero)
theorem QB.ne {X Y Z T : List Nat} {z : F} (hZ : EB Z z) (hz : z ≠ 0) : ¬ (X = zl ∧ Y = zl ∧ Z = zl ∧ T = zl) := fun h => ne_zl hZ hz h.2.2.1

/-! ### Steps -/
theorem own_at : Own 66 := fun _ _ => by go_simp
theorem own_pwhole : Own 71 := fun _ _ => by go_simp
theorem own_factor : Own 63 := fun _ _ => by go_simp
theorem own_addend : Own 100 := fun _ _ => by go_simp
theorem own_plus : Own 98 := fun _ _ => by go_simp
theorem own_doubled : Own 67 := fun _ _ => by go_simp
theorem own_elnew : Own 58 := fun _ _ => by go_simp
section
variable {ops : Array Oper} {C0 : World → Prop} {Q : Act → Prop} {N : Nat} {E : List (Nat × Value)} {o : Oper} {rest : List Oper} {k : Nat}
theorem f_el {x : Operand} {l : List Nat} (b off : Nat) (hl : l.length = 5) (hg : o.guard = none) (hd : o.dst = some k) (hk : Nat.blt k N = true) (ho : o.op = .load 62 x) (hx : ev E x = some (.pointer (some ⟨b, off, none⟩)))
  (hc : ∀ w, C0 w → w.rangeAt b off (Us l)) (hn : bF Tryd.prog ops C0 Q rest N ((k, .agg (Us l).toArray) :: E)) : bF Tryd.prog ops C0 Q (o :: rest) N E :=
 f_row b off (Us l) _ hg hd hk ho hx hc Tryd.underlying62 rfl (size_e hl) hn
theorem f_pt {x : Operand} {l : List Nat} (b off : Nat) (hl : l.length = 20) (hg : o.guard = none) (hd : o.dst = some k) (hk : Nat.blt k N = true) (ho : o.op = .load 64 x) (hx : ev E x = some (.pointer (some ⟨b, off, none⟩)))
  (hc : ∀ w, C0 w → w.rangeAt b off (Us l)) (hn : bF Tryd.prog ops C0 Q rest N ((k, .agg (Us l).toArray) :: E)) : bF Tryd.prog ops C0 Q (o :: rest) N E :=
 f_row b off (Us l) _ hg hd hk ho hx hc Tryd.underlying64 rfl (size_cp (by rw [Us_len, hl])) hn
theorem f_ad {x : Operand} {l : List Nat} (b off : Nat) (hl : l.length = 20) (hg : o.guard = none) (hd : o.dst = some k) (hk : Nat.blt k N = true) (ho : o.op = .load 106 x) (hx : ev E x = some (.pointer (some ⟨b, off, none⟩)))
  (hc : ∀ w, C0 w → w.rangeAt b off (Us l)) (hn : bF Tryd.prog ops C0 Q rest N ((k, .agg (Us l).toArray) :: E)) : bF Tryd.prog ops C0 Q (o :: rest) N E :=
 f_row b off (Us l) _ hg hd hk ho hx hc Tryd.underlying106 rfl (size_ad (by rw [Us_len, hl])) hn
theorem f_us {f : FuncId} {xs : Array Operand} {ats : Array TypeId} (args : Array Value) (V : List Nat → Prop) (hg : o.guard = none) (hd : o.dst = some k) (hk : Nat.blt k N = true)
  (hf : Own f) (hc : ∀ w, C0 w → Calls Tryd.prog f args w (fun e w' => ∃ r, V r ∧ e = .returned (.agg (Us r).toArray) ∧ Below w.heap.size w w'))
  (ho : o.op = .call { callee := .value (.func f), args := xs, argTypes := ats }) (hx : xs.toList.map (ev E) = args.toList.map some) (hn : ∀ r, V r → bF Tryd.prog ops C0 Q rest N ((k, .agg (Us r).toArray) :: E)) : bF Tryd.prog ops C0 Q (o :: rest) N E := by
 refine f_callV args (fun v => ∃ r, V r ∧ v = .agg (Us r).toArray) hg hd hk hf (fun w hw => (hc w hw).mono ?_) ho hx ?_
 ·rintro e w2 ⟨r, hr, rfl, hw2⟩
  exact ⟨_, rfl, ⟨r, hr, rfl⟩, hw2⟩
 ·rintro _ ⟨r, hr, rfl⟩
  exact hn r hr
end

section
variable {ops : Array Oper} {C0 : World → Prop} {Q : Act → Prop} {N : Nat} {E : List (Nat × Value)} {o : Oper} {rest : List Oper} {k : Nat}
theorem f_tup {f : FuncId} {xs : Array Operand} {ats : Array TypeId} (args : Array Value) (x : F) (hg : o.guard = none) (hd : o.dst = some k) (hk : Nat.blt k N = true)
  (hf : Own f) (hc : ∀ w, C0 w → Calls Tryd.prog f args w (fun e w' => ∃ r, EB r x ∧ e = .returned (.tuple #[.agg (Us r).toArray, .bool true]) ∧ Below w.heap.size w w'))
  (ho : o.op = .call { callee := .value (.func f), args := xs, argTypes := ats }) (hx : xs.toList.map (ev E) = args.toList.map some) (hn : ∀ r, EB r x → bF Tryd.prog ops C0 Q rest N ((k, .tuple #[.agg (Us r).toArray, .bool true]) :: E)) : bF Tryd.prog ops C0 Q (o :: rest) N E := by
 refine f_callV args (fun v => ∃ r, EB r x ∧ v = .tuple #[.agg (Us r).toArray, .bool true]) hg hd hk hf (fun w hw => (hc w hw).mono ?_) ho hx ?_
 ·rintro e w2 ⟨r, hr, rfl, hw2⟩
  exact ⟨_, rfl, ⟨r, hr, rfl⟩, hw2⟩
 ·rintro _ ⟨r, hr, rfl⟩
  exact hn r hr
end
theorem eq_pz (w : World) : (Op.equalIn 10000 64 (.agg (Us pz).toArray) (.agg (Us pz).toArray)).run Tryd.prog w = .ok true w := by
 have := equal_pt zl zl zl zl zl zl zl zl rfl rfl rfl rfl rfl rfl rfl rfl w;rw [decide_eq_true ⟨rfl, rfl, rfl, rfl⟩] at this;exact this
theorem ne_pz {l : List Nat} {A : Ed.Pt p} (h : QB l A) (w : World) : (Op.equalIn 10000 64 (.agg (Us l).toArray) (.agg (Us pz).toArray)).run Tryd.prog w = .ok false w := by
 obtain ⟨⟨X, Y, Z, T, x, y, z, t, rfl, hX, hY, hZ, hT, hr, _⟩, _⟩ := h;have := equal_pt X Y Z T zl zl zl zl hX.len hY.len hZ.len hT.len rfl rfl rfl rfl w;rw [decide_eq_false (QB.ne hZ hr.z)] at this;exact this
theorem size_P {l : List Nat} (h : l.length = 20) : (Tryd.prog.info? 64).map (·.size) = some (Us l).toArray.size := size_cp (us_size h)
theorem size_A {l : List Nat} (h : l.length = 20) : (Tryd.prog.info? 106).map (·.size) = some (Us l).toArray.size := size_ad (us_size h)
theorem size_E {l : List Nat} (h : l.length = 5) : (Tryd.prog.info? 62).map (·.size) = some (Us l).toArray.size := by
 rw [us_size h]
 kernel_rfl

theorem Tw.only {w w' : World} {g : Nat} (h : Tw w) (ho : OnlyG w w' g) (hg : 1 < g) : Tw w' := ⟨fun i hi => by rw [ho.cell _ (by show (1 : Nat) ≠ g; omega)]; exact h.cell i hi, by rw [ho.size]; exact h.lt⟩
/-! ### Begin and end of a call -/
def argE : Nat → List Value → List (Nat × Value)
  | _, [] => []
  | j, v :: vs => (j, v) :: argE (j + 1) vs
theorem argE_look : ∀ (vs : List Value) (j k : Nat) (v : Value), look (argE j vs) k = some v → j ≤ k ∧ vs[k - j]? = some v
 | [], _, _, _, h => by cases h
 | u :: vs, j, k, v, h => by
  rw [argE, look_cons] at h
  split at h
  ·rename_i e
   subst e
   cases h
   exact ⟨Nat.le_refl _, by simp⟩
  ·obtain ⟨h1, h2⟩ := argE_look vs (j + 1) k v h
   refine ⟨by omega, ?_⟩;obtain ⟨m, rfl⟩ : ∃ m, k = j + 1 + m := ⟨k - (j + 1), by omega⟩;rw [show j + 1 + m - (j + 1) = m from by omega] at h2;rw [show j + 1 + m - j = m + 1 from by omega]
   simpa using h2
theorem calls_F {P : Program} {f : FuncId} {fn : Func} {c : Code} {vs : List Value} {w : World} {R : Ending → World → Prop} (N : Nat) (hf : P.funcs[f]? = some fn) (hb : fn.body = some c) (hn : vs.length + (fn.ntmps - vs.length) = N)
  (h : cF P c (bodyPost P fn R) N (argE 0 vs) w) : Calls P f vs.toArray w R := by
 refine calls_of_wp hf hb (h _ (Fr.start (by simpa using hn) _ fun k v hk => ?_));have := (argE_look vs 0 k v hk).2
 simpa using this
theorem Fr.at {N : Nat} {E : List (Nat × Value)} {a : Act} (h : Fr N E a) {k : Nat} {v : Value} (hk : look E k = some v) : a.tmps.getD k undef = v := h.get k v hk
theorem k_ret_row {P : Program} {fn : Func} {R : Ending → World → Prop} {N : Nat} {E : List (Nat × Value)} {w : World} {q : Tmp} {ty t : TypeId} {d : TypeDesc} (g : Nat) (cs : Array Value) (hr : fn.results = #[.cell q ty]) (hq : look E q = some (.pointer (some ⟨g, 0, none⟩))) (hb : Blk w g t cs)
  (hu : P.underlying ty = some d) (hd : (match d with | .struct _ | .array _ _ => true | _ => false) = true) (hi : (P.info? ty).map (·.size) = some cs.size) (h : R (.returned (.agg cs)) w) : kF (bodyPost P fn R .ret) N E w := fun _ ha => bodyPost_ret (results_cell_row hr _ _ g t cs (0, 0) d (ha.at hq) hb hu hd hi) ha.defers h
end Go.Proofs.YtiamoeifaahlfaaDoor
/-
  THE FIELD'S NUMBERS: Hash: the bytes of the number below p.
-/
namespace Go.Proofs.YtiamoeifaahlfaaDoor
open Go.RowKit Go.IntWalk Nums

theorem wd_limbs {l : List Nat} (hl : l.length = 5) (hb : ∀ y ∈ l, y < 2251799813685248) {k : Nat} (hk : k < 4) :
  bits .or .u64 ((l[64 * k / 51]! : Nat) / 2 ^ (64 * k % 51) : Int) (IntKind.u64.wrap ((l[64 * k / 51 + 1]! : Nat) * 2 ^ (51 - 64 * k % 51) : Int)) = ((wd (lv l) k : Nat) : Int) := by
 obtain ⟨a0, a1, a2, a3, a4, rfl⟩ := five hl;have h0 := hb a0 (by simp);have h1 := hb a1 (by simp);have h2 := hb a2 (by simp);have h3 := hb a3 (by simp);have h4 := hb a4 (by simp)
 unfold wd
 rw [lv5]
 have h4' : k = 0 ∨ k = 1 ∨ k = 2 ∨ k = 3 := by omega
 have key : ∀ (i x y r t L : Nat), y * 2 ^ t % 18446744073709551616 % 2 ^ i = 0 → x / 2 ^ r < 2 ^ i → x / 2 ^ r < 18446744073709551616 → y * 2 ^ t % 18446744073709551616 + x / 2 ^ r = L →
   bits .or .u64 ((x : Nat) / 2 ^ r : Int) (IntKind.u64.wrap ((y : Nat) * 2 ^ t : Int)) = (L : Int) := by
  intro i x y r t L e1 e2 e3 e4
  have f1 : ((x : Int) / 2 ^ r) = ((x / 2 ^ r : Nat) : Int) := by simp
  have f2 : IntKind.u64.wrap ((y : Int) * 2 ^ t) = ((y * 2 ^ t % 18446744073709551616 : Nat) : Int) := by
   rw [IntKind.wrap_u64]
   simp
  rw [f1, f2, ← e4, u64_or_nat _ _ e3 (by omega), Nat.or_comm, nat_join i _ _ e1 e2]
 rcases h4' with rfl | rfl | rfl | rfl
 ·exact key 51 a0 a1 0 51 _ (by omega) (by omega) (by omega) (by simp only [Nat.reducePow]; omega)
 ·exact key 38 a1 a2 13 38 _ (by omega) (by omega) (by omega) (by simp only [Nat.reducePow]; omega)
 ·exact key 25 a2 a3 26 25 _ (by omega) (by omega) (by omega) (by simp only [Nat.reducePow]; omega)
 ·exact key 12 a3 a4 39 12 _ (by omega) (by omega) (by omega) (by simp only [Nat.reducePow]; omega)

structure HSt (w wr : World) (g : Nat) (l : List Nat) (b : List UInt8) (n : Nat) : Prop where
  b1 : Blk wr (w.heap.size + 1) 22 z32
  b2 : Blk wr g 62 (Us l).toArray
  b3 : Blk wr (g + 1) 22 (By (fb b n)).toArray
  be : Below w.heap.size w wr
  hg : w.heap.size + 1 < g
theorem HSt.drew {w wr : World} {g : Nat} {l : List Nat} {b : List UInt8} {n : Nat} (h : HSt w wr g l b n) : HSt w wr.drew g l b n := ⟨h.b1, h.b2, h.b3, h.be.drew, h.hg⟩
theorem HSt.set {w wr : World} {g : Nat} {l : List Nat} {b : List UInt8} {n : Nat} (h : HSt w wr g l b n) : HSt w (wr.setCell ⟨g + 1, n, none⟩ (.int .u8 ((b[n]!).toNat : Int))) g l b (n + 1) where
 b1 := h.b1.far (by have := h.hg; simp; omega) _
 b2 := h.b2.far (by simp) _
 b3 := by
  have h4 := h.b3.set n (.int .u8 ((b[n]!).toNat : Int));rw [By_set, fb_set] at h4;exact h4
 be := h.be.setCell (by have := h.hg; simp; omega) _
 hg := h.hg

set_option maxRecDepth 100000 in
set_option maxHeartbeats 2000000 in
theorem hash_f {a : List Nat} {x : F} (ha : EB a x) (w : World) :
  Calls Tryd.prog 68 #[.agg (Us a).toArray] w fun e w' => e = .returned (.agg (By (enc x)).toArray) ∧ Below w.heap.size w w' := by
 obtain ⟨hl, hb, hL⟩ := whole_all ha
 have hbyte : ∀ m, m < 32 → ((enc x)[m]!).toNat = lv (whole a) / 256 ^ m % 256 := fun m hm => by
  rw [hL];exact bytes_get 32 x.val hm
 have hbl : (enc x).length = 32 := enc_len x;have h0 : ∀ u, Blk ((w.alloc (Obj.cells (Us a).toArray 62)).alloc u) w.heap.size 62 (Us a).toArray := fun u => (Blk.new w _ _).alloc u;have h1 : Blk ((w.alloc (Obj.cells (Us a).toArray 62)).alloc (Obj.cells z32 22)) (w.heap.size + 1) 22 z32 := heap_alloc2_new w _ _;have hbel : Below w.heap.size w ((w.alloc (Obj.cells (Us a).toArray 62)).alloc (Obj.cells z32 22)) := ((Below.refl _ _).alloc (Nat.le_refl _) _).alloc (by simp) _;have HWH := fun w1 => Lib.hid (whole_f ha w1);have HK := Lib.hid (And.intro h1 hbel);have hza := len_us ha.len;clear hL h1 hbel;generalize enc x = b at *;generalize whole a = l at *
 go_enter Tryd.func68, Tryd.ntmps68
 go_wp2_with (refine wpList_load_row rfl 62 _ rfl w.heap.size rfl 62 (Us a).toArray (0, 0) _ (h0 _) Tryd.underlying62 rfl (size_el _ hza) ?_)
 refine (HWH _).out.mono ?_
 rintro e w1 ⟨rfl, hw1⟩
 obtain ⟨h1, hbel⟩ := HK.out;have hbe := hbel.trans (hw1.mono hbel.size);have h2 := h1.below hw1 h1.lt;have h2s := h2.lt;have hn : Blk (w1.alloc (Obj.cells z5 62)) w1.heap.size 62 z5 := Blk.new w1 _ _;have hzl := len_us hl
 have h3 : HSt w (((w1.alloc (Obj.cells z5 62)).setRow w1.heap.size (Us l).toArray).alloc (Obj.cells z32 22)) w1.heap.size l b 0 := by
  have hb3 := Blk.new ((w1.alloc (Obj.cells z5 62)).setRow w1.heap.size (Us l).toArray) 22 z32;rw [size_setRow, World.size_alloc] at hb3;refine ⟨((h2.alloc _).rowFar (by omega) _).alloc _, (hn.row _).alloc _, ?_, ?_, h2s⟩
  ·rw [fb_zero]
   exact hb3
  ·have hq := below_setRow (cs := (Us l).toArray) (hbe.alloc (o := Obj.cells z5 62) hbe.size) (g := w1.heap.size) (by omega)
   exact hq.alloc hq.size _
 have H3 := Lib.hid h3;clear h3 h2 h2s hbe hw1 h1 hbel HK HWH h0;generalize hg : w1.heap.size = g at *
 go_wp2_with (refine wpList_store_row rfl 62 _ _ rfl g rfl (Us l).toArray rfl 62 _ hn (size_el _ hzl) (by rw [hzl]; rfl) (Us_one _) ?_)
 clear hg hn
 go_loopw [11] (fun i wr => ∃ k : Nat, k ≤ 4 ∧ i = .int .i64 k ∧ HSt w wr g l b (8 * k)) (fun i _ => 4 - (intOf i).toNat)
 case atStart => exact ⟨0, by omega, rfl, H3.out⟩
 case round =>
  clear H3;obtain ⟨k, hk, rfl, hS⟩ := hrel
  by_cases hlt : k < 4
  ·have hwd := wd_limbs hl hb hlt
   have hW : wd (lv l) k < 18446744073709551616 := Nat.mod_lt _ (by decide)
   have hby : ∀ j, j < 8 → (b[8 * k + j]!).toNat = wd (lv l) k / 2 ^ (8 * j) % 256 := fun j hj => by
    rw [wd_byte _ _ _ hj, hbyte _ (by omega)]
   have c0 := (hS.b2.drew.cell (64 * k / 51)).trans (Us_at (by omega));have c1 := (hS.b2.drew.cell (64 * k / 51 + 1)).trans (Us_at (by omega))
   have qA : IntKind.i64.wrap (64 * (k : Int)) = ((64 * k : Nat) : Int) := by rw [i64_left, wrap64_in _ (by omega)]; omega
   have qd : ((64 * k : Nat) : Int).tdiv 51 = ((64 * k / 51 : Nat) : Int) := rfl;have qm : ((64 * k : Nat) : Int).tmod 51 = ((64 * k % 51 : Nat) : Int) := rfl
   have qs : IntKind.i64.wrap (((64 * k / 51 : Nat) : Int) + 1) = ((64 * k / 51 + 1 : Nat) : Int) := by rw [i64_left, wrap64_in _ (by omega)]; omega
   have qt : IntKind.i64.wrap (51 - ((64 * k % 51 : Nat) : Int)) = ((51 - 64 * k % 51 : Nat) : Int) := by rw [i64_left, wrap64_in _ (by omega)]; omega
   have g1 : ((64 * k / 51 + 1 : Nat) : Int) < 5 := by omega
   have g2 : ((64 * k / 51 : Nat) : Int) < 5 := by omega
   have g3 : ((64 * k % 51 : Nat) : Int) ≤ 64 := by omega
   have g4 : ((51 - 64 * k % 51 : Nat) : Int) ≤ 64 := by omega
   have g5 : (0 : Int) ≤ (k : Int) := by omega
   generalize wd (lv l) k = W at *;generalize l[64 * k / 51]! = u at *;generalize l[64 * k / 51 + 1]! = v at *;generalize 51 - 64 * k % 51 = t at *;generalize 64 * k % 51 = r at *;generalize 64 * k / 51 + 1 = q1 at *;generalize 64 * k / 51 = q at *;generalize 64 * k = A at *;have HS := Lib.hid hS;clear hS
   go_wp2
   go_region
   clear qA qd qm qs qt g1 g2 g3 g4 c0 c1 hwd
   go_wp2
   go_loopw [35] (fun i wq => ∃ j : Nat, j ≤ 8 ∧ i = .int .i64 j ∧ HSt w wq g l b (8 * k + j)) (fun i _ => 8 - (intOf i).toNat)
   case atStart => exact ⟨0, by omega, rfl, HS.out.drew⟩
   case round =>
    clear HS;obtain ⟨j, hj, rfl, hS⟩ := hrel
    by_cases hlj : j < 8
    ·have hbj := hby j hlj
     have q4 : IntKind.u8.wrap ((W : Int) / 2 ^ (8 * j)) = ((b[8 * k + j]!).toNat : Int) := by
      have f1 : ((W : Int) / 2 ^ (8 * j)) = ((W / 2 ^ (8 * j) : Nat) : Int) := by simp
      rw [f1, IntKind.wrap_u8', hbj]
      omega
     have hN := hS.set;have hc := (hS.b3.cell (8 * k + j)).trans (By_get (by rw [fb_len]; omega));have hf := hS.b3.free (8 * k + j)
     have q1 : IntKind.i64.wrap (8 * (k : Int)) = ((8 * k : Nat) : Int) := by rw [i64_left, wrap64_in _ (by omega)]; omega
     have q2 : IntKind.i64.wrap (((8 * k : Nat) : Int) + (j : Int)) = ((8 * k + j : Nat) : Int) := by rw [i64_left, wrap64_in _ (by omega)]; omega
     have q3 : IntKind.i64.wrap (8 * (j : Int)) = ((8 * j : Nat) : Int) := by rw [i64_left, wrap64_in _ (by omega)]; omega
     have g1 : ((8 * k + j : Nat) : Int) < 32 := by omega
     have g2 : ((8 * j : Nat) : Int) ≤ 64 := by omega
     have e1 : 8 * k + (j + 1) = 8 * k + j + 1 := by omega
     have HN := Lib.hid hN;clear hS hby hbj hN;generalize (b[8 * k + j]!).toNat = y at *;generalize 8 * k + j = m at *;generalize 8 * k = a8 at *;generalize 8 * j = n at *
     go_wp2
     go_roundw
     case rel =>
      exact ⟨j + 1, by omega, by go_num, by rw [e1]; exact HN.out⟩
     case measure => simp [intOf]; omega
    ·obtain rfl : j = 8 := by omega
     have HS := Lib.hid hS;clear hS
     go_wp2
     go_roundw
     case rel => exact ⟨k + 1, by omega, by go_num, by rw [show 8 * (k + 1) = 8 * k + 8 by omega]; exact HS.out⟩
     case measure => simp [intOf]; omega
  ·obtain rfl : k = 4 := by omega
   obtain ⟨b1, b2, b3, be, hg⟩ := hS;rw [show 8 * 4 = 32 from rfl, fb_all hbl] at b3
   have hz : (By b).toArray.size = 32 := by rw [List.size_toArray, By_len, hbl]
   clear b2
   go_wp2_with (first
    | (refine wpList_load_row rfl 22 _ rfl (g + 1) rfl 22 (By b).toArray (0, 0) _ b3 Tryd.underlying22 rfl (size_hash _ hz) ?_)
    | (refine wpList_store_row rfl 22 _ _ rfl (w.heap.size + 1) rfl (By b).toArray rfl 22 _ b1 (size_hash _ hz) (by rw [hz]; rfl) (By_one _) ?_))
   refine bodyPost_ret (results_cell_row rfl _ _ (w.heap.size + 1) 22 (By b).toArray (0, 0) _ rfl (b1.row _) Tryd.underlying22 rfl (size_hash _ hz)) rfl ⟨rfl, ?_⟩;exact below_setRow be (by omega) _
end Go.Proofs.YtiamoeifaahlfaaDoor
/-
  PLAIN NUMBERS: the carries step by step. No program is imported.
-/
namespace Nums

theorem chain_snoc : ∀ (c : Int) (l : List Int) (d : Int), chain c (l ++ [d]) = ((chain c l).1 ++ [(d + (chain c l).2) % 65536], (d + (chain c l).2) / 65536)
 | c, [], d => rfl
 | c, x :: l, d => by
  have ih := chain_snoc ((x + c) / 65536) l d
  show (((x + c) % 65536) :: (chain ((x + c) / 65536) (l ++ [d])).1, (chain ((x + c) / 65536) (l ++ [d])).2) = _
  rw [ih]
  rfl

def bump (c : Int) : List Int → List Int
  | [] => []
  | d :: ds => (d + c) :: ds

def pst (l : List Int) (k : Nat) : List Int := (chain 0 (l.take k)).1 ++ bump (chain 0 (l.take k)).2 (l.drop k)

theorem pst_zero (l : List Int) : pst l 0 = l := by
 unfold pst
 cases l with
 | nil => rfl
 | cons d ds =>
  show (d + 0) :: ds = d :: ds
  rw [Int.add_zero]

theorem bump_len (c : Int) (l : List Int) : (bump c l).length = l.length := by cases l <;> rfl

theorem pst_len (l : List Int) (k : Nat) : (pst l k).length = l.length := by
 unfold pst
 rw [List.length_append, chain_len, bump_len, ← List.length_append, List.take_append_drop]

theorem get_mid (a : List Int) (x : Int) (b : List Int) {k : Nat} (h : a.length = k) : (a ++ x :: b)[k]! = x := by
 subst h;rw [getElem!_pos _ a.length (by simp), List.getElem_append_right (Nat.le_refl _)]
 simp
theorem set_mid (a : List Int) (x v : Int) (b : List Int) {k : Nat} (h : a.length = k) : (a ++ x :: b).set k v = a ++ v :: b := by
 subst h;rw [List.set_append_right _ _ (Nat.le_refl _), Nat.sub_self]
 rfl

theorem take_one {l : List Int} {k : Nat} (h : k < l.length) : l.take (k + 1) = l.take k ++ [l[k]!] := by
 rw [List.take_succ_eq_append_getElem h, getElem!_pos l k h]

theorem pst_split {l : List Int} {k : Nat} (h : k < l.length) : pst l k = (chain 0 (l.take k)).1 ++ (l[k]! + (chain 0 (l.take k)).2) :: l.drop (k + 1) := by
 unfold pst
 rw [List.drop_eq_getElem_cons h, getElem!_pos l k h]
 rfl

theorem pst_next {l : List Int} {k : Nat} (h : k + 1 < l.length) :
  pst l (k + 1) = ((pst l k).set k ((pst l k)[k]! % 65536)).set (k + 1) ((pst l k)[k+1]! + (pst l k)[k]! / 65536) := by
 have hl : (chain 0 (l.take k)).1.length = k := by rw [chain_len, List.length_take]; omega
 have e1 := pst_split (l := l) (k := k) (by omega)
 have e2 : l.drop (k + 1) = l[k+1]! :: l.drop (k + 2) := by rw [List.drop_eq_getElem_cons h, getElem!_pos l (k+1) h]
 have e3 := pst_split (l := l) (k := k + 1) h;rw [take_one (by omega), chain_snoc] at e3;rw [e2] at e1
 have g1 : (pst l k)[k]! = l[k]! + (chain 0 (l.take k)).2 := by rw [e1]; exact get_mid _ _ _ hl
 have g2 : (pst l k)[k+1]! = l[k+1]! := by
  rw [e1, show ∀ (a : List Int) x y b, a ++ x :: y :: b = (a ++ [x]) ++ y :: b from fun a x y b => by simp];exact get_mid _ _ _ (by simp [hl])
 rw [g1, g2, e3, e1, set_mid _ _ _ _ hl];rw [show ∀ (a : List Int) x y b, a ++ x :: y :: b = (a ++ [x]) ++ y :: b from fun a x y b => by simp, set_mid _ _ _ _ (by simp [hl])]

theorem pst_last {l : List Int} (h : l.length = 16) :
  carry l = ((pst l 15).set 15 ((pst l 15)[15]! % 65536)).set 0 ((pst l 15)[0]! + 38 * ((pst l 15)[15]! / 65536)) := by
 have hl : (chain 0 (l.take 15)).1.length = 15 := by rw [chain_len, List.length_take]; omega
 have e1 := pst_split (l := l) (k := 15) (by omega);rw [List.drop_eq_nil_of_le (by omega)] at e1
 have e0 : chain 0 l = ((chain 0 (l.take 15)).1 ++ [(l[15]! + (chain 0 (l.take 15)).2) % 65536], (l[15]! + (chain 0 (l.take 15)).2) / 65536) := by
  conv => lhs; rw [take15 h]
  rw [chain_snoc]
 have g1 : (pst l 15)[15]! = l[15]! + (chain 0 (l.take 15)).2 := by rw [e1]; exact get_mid _ _ _ hl
 unfold carry
 rw [g1, e0, e1, set_mid _ _ _ _ hl];generalize (chain 0 (l.take 15)).1 = a at *;generalize (chain 0 (l.take 15)).2 = c at *
 match a, hl with
 | d :: ds, _ => rfl

theorem pst_bnd {l : List Int} {k : Nat} (h : k < l.length) (hb : Bnd 2305843009213693952 l) : Bnd 4611686018427387904 (pst l k) := by
 have hV := V_bnd (l := l.take k) (B := 2305843009213693952) (fun x hx => hb x (List.mem_of_mem_take hx));have hc := (chain_out 0 (l.take k)).1;have hW := W_pos (l.take k).length;have hc2 := div_bound (v := V (l.take k) + 0) (b := 2305843009213693952) hW (by omega) (by omega);rw [← hc] at hc2;rw [pst_split h]
 intro x hx
 rcases List.mem_append.mp hx with hx | hx
 ·have := chain_small _ _ x hx
  omega
 ·rcases List.mem_cons.mp hx with rfl | hx
  ·have := hb l[k]! (by rw [getElem!_pos l k h]; exact List.getElem_mem _)
   omega
  ·have := hb x (List.mem_of_mem_drop hx)
   omega

end Nums
/-
  THE DOCUMENT'S OWN NUMBERS: carry.
-/
namespace Go.Proofs.YtiamoeifaahlfaaDoor
open Go.RowKit Nums

theorem bnd_get {B : Int} {l : List Int} (h : Bnd B l) {k : Nat} (hk : k < l.length) : -B ≤ l[k]! ∧ l[k]! ≤ B := h _ (by rw [getElem!_pos l k hk]; exact List.getElem_mem _)

theorem size_num (cs : Array Value) (h : cs.size = 16) : (Tryd.prog.info? 27).map (·.size) = some cs.size := by
 rw [h]
 kernel_rfl

theorem tdiv_nn {z : Int} (h : ¬ z < 0) : z.tdiv 65536 = z / 65536 := Int.tdiv_eq_ediv_of_nonneg (by omega)
theorem tdiv_neg {z : Int} (h : z < 0) : z.tdiv 65536 = -((-z) / 65536) := by
 have : z.tdiv 65536 = -((-z).tdiv 65536) := by rw [Int.neg_tdiv, Int.neg_neg]
 rw [this, Int.tdiv_eq_ediv_of_nonneg (by omega)]
theorem tmod_neg {z : Int} (h : z < 0) : z.tmod 65536 = -((-z) % 65536) := by
 have : z.tmod 65536 = -((-z).tmod 65536) := by rw [Int.neg_tmod, Int.neg_neg]
 rw [this, Int.tmod_eq_emod_of_nonneg (by omega)]

theorem car_a {x : Int} (h : ¬ x + 65536 < 0) : (x + 65536).tdiv 65536 = x / 65536 + 1 := by rw [tdiv_nn h]; omega
theorem car_b {x : Int} (h : x + 65536 < 0) (h2 : ((x + 65536).tmod 65536 != 0) = false) : (x + 65536).tdiv 65536 = x / 65536 + 1 := by
 rw [tmod_neg h] at h2;simp only [bne_eq_false_iff_eq] at h2;rw [tdiv_neg h]
 omega
theorem car_c {x : Int} (h : x + 65536 < 0) (h2 : ((x + 65536).tmod 65536 != 0) = true) : (x + 65536).tdiv 65536 = x / 65536 + 2 := by
 rw [tmod_neg h] at h2;simp only [bne_iff_ne, ne_eq] at h2;rw [tdiv_neg h]
 omega

def cst (l : List Int) (k : Nat) : List Int := if k = 16 then carry l else pst l k
theorem cst_lt (l : List Int) {k : Nat} (h : k < 16) : cst l k = pst l k := by unfold cst; rw [if_neg (by omega)]
theorem cst_16 (l : List Int) : cst l 16 = carry l := by unfold cst; rw [if_pos rfl]

theorem thrice {wr : World} {g t : Nat} {s : List Int} (hb : Blk wr g t (Is s).toArray) (k j : Nat) (a : Int) {b c b' c' : Int} (e1 : b = b') (e2 : c = c') :
  Blk (((wr.setCell ⟨g, k, none⟩ (.int .i64 a)).setCell ⟨g, k, none⟩ (.int .i64 b)).setCell ⟨g, j, none⟩ (.int .i64 c)) g t (Is ((s.set k b').set j c')).toArray := by
 subst e1 e2;have h := ((hb.set k (.int .i64 a)).set k (.int .i64 b)).set j (.int .i64 c);rw [Is_set, Is_set, Is_set, List.set_set] at h;exact h
theorem thrice_below {w wr : World} {g : Nat} (h : Below w.heap.size w wr) (hg : w.heap.size ≤ g) (k j : Nat) (a b c : Value) :
  Below w.heap.size w (((wr.setCell ⟨g, k, none⟩ a).setCell ⟨g, k, none⟩ b).setCell ⟨g, j, none⟩ c) := ((h.setCell hg _).setCell hg _).setCell hg _

set_option maxHeartbeats 1000000 in
theorem carry_any (l : List Int) (w : World) (hl : l.length = 16) (hbd : Bnd 2305843009213693952 l) :
  Calls Tryd.prog 76 #[.agg (Is l).toArray] w fun e w' => e = .returned (.agg (Is (carry l)).toArray) ∧ Below w.heap.size w w' := by
 go_enter Tryd.func76, Tryd.ntmps76
 go_wp2
 go_loopw [3] (fun i wr => ∃ k : Nat, k ≤ 16 ∧ i = .int .i64 k ∧ Blk wr w.heap.size 27 (Is (cst l k)).toArray ∧ Blk wr (w.heap.size + 1) 27 (Is (List.replicate 16 0)).toArray ∧ Below w.heap.size w wr) (fun i _ => 16 - (intOf i).toNat)
 case atStart =>
  refine ⟨0, by omega, rfl, ?_, heap_alloc2_new w _ _, ((Below.refl _ _).alloc (Nat.le_refl _) _).alloc (by simp) _⟩;rw [cst_lt l (by omega), pst_zero];exact heap_alloc2_old w _ _
 case round =>
  obtain ⟨k, hk, rfl, hb, hb1, hbel⟩ := hrel
  by_cases hlt : k < 16
  ·rw [cst_lt l hlt] at hb
   have hs : (pst l k).length = 16 := by rw [pst_len, hl]
   have hbk := pst_bnd (k := k) (by omega) hbd;have hx := bnd_get hbk (k := k) (by omega);have hc := (hb.cell k).trans (Is_at (by omega));have hf := hb.free k
   by_cases hk15 : k < 15
   ·have hN := pst_next (l := l) (k := k) (by omega)
    have hy := bnd_get hbk (k := k + 1) (by omega);have hc1 := (hb.cell (k + 1)).trans (Is_at (by omega));have hf1 := hb.free (k + 1);generalize pst l k = s at *;generalize s[k]! = x at *;generalize s[k+1]! = y at *
    go_wp2
    all_goals
     go_roundw
     case rel =>
      refine ⟨k + 1, by omega, by go_num, ?_, (((hb1.far (by simp) _).far (by simp) _).far (by simp) _), thrice_below hbel (Nat.le_refl _) _ _ _ _ _⟩;rw [cst_lt l (by omega), hN]
      first
       | rw [car_c (by assumption) (by assumption)]
       | rw [car_b (by assumption) (by assumption)]
       | rw [car_a (by omega)]
      exact thrice hb k (k + 1) _ (by unfold wrap64; omega) (by unfold wrap64; omega)
     case measure => simp [intOf]; omega
   ·obtain rfl : k = 15 := by omega
    have hN := pst_last hl;have hy := bnd_get hbk (k := 0) (by omega);have hc1 := (hb.cell 0).trans (Is_at (by omega));have hf1 := hb.free 0;generalize pst l 15 = s at *;generalize s[15]! = x at *;generalize s[0]! = y at *
    go_wp2
    all_goals
     go_roundw
     case rel =>
      refine ⟨16, by omega, by go_num, ?_, (((hb1.far (by simp) _).far (by simp) _).far (by simp) _), thrice_below hbel (Nat.le_refl _) _ _ _ _ _⟩;rw [cst_16, hN]
      first
       | rw [car_c (by assumption) (by assumption)]
       | rw [car_b (by assumption) (by assumption)]
       | rw [car_a (by omega)]
      exact thrice hb 15 0 _ (by unfold wrap64; omega) (by unfold wrap64; omega)
     case measure => simp [intOf]
  ·obtain rfl : k = 16 := by omega
   rw [cst_16] at hb
   go_wp2_with (first
    | (refine wpList_load_row rfl 27 _ rfl w.heap.size rfl 27 (Is (carry l)).toArray (0, 0) _ hb Tryd.underlying27 rfl (size_num _ (by simp [Is_len, (carry_all hl).1.len])) ?_)
    | (refine wpList_store_row rfl 27 _ _ rfl (w.heap.size + 1) rfl (Is (carry l)).toArray rfl 27 _ hb1 (size_num _ (by simp [Is_len, (carry_all hl).1.len])) (by simp [Is_len, (carry_all hl).1.len]) (Is_one _) ?_))
   refine bodyPost_ret (results_cell_row rfl _ _ (w.heap.size + 1) 27 (Is (carry l)).toArray (0, 0) _ rfl (hb1.row _) Tryd.underlying27 rfl (size_num _ (by simp [Is_len, (carry_all hl).1.len]))) rfl ⟨rfl, ?_⟩;exact below_setRow hbel (by omega) _
end Go.Proofs.YtiamoeifaahlfaaDoor
/-
PLAIN NUMBERS: rows that are filled from the first digit on; the digits that Load, Add, Sub and Of make. No program is imported.
PLAIN NUMBERS: the product digit by digit. No program is imported.
PLAIN NUMBERS: what is lent, step by step; bytes two by two. No program is imported.
-/
namespace Nums

def fil (l : List Int) (n k : Nat) : List Int := l.take k ++ List.replicate (n - k) 0
theorem fil_zero (l : List Int) (n : Nat) : fil l n 0 = List.replicate n 0 := by simp [fil]
theorem fil_all {l : List Int} {n : Nat} (h : l.length = n) : fil l n n = l := by simp [fil, ← h]
theorem fil_len {l : List Int} {n k : Nat} (h : l.length = n) (hk : k ≤ n) : (fil l n k).length = n := by simp [fil]; omega
theorem fil_next {l : List Int} {n k : Nat} (h : l.length = n) (hk : k < n) {x : Int} (hx : x = l[k]!) : (fil l n k).set k x = fil l n (k + 1) := by
 unfold fil
 rw [take_one (by omega), show n - k = (n - (k + 1)) + 1 by omega, List.replicate_succ, set_mid _ _ _ _ (by rw [List.length_take]; omega), hx]
 simp

theorem join_get : ∀ (k : Nat) (b : List UInt8), 2 * k + 1 < b.length → (join b)[k]! = ((b[2 * k]!).toNat : Int) + 256 * ((b[2 * k + 1]!).toNat : Int)
 | _, [], h => absurd h (by simp)
 | _, [_], h => absurd h (by simp)
 | 0, x :: y :: b, _ => rfl
 | k + 1, x :: y :: b, h => by
  have ih := join_get k b (by simp at h; omega);exact ih

def low (b : List UInt8) : List Int := (join b).set 15 ((join b)[15]! % 32768)
theorem W15' : W 15 * 32768 = 57896044618658097711785492504343953926634992332820282019728792003956564819968 := by decide
theorem low_all {b : List UInt8} (h : b.length = 32) :
  (low b).length = 16 ∧ Small (low b) ∧ V (low b) = ((le b % 57896044618658097711785492504343953926634992332820282019728792003956564819968 : Nat) : Int) := by
 obtain ⟨h1, h2⟩ := V_join 16 b (by omega);have hs := join_small b;refine ⟨by simp [low, h1], ?_, ?_⟩
 ·intro x hx
  rcases List.mem_or_eq_of_mem_set hx with hx | rfl
  ·exact hs x hx
  ·omega
 ·have ht := take15 h1
  have hl : ((join b).take 15).length = 15 := by simp [h1]
  have e : V (join b) = V ((join b).take 15) + W 15 * ((join b)[15]! + 65536 * 0) := by
   conv => lhs; rw [ht]
   rw [V_append, hl]
   rfl
  have hv := V_small (l := (join b).take 15) (fun x hx => hs x (List.mem_of_mem_take hx))
  have hd : 0 ≤ (join b)[15]! := by
   have := hs (join b)[15]! (by rw [getElem!_pos _ 15 (by omega)]; exact List.getElem_mem _)
   omega
  rw [hl] at hv
  unfold low
  rw [V_set _ _ _ (by omega)];have hW := W15';have hp := W_pos 15;generalize (join b)[15]! = d at *;generalize V ((join b).take 15) = v at *;have hm := Int.emod_add_mul_ediv d 32768
  have hq : V (join b) + (d % 32768 - d) * W 15 = v + W 15 * (d % 32768) := by rw [e]; grind only
  rw [hq, Int.natCast_emod, ← h2, e]
  have hr : v + W 15 * (d + 65536 * 0) = v + W 15 * (d % 32768) + (W 15 * 32768) * (d / 32768) := by
   have : d = d % 32768 + 32768 * (d / 32768) := hm.symm
   grind only
  rw [hr, hW, show ((57896044618658097711785492504343953926634992332820282019728792003956564819968 : Nat) : Int) = (57896044618658097711785492504343953926634992332820282019728792003956564819968 : Int) from rfl, Int.add_mul_emod_self_left]
  symm
  apply Int.emod_eq_of_lt
  ·have : 0 ≤ W 15 * (d % 32768) := Int.mul_nonneg (by omega) (by omega)
   omega
  ·have h6 : W 15 * (d % 32768) ≤ W 15 * 32767 := Int.mul_le_mul_of_nonneg_left (by omega) (by omega)
   omega

def adds (a b : List Int) : List Int := List.zipWith (fun x y => x + y) a b
def subs (a b : List Int) : List Int := List.zipWith (fun x y => x - y) a b
theorem adds_len {a b : List Int} {n : Nat} (ha : a.length = n) (hb : b.length = n) : (adds a b).length = n := by simp [adds, ha, hb]
theorem subs_len {a b : List Int} {n : Nat} (ha : a.length = n) (hb : b.length = n) : (subs a b).length = n := by simp [subs, ha, hb]
theorem V_adds {a b : List Int} (h : a.length = b.length) : V (adds a b) = V a + V b := by
 rw [adds, V_zip _ 1 (fun x y => by omega) a b h]
 omega
theorem V_subs {a b : List Int} (h : a.length = b.length) : V (subs a b) = V a - V b := by
 rw [subs, V_zip _ (-1) (fun x y => by omega) a b h]
 omega
theorem adds_get {a b : List Int} {k : Nat} (ha : k < a.length) (hb : k < b.length) : (adds a b)[k]! = a[k]! + b[k]! := by
 rw [getElem!_pos _ k (by simp [adds]; omega), getElem!_pos a k ha, getElem!_pos b k hb]
 simp [adds]
theorem subs_get {a b : List Int} {k : Nat} (ha : k < a.length) (hb : k < b.length) : (subs a b)[k]! = a[k]! - b[k]! := by
 rw [getElem!_pos _ k (by simp [subs]; omega), getElem!_pos a k ha, getElem!_pos b k hb]
 simp [subs]
theorem zip_bnd {f : Int → Int → Int} {B C : Int} (hf : ∀ x y, -B ≤ x → x ≤ B → -C ≤ y → y ≤ C → -(B + C) ≤ f x y ∧ f x y ≤ B + C) :
  ∀ {a b : List Int}, Bnd B a → Bnd C b → Bnd (B + C) (List.zipWith f a b)
 | [], _, _, _ => fun x hx => absurd hx (by simp)
 | _ :: _, [], _, _ => fun x hx => absurd hx (by simp)
 | x :: a, y :: b, ha, hb => by
  intro z hz
  rcases List.mem_cons.mp (show z ∈ f x y :: List.zipWith f a b from hz) with rfl | hz
  ·have h1 := ha x (List.mem_cons_self ..)
   have h2 := hb y (List.mem_cons_self ..);exact hf x y h1.1 h1.2 h2.1 h2.2
  ·exact zip_bnd hf (fun u hu => ha u (List.mem_cons_of_mem _ hu)) (fun u hu => hb u (List.mem_cons_of_mem _ hu)) z hz
theorem adds_bnd {B C : Int} {a b : List Int} (ha : Bnd B a) (hb : Bnd C b) : Bnd (B + C) (adds a b) := zip_bnd (fun x y _ _ _ _ => by omega) ha hb
theorem subs_bnd {B C : Int} {a b : List Int} (ha : Bnd B a) (hb : Bnd C b) : Bnd (B + C) (subs a b) := zip_bnd (fun x y _ _ _ _ => by omega) ha hb

def ofd (v : Nat) : List Int := [((v % 65536 : Nat) : Int), ((v / 65536 % 65536 : Nat) : Int), ((v / 65536 / 65536 % 65536 : Nat) : Int), ((v / 65536 / 65536 / 65536 % 65536 : Nat) : Int), 0, 0, 0, 0, 0, 0, 0, 0, 0, 0, 0, 0]
theorem V_ofd {v : Nat} (h : v < 18446744073709551616) : V (ofd v) = (v : Int) := by
 show (((v % 65536 : Nat) : Int) + 65536 * (((v / 65536 % 65536 : Nat) : Int) + 65536 * (((v / 65536 / 65536 % 65536 : Nat) : Int) + 65536 * (((v / 65536 / 65536 / 65536 % 65536 : Nat) : Int) + 65536 * 0)))) = v
 omega
theorem ofd_small (v : Nat) : Small (ofd v) := by
 intro x hx
 simp only [ofd, List.mem_cons, List.not_mem_nil, or_false] at hx
 omega

end Nums

namespace Nums

structure Conv (a b t : List Int) (i j : Nat) : Prop where
  len : t.length = 31
  val : V t = V (a.take i) * V b + a[i]! * W i * V (b.take j)
  bnd : Bnd ((16 * i + j : Nat) * 1099511627776) t

theorem Conv.zero (a b : List Int) : Conv a b (List.replicate 31 0) 0 0 where
 len := by simp
 val := by
  have : V (List.replicate 31 0) = 0 := by decide
  rw [this]
  simp [V]
 bnd := fun x hx => by
  have := (List.mem_replicate.mp hx).2;subst this
  simp

theorem V_take_next {l : List Int} {k : Nat} (h : k < l.length) : V (l.take (k + 1)) = V (l.take k) + W k * l[k]! := by
 rw [take_one h, V_append, List.length_take, Nat.min_eq_left (by omega)]
 show V (l.take k) + W k * (l[k]! + 65536 * 0) = _
 rw [Int.mul_zero, Int.add_zero]

theorem mul_bound {x y : Int} (h1 : -1048576 ≤ x) (h2 : x ≤ 1048576) (h3 : -1048576 ≤ y) (h4 : y ≤ 1048576) : -1099511627776 ≤ x * y ∧ x * y ≤ 1099511627776 := by
 have a := Int.mul_nonneg (show 0 ≤ 1048576 - x by omega) (show 0 ≤ 1048576 - y by omega);have b := Int.mul_nonneg (show 0 ≤ 1048576 + x by omega) (show 0 ≤ 1048576 + y by omega);have c := Int.mul_nonneg (show 0 ≤ 1048576 - x by omega) (show 0 ≤ 1048576 + y by omega);have d := Int.mul_nonneg (show 0 ≤ 1048576 + x by omega) (show 0 ≤ 1048576 - y by omega)
 have ea : (1048576 - x) * (1048576 - y) = 1099511627776 - 1048576 * x - 1048576 * y + x * y := by grind only
 have eb : (1048576 + x) * (1048576 + y) = 1099511627776 + 1048576 * x + 1048576 * y + x * y := by grind only
 have ec : (1048576 - x) * (1048576 + y) = 1099511627776 - 1048576 * x + 1048576 * y - x * y := by grind only
 have ed : (1048576 + x) * (1048576 - y) = 1099511627776 + 1048576 * x - 1048576 * y - x * y := by grind only
 omega

theorem Conv.next {a b t : List Int} {i j : Nat} (h : Conv a b t i j) (hi : i < 16) (hj : j < 16) (ha : a.length = 16) (hb : b.length = 16)
  (hba : Bnd 1048576 a) (hbb : Bnd 1048576 b) : Conv a b (t.set (i + j) (t[i + j]! + a[i]! * b[j]!)) i (j + 1) where
 len := by rw [List.length_set, h.len]
 val := by
  rw [V_set _ _ _ (by rw [h.len]; omega), h.val, V_take_next (l := b) (by omega), W_add]
  grind only
 bnd := by
  intro x hx
  have h0 := h.bnd
  rcases List.mem_or_eq_of_mem_set hx with hx | rfl
  ·have := h0 x hx
   omega
  ·have h1 := h0 t[i + j]! (by rw [getElem!_pos _ _ (by rw [h.len]; omega)]; exact List.getElem_mem _)
   have h2 := hba a[i]! (by rw [getElem!_pos _ _ (by omega)]; exact List.getElem_mem _);have h3 := hbb b[j]! (by rw [getElem!_pos _ _ (by omega)]; exact List.getElem_mem _);have h4 := mul_bound h2.1 h2.2 h3.1 h3.2
   omega

theorem Conv.roll {a b t : List Int} {i : Nat} (h : Conv a b t i 16) (hi : i < 16) (ha : a.length = 16) (hb : b.length = 16) : Conv a b t (i + 1) 0 where
 len := h.len
 val := by
  rw [h.val, V_take_next (l := a) (by omega), show b.take 16 = b from List.take_of_length_le (by omega)]
  show _ = (V (a.take i) + W i * a[i]!) * V b + a[i + 1]! * W (i + 1) * 0
  grind only
 bnd := h.bnd.mono (by omega)

theorem Conv.all {a b t : List Int} (h : Conv a b t 16 0) (ha : a.length = 16) : V t = V a * V b ∧ Bnd 281474976710656 t := by
 refine ⟨?_, h.bnd.mono (by omega)⟩;rw [h.val, List.take_of_length_le (by omega)]
 show V a * V b + a[16]! * W 16 * 0 = _
 omega

theorem folded_get {t : List Int} (h : t.length = 31) {k : Nat} (hk : k < 15) : (folded t)[k]! = t[k]! + 38 * t[k + 16]! := by
 rw [getElem!_pos _ k (by rw [(V_folded h).1]; omega), getElem!_pos t k (by omega), getElem!_pos t (k+16) (by omega)];simp only [folded, List.getElem_zipWith, List.getElem_take];rw [List.getElem_append_left (by simp; omega), List.getElem_drop]
 simp [Nat.add_comm]
theorem folded_last {t : List Int} (h : t.length = 31) : (folded t)[15]! = t[15]! := by
 rw [getElem!_pos _ 15 (by rw [(V_folded h).1]; omega), getElem!_pos t 15 (by omega)];simp only [folded, List.getElem_zipWith, List.getElem_take];rw [List.getElem_append_right (by simp [h])]
 simp
theorem folded_bnd {t : List Int} (h : t.length = 31) (hb : Bnd 281474976710656 t) : Bnd 10977524091715584 (folded t) := by
 intro x hx
 obtain ⟨k, hk, rfl⟩ := List.getElem_of_mem hx;have hk2 := hk;rw [(V_folded h).1] at hk2;rw [← getElem!_pos _ k hk];have h1 := hb t[k]! (by rw [getElem!_pos _ _ (by omega)]; exact List.getElem_mem _)
 by_cases h15 : k < 15
 ·rw [folded_get h h15]
  have h2 := hb t[k+16]! (by rw [getElem!_pos _ _ (by omega)]; exact List.getElem_mem _)
  omega
 ·obtain rfl : k = 15 := by omega
  rw [folded_last h]
  omega

end Nums

namespace Nums

theorem lessp_get {t : List Int} (h : t.length = 16) {k : Nat} (hk : k < 16) : (lessp t)[k]! = t[k]! - pdig[k]! := by
 rw [getElem!_pos _ k (by rw [lessp_len h]; omega), getElem!_pos t k (by omega), getElem!_pos pdig k (by simp [pdig]; omega)]
 simp [lessp]
theorem pdig_0 : pdig[0]! = 65517 := rfl
theorem pdig_15 : pdig[15]! = 32767 := rfl
theorem pdig_mid : ∀ k : Nat, k < 15 → 1 ≤ k → pdig[k]! = 65535 := by decide
theorem lessp_bnd {t : List Int} (hs : Small t) (h : t.length = 16) {k : Nat} (hk : k < 16) : -65535 ≤ (lessp t)[k]! ∧ (lessp t)[k]! ≤ 65535 := by
 have h1 := hs t[k]! (by rw [getElem!_pos t k (by omega)]; exact List.getElem_mem _)
 have h2 : ∀ k : Nat, k < 16 → 0 ≤ pdig[k]! ∧ pdig[k]! ≤ 65535 := by decide
 have h3 := h2 k hk;rw [lessp_get h hk]
 omega

theorem lent_c {t : List Int} (hs : Small t) (h : t.length = 16) (k : Nat) : (chain 0 ((lessp t).take k)).2 = -1 ∨ (chain 0 ((lessp t).take k)).2 = 0 := by
 have hb : Bnd 65535 (lessp t) := fun x hx => by
  obtain ⟨j, hj, rfl⟩ := List.getElem_of_mem hx;rw [← getElem!_pos _ j hj];exact lessp_bnd hs h (by rw [lessp_len h] at hj; exact hj)
 have hV := V_bnd (l := (lessp t).take k) (B := 65535) (fun x hx => hb x (List.mem_of_mem_take hx));have hc := (chain_out 0 ((lessp t).take k)).1;have hW := W_pos ((lessp t).take k).length;have hd := div_bound (v := V ((lessp t).take k) + 0) (b := 1) hW (by omega) (by omega)
 omega

theorem pst_get {l : List Int} {k : Nat} (h : k < l.length) : (pst l k)[k]! = l[k]! + (chain 0 (l.take k)).2 := by
 have hl : (chain 0 (l.take k)).1.length = k := by rw [chain_len, List.length_take]; omega
 rw [pst_split h];exact get_mid _ _ _ hl
theorem pst_get1 {l : List Int} {k : Nat} (h : k + 1 < l.length) : (pst l k)[k + 1]! = l[k + 1]! := by
 have hl : (chain 0 (l.take k)).1.length = k := by rw [chain_len, List.length_take]; omega
 have e2 : l.drop (k + 1) = l[k+1]! :: l.drop (k + 2) := by rw [List.drop_eq_getElem_cons h, getElem!_pos l (k+1) h]
 rw [pst_split (by omega), e2, show ∀ (a : List Int) x y b, a ++ x :: y :: b = (a ++ [x]) ++ y :: b from fun a x y b => by simp];exact get_mid _ _ _ (by simp [hl])

theorem lent_at {t : List Int} (hs : Small t) (h : t.length = 16) {k : Nat} (hk : k < 16) : -65536 ≤ (pst (lessp t) k)[k]! ∧ (pst (lessp t) k)[k]! ≤ 65535 := by
 have h1 := lessp_bnd hs h hk;have h2 := lent_c hs h k;rw [pst_get (by rw [lessp_len h]; omega)]
 omega
theorem lent_at1 {t : List Int} (hs : Small t) (h : t.length = 16) {k : Nat} (hk : k < 15) : -65535 ≤ (pst (lessp t) k)[k + 1]! ∧ (pst (lessp t) k)[k + 1]! ≤ 65535 := by
 rw [pst_get1 (by rw [lessp_len h]; omega)];exact lessp_bnd hs h (by omega)

theorem set_self {l : List Int} {k : Nat} (h : k < l.length) : l.set k l[k]! = l := by
 rw [getElem!_pos l k h];exact List.set_getElem_self h

theorem lent_neg {t : List Int} (hs : Small t) (h : t.length = 16) {k : Nat} (hk : k < 15) (hn : (pst (lessp t) k)[k]! < 0) :
  pst (lessp t) (k + 1) = ((pst (lessp t) k).set k ((pst (lessp t) k)[k]! + 65536)).set (k + 1) ((pst (lessp t) k)[k + 1]! - 1) := by
 have h1 := lent_at hs h (k := k) (by omega);rw [pst_next (by rw [lessp_len h]; omega)]
 congr 1
 ·congr 1
  omega
 ·omega
theorem lent_pos {t : List Int} (hs : Small t) (h : t.length = 16) {k : Nat} (hk : k < 15) (hn : ¬ (pst (lessp t) k)[k]! < 0) :
  pst (lessp t) (k + 1) = pst (lessp t) k := by
 have h1 := lent_at hs h (k := k) (by omega)
 have hl : (pst (lessp t) k).length = 16 := by rw [pst_len, lessp_len h]
 rw [pst_next (by rw [lessp_len h]; omega)]
 have e1 : (pst (lessp t) k)[k]! % 65536 = (pst (lessp t) k)[k]! := by omega
 have e2 : (pst (lessp t) k)[k+1]! + (pst (lessp t) k)[k]! / 65536 = (pst (lessp t) k)[k+1]! := by omega
 rw [e1, e2, set_self (by omega), set_self (by omega)]

theorem pst_lent {l : List Int} (h : l.length = 16) : pst l 15 = lent l := by
 unfold lent
 rw [pst_split (by omega), List.drop_eq_nil_of_le (by omega)]

def rst (t : List Int) : Nat → List Int
  | 0 => t
  | k + 1 => redp (rst t k)
theorem rst_all {t : List Int} (h : t.length = 16) (hs : Small t) : ∀ k, (rst t k).length = 16 ∧ Small (rst t k)
 | 0 => ⟨h, hs⟩
 | k + 1 => by
  have ih := rst_all h hs k;have h1 := redp_all ih.1 ih.2;exact ⟨h1.1, h1.2.1⟩

def hst (d : List Int) (k : Nat) : List UInt8 := split (d.take k) ++ List.replicate (2 * (16 - k)) 0
theorem hst_all {d : List Int} (h : d.length = 16) : hst d 16 = split d := by
 unfold hst
 rw [List.take_of_length_le (by omega)]
 simp
theorem hst_len {d : List Int} (h : d.length = 16) {k : Nat} (hk : k ≤ 16) : (hst d k).length = 32 := by
 unfold hst
 rw [List.length_append, split_len, List.length_take, List.length_replicate]
 omega
theorem split_snoc : ∀ (a : List Int) (x : Int), split (a ++ [x]) = split a ++ [UInt8.ofNat (x % 256).toNat, UInt8.ofNat (x / 256).toNat]
 | [], x => rfl
 | y :: a, x => by
  have ih := split_snoc a x
  show UInt8.ofNat (y % 256).toNat :: UInt8.ofNat (y / 256).toNat :: split (a ++ [x]) = _
  rw [ih]
  rfl
theorem hst_next {d : List Int} (h : d.length = 16) {k : Nat} (hk : k < 16) :
  ((hst d k).set (2 * k) (UInt8.ofNat (d[k]! % 256).toNat)).set (2 * k + 1) (UInt8.ofNat (d[k]! / 256).toNat) = hst d (k + 1) := by
 have hl : (split (d.take k)).length = 2 * k := by rw [split_len, List.length_take]; omega
 unfold hst
 rw [take_one (by omega), split_snoc, show 2 * (16 - k) = 2 * (16 - (k + 1)) + 1 + 1 by omega, List.replicate_succ, List.replicate_succ];generalize split (d.take k) = a at *;rw [List.set_append_right _ _ (by omega), hl, Nat.sub_self, List.set_append_right _ _ (by omega), hl];rw [show 2 * k + 1 - 2 * k = 1 by omega]
 simp

end Nums
/-
  THE DOCUMENT'S OWN NUMBERS: Load, Add, Sub.
-/
namespace Go.Proofs.YtiamoeifaahlfaaDoor
open Go.RowKit Go.IntWalk Nums

set_option maxRecDepth 100000 in
set_option maxHeartbeats 1000000 in
theorem load_any (b : List UInt8) (w : World) (hl : b.length = 32) :
  Calls Tryd.prog 74 #[.agg (By b).toArray] w fun e w' => e = .returned (.agg (Is (low b)).toArray) ∧ Below w.heap.size w w' := by
 obtain ⟨hj, hjV⟩ := V_join 16 b (by omega);have hlow := low_all hl
 go_enter Tryd.func74, Tryd.ntmps74
 go_wp2
 go_loopw [4] (fun i wr => ∃ k : Nat, k ≤ 16 ∧ i = .int .i64 k ∧ Blk wr w.heap.size 22 (By b).toArray ∧ Blk wr (w.heap.size + 1) 27 (Is (List.replicate 16 0)).toArray ∧ Blk wr (w.heap.size + 1 + 1) 27 (Is (fil (join b) 16 k)).toArray ∧ Below w.heap.size w wr) (fun i _ => 16 - (intOf i).toNat)
 case atStart =>
  refine ⟨0, by omega, rfl, blk3_0 w _ _ _ _, blk3_1 w _ _ _ _, ?_, (((Below.refl _ _).alloc (Nat.le_refl _) _).alloc (by simp) _).alloc (by simp; omega) _⟩;rw [fil_zero];exact blk3_2 w _ _ _ _
 case round =>
  obtain ⟨k, hk, rfl, h0, h1, h2, hbel⟩ := hrel
  by_cases hlt : k < 16
  ·have hN := fil_next (l := join b) (n := 16) (k := k) hj hlt (join_get k b (by omega)).symm
   have c1 := (h0.drew.cell (2 * k)).trans (By_get (by omega));have c2 := (h0.drew.cell (2 * k + 1)).trans (By_get (by omega));have b1 := (b[2*k]!).toNat_lt;have b2 := (b[2*k+1]!).toNat_lt;have hf := h2.drew.free k;have hc := (h2.drew.cell k).trans (Is_at (by rw [fil_len hj (by omega)]; omega));generalize (b[2*k]!).toNat = x at *;generalize (b[2*k+1]!).toNat = y at *
   have q1 : IntKind.i64.wrap (2 * (k : Int)) = ((2 * k : Nat) : Int) := by rw [i64_left, wrap64_in _ (by omega)]; omega
   have q2 : IntKind.i64.wrap (((2 * k : Nat) : Int) + 1) = ((2 * k + 1 : Nat) : Int) := by rw [i64_left, wrap64_in _ (by omega)]; omega
   have q3 : ((2 * k : Nat) : Int) < 32 := by omega
   have q4 : ((2 * k + 1 : Nat) : Int) < 32 := by omega
   have q5 : (0 : Int) ≤ ((2 * k : Nat) : Int) := by omega
   have q6 : (0 : Int) ≤ ((2 * k + 1 : Nat) : Int) := by omega
   have q7 : IntKind.i64.wrap (x : Int) = (x : Int) := by rw [i64_left, wrap64_in _ (by omega)]
   have q8 : IntKind.i64.wrap (y : Int) = (y : Int) := by rw [i64_left, wrap64_in _ (by omega)]
   have q9 : IntKind.i64.wrap (256 * (y : Int)) = 256 * (y : Int) := by rw [i64_left, wrap64_in _ (by omega)]
   have q10 : IntKind.i64.wrap ((x : Int) + 256 * (y : Int)) = (x : Int) + 256 * (y : Int) := by rw [i64_left, wrap64_in _ (by omega)]
   have HK := Lib.hid (And.intro h0 (And.intro h1 (And.intro h2 (And.intro hbel hN))));clear h0 h1 h2 hbel hN;generalize 2 * k + 1 = m at *;generalize 2 * k = j at *
   go_wp2
   go_still_tail 14, (by kernel_rfl)
   go_wp2
   go_roundw
   case rel =>
    obtain ⟨h0, h1, h2, hbel, hN⟩ := HK.out;have h3 := h2.set k (.int .i64 ((x : Int) + 256 * (y : Int)));rw [Is_set, hN] at h3;exact ⟨k + 1, by omega, by go_num, h0.far (by simp; omega) _, h1.far (by simp) _, h3, (hbel.setCell (by simp; omega) _).drew⟩
   case measure => simp [intOf]; omega
  ·obtain rfl : k = 16 := by omega
   rw [fil_all hj] at h2;have hd := join_small b (join b)[15]! (by rw [getElem!_pos _ 15 (by omega)]; exact List.getElem_mem _);have hc := (h2.cell 15).trans (Is_at (by omega));have hf := h2.free 15;have hL : (join b).set 15 ((join b)[15]! % 32768) = low b := rfl;generalize (join b)[15]! = d at *;have h3 := h2.set 15 (.int .i64 (d % 32768));rw [Is_set, hL] at h3;have h4 : Blk (wr.setCell ⟨w.heap.size + 1 + 1, 15, none⟩ (.int .i64 (d % 32768))) (w.heap.size + 1) 27 _ := h1.far (by simp) _
   have hz : (Is (low b)).toArray.size = 16 := by rw [List.size_toArray, Is_len, hlow.1]
   have hz0 : (Is (List.replicate 16 0)).toArray.size = (Is (low b)).toArray.size := by rw [hz]; rfl
   have hbe : Below w.heap.size w (wr.setCell ⟨w.heap.size + 1 + 1, 15, none⟩ (.int .i64 (d % 32768))) := hbel.setCell (by simp; omega) _
   go_wp2_with (first
    | (refine wpList_load_row rfl 27 _ rfl (w.heap.size + 1 + 1) rfl 27 (Is (low b)).toArray (0, 0) _ h3 Tryd.underlying27 rfl (size_num _ hz) ?_)
    | (refine wpList_store_row rfl 27 _ _ rfl (w.heap.size + 1) rfl (Is (low b)).toArray rfl 27 _ h4 (size_num _ hz) hz0 (Is_one _) ?_))
   refine bodyPost_ret (results_cell_row rfl _ _ (w.heap.size + 1) 27 (Is (low b)).toArray (0, 0) _ rfl (h4.row _) Tryd.underlying27 rfl (size_num _ hz)) rfl ⟨rfl, ?_⟩;exact below_setRow hbe (by omega) _
end Go.Proofs.YtiamoeifaahlfaaDoor
/-
  THE DOCUMENT'S OWN NUMBERS: Add, Sub.
-/
namespace Go.Proofs.YtiamoeifaahlfaaDoor
open Go.RowKit Go.IntWalk Nums

set_option maxRecDepth 100000 in
set_option maxHeartbeats 1000000 in
theorem add_any (a b : List Int) (w : World) (ha : a.length = 16) (hb : b.length = 16) (hba : Bnd 2305843009213693952 a) (hbb : Bnd 2305843009213693952 b) :
  Calls Tryd.prog 75 #[.agg (Is a).toArray, .agg (Is b).toArray] w fun e w' => e = .returned (.agg (Is (adds a b)).toArray) ∧ Below w.heap.size w w' := by
 have hlo := adds_len ha hb
 go_enter Tryd.func75, Tryd.ntmps75
 go_wp2
 go_loopw [6, 7] (fun _ i wr => ∃ k : Nat, k ≤ 16 ∧ i = .int .i64 k ∧ Blk wr w.heap.size 27 (Is a).toArray ∧ Blk wr (w.heap.size + 1) 27 (Is b).toArray ∧ Blk wr (w.heap.size + 1 + 1) 27 (Is (List.replicate 16 0)).toArray ∧ Blk wr (w.heap.size + 1 + 1 + 1) 27 (Is (fil (adds a b) 16 k)).toArray ∧ Below w.heap.size w wr) (fun _ i _ => 16 - (intOf i).toNat)
 case atStart =>
  refine ⟨0, by omega, rfl, blk4_0 w _ _ _ _ _, blk4_1 w _ _ _ _ _, blk4_2 w _ _ _ _ _, ?_, below4 _ _ _ _ _⟩;rw [fil_zero];exact blk4_3 w _ _ _ _ _
 case round =>
  obtain ⟨k, hk, rfl, h0, h1, h2, h3, hbel⟩ := hrel
  by_cases hlt : k < 16
  ·have hN := fil_next (l := adds a b) (n := 16) (k := k) hlo hlt (adds_get (by omega) (by omega)).symm
   have c1 := (h0.drew.cell k).trans (Is_at (by omega));have c2 := (h1.drew.cell k).trans (Is_at (by omega));have b1 := bnd_get hba (k := k) (by omega);have b2 := bnd_get hbb (k := k) (by omega);have hf := h3.drew.free k;have hc := (h3.drew.cell k).trans (Is_at (by rw [fil_len hlo (by omega)]; omega));generalize a[k]! = x at *;generalize b[k]! = y at *
   have q1 : IntKind.i64.wrap (x + y) = x + y := by rw [i64_left, wrap64_in _ (by omega)]
   have q2 : (0 : Int) ≤ (k : Int) := by omega
   have HK := Lib.hid (And.intro h0 (And.intro h1 (And.intro h2 (And.intro h3 (And.intro hbel hN)))));clear h0 h1 h2 h3 hbel hN
   go_wp2
   go_still_tail 8, (by kernel_rfl)
   go_wp2
   go_roundw
   case rel =>
    obtain ⟨h0, h1, h2, h3, hbel, hN⟩ := HK.out;have h4 := h3.set k (.int .i64 (x + y));rw [Is_set, hN] at h4;exact ⟨k + 1, by omega, by go_num, h0.far (by simp <;> omega) _, h1.far (by simp <;> omega) _, h2.far (by simp) _, h4, (hbel.setCell (by simp; omega) _).drew⟩
   case measure => simp [intOf]; omega
  ·obtain rfl : k = 16 := by omega
   rw [fil_all hlo] at h3
   have hz : (Is (adds a b)).toArray.size = 16 := by rw [List.size_toArray, Is_len, hlo]
   have hz0 : (Is (List.replicate 16 0)).toArray.size = (Is (adds a b)).toArray.size := by rw [hz]; rfl
   go_wp2_with (first
    | (refine wpList_load_row rfl 27 _ rfl (w.heap.size + 1 + 1 + 1) rfl 27 (Is (adds a b)).toArray (0, 0) _ h3 Tryd.underlying27 rfl (size_num _ hz) ?_)
    | (refine wpList_store_row rfl 27 _ _ rfl (w.heap.size + 1 + 1) rfl (Is (adds a b)).toArray rfl 27 _ h2 (size_num _ hz) hz0 (Is_one _) ?_))
   refine bodyPost_ret (results_cell_row rfl _ _ (w.heap.size + 1 + 1) 27 (Is (adds a b)).toArray (0, 0) _ rfl (h2.row _) Tryd.underlying27 rfl (size_num _ hz)) rfl ⟨rfl, ?_⟩;exact below_setRow hbel (by omega) _

set_option maxRecDepth 100000 in
set_option maxHeartbeats 1000000 in
theorem sub_any (a b : List Int) (w : World) (ha : a.length = 16) (hb : b.length = 16) (hba : Bnd 2305843009213693952 a) (hbb : Bnd 2305843009213693952 b) :
  Calls Tryd.prog 41 #[.agg (Is a).toArray, .agg (Is b).toArray] w fun e w' => e = .returned (.agg (Is (subs a b)).toArray) ∧ Below w.heap.size w w' := by
 have hlo := subs_len ha hb
 go_enter Tryd.func41, Tryd.ntmps41
 go_wp2
 go_loopw [6, 7] (fun _ i wr => ∃ k : Nat, k ≤ 16 ∧ i = .int .i64 k ∧ Blk wr w.heap.size 27 (Is a).toArray ∧ Blk wr (w.heap.size + 1) 27 (Is b).toArray ∧ Blk wr (w.heap.size + 1 + 1) 27 (Is (List.replicate 16 0)).toArray ∧ Blk wr (w.heap.size + 1 + 1 + 1) 27 (Is (fil (subs a b) 16 k)).toArray ∧ Below w.heap.size w wr) (fun _ i _ => 16 - (intOf i).toNat)
 case atStart =>
  refine ⟨0, by omega, rfl, blk4_0 w _ _ _ _ _, blk4_1 w _ _ _ _ _, blk4_2 w _ _ _ _ _, ?_, below4 _ _ _ _ _⟩;rw [fil_zero];exact blk4_3 w _ _ _ _ _
 case round =>
  obtain ⟨k, hk, rfl, h0, h1, h2, h3, hbel⟩ := hrel
  by_cases hlt : k < 16
  ·have hN := fil_next (l := subs a b) (n := 16) (k := k) hlo hlt (subs_get (by omega) (by omega)).symm
   have c1 := (h0.drew.cell k).trans (Is_at (by omega));have c2 := (h1.drew.cell k).trans (Is_at (by omega));have b1 := bnd_get hba (k := k) (by omega);have b2 := bnd_get hbb (k := k) (by omega);have hf := h3.drew.free k;have hc := (h3.drew.cell k).trans (Is_at (by rw [fil_len hlo (by omega)]; omega));generalize a[k]! = x at *;generalize b[k]! = y at *
   have q1 : IntKind.i64.wrap (x - y) = x - y := by rw [i64_left, wrap64_in _ (by omega)]
   have q2 : (0 : Int) ≤ (k : Int) := by omega
   have HK := Lib.hid (And.intro h0 (And.intro h1 (And.intro h2 (And.intro h3 (And.intro hbel hN)))));clear h0 h1 h2 h3 hbel hN
   go_wp2
   go_still_tail 8, (by kernel_rfl)
   go_wp2
   go_roundw
   case rel =>
    obtain ⟨h0, h1, h2, h3, hbel, hN⟩ := HK.out;have h4 := h3.set k (.int .i64 (x - y));rw [Is_set, hN] at h4;exact ⟨k + 1, by omega, by go_num, h0.far (by simp <;> omega) _, h1.far (by simp <;> omega) _, h2.far (by simp) _, h4, (hbel.setCell (by simp; omega) _).drew⟩
   case measure => simp [intOf]; omega
  ·obtain rfl : k = 16 := by omega
   rw [fil_all hlo] at h3
   have hz : (Is (subs a b)).toArray.size = 16 := by rw [List.size_toArray, Is_len, hlo]
   have hz0 : (Is (List.replicate 16 0)).toArray.size = (Is (subs a b)).toArray.size := by rw [hz]; rfl
   go_wp2_with (first
    | (refine wpList_load_row rfl 27 _ rfl (w.heap.size + 1 + 1 + 1) rfl 27 (Is (subs a b)).toArray (0, 0) _ h3 Tryd.underlying27 rfl (size_num _ hz) ?_)
    | (refine wpList_store_row rfl 27 _ _ rfl (w.heap.size + 1 + 1) rfl (Is (subs a b)).toArray rfl 27 _ h2 (size_num _ hz) hz0 (Is_one _) ?_))
   refine bodyPost_ret (results_cell_row rfl _ _ (w.heap.size + 1 + 1) 27 (Is (subs a b)).toArray (0, 0) _ rfl (h2.row _) Tryd.underlying27 rfl (size_num _ hz)) rfl ⟨rfl, ?_⟩;exact below_setRow hbel (by omega) _

end Go.Proofs.YtiamoeifaahlfaaDoor
/-
  THE DOCUMENT'S OWN NUMBERS: Mul.
-/
namespace Go.Proofs.YtiamoeifaahlfaaDoor
open Go.RowKit Go.IntWalk Nums

def z16 : Array Value := (Is (List.replicate 16 0)).toArray

structure MulW (w wr : World) (a b t : List Int) : Prop where
  b0 : Blk wr w.heap.size 27 (Is a).toArray
  b1 : Blk wr (w.heap.size + 1) 27 (Is b).toArray
  b2 : Blk wr (w.heap.size + 1 + 1) 27 z16
  b3 : Blk wr (w.heap.size + 1 + 1 + 1) 113 (Is t).toArray
  be : Below w.heap.size w wr

theorem MulW.set {w wr : World} {a b t t' : List Int} (h : MulW w wr a b t) {k : Nat} {x : Int} (e : t.set k x = t') :
  MulW w (wr.setCell ⟨w.heap.size + 1 + 1 + 1, k, none⟩ (.int .i64 x)).drew a b t' where
 b0 := h.b0.far (by simp <;> omega) _
 b1 := h.b1.far (by simp <;> omega) _
 b2 := h.b2.far (by simp <;> omega) _
 b3 := by
  have h4 := h.b3.set k (.int .i64 x);rw [Is_set, e] at h4;exact h4
 be := (h.be.setCell (by simp; omega) _).drew

structure Fold (w wq : World) (go : Nat) (t : List Int) (k : Nat) : Prop where
  b2 : Blk wq (w.heap.size + 1 + 1) 27 z16
  b3 : Blk wq (w.heap.size + 1 + 1 + 1) 113 (Is t).toArray
  bo : Blk wq go 27 (Is (fil (folded t) 16 k)).toArray
  be : Below w.heap.size w wq
  hg : w.heap.size + 1 + 1 + 1 < go

set_option maxRecDepth 100000 in
set_option maxHeartbeats 2000000 in
theorem mul_any (a b : List Int) (w : World) (ha : a.length = 16) (hb : b.length = 16) (hba : Bnd 1048576 a) (hbb : Bnd 1048576 b) :
  Calls Tryd.prog 40 #[.agg (Is a).toArray, .agg (Is b).toArray] w fun e w' => ∃ t, V t = V a * V b ∧ Bnd 281474976710656 t ∧ t.length = 31 ∧ e = .returned (.agg (Is (carry (carry (folded t)))).toArray) ∧ Below w.heap.size w w' := by
 go_enter Tryd.func40, Tryd.ntmps40
 go_wp2
 go_loopw [6] (fun i wr => ∃ k : Nat, k ≤ 16 ∧ i = .int .i64 k ∧ ∃ t, Conv a b t k 0 ∧ MulW w wr a b t) (fun i _ => 16 - (intOf i).toNat)
 case atStart =>
  exact ⟨0, by omega, rfl, List.replicate 31 0, Conv.zero a b, ⟨blk4_0 w _ _ _ _ _, blk4_1 w _ _ _ _ _, blk4_2 w _ _ _ _ _, blk4_3 w _ _ _ _ _, below4 _ _ _ _ _⟩⟩
 case round =>
  obtain ⟨k, hk, rfl, t, hC, hM⟩ := hrel
  by_cases hlt : k < 16
  ·have q7 : (k : Int) < 16 := by omega
   have HC := Lib.hid hC;have HM := Lib.hid hM;clear hC hM
   go_wp2
   go_loopw [7] (fun i wr => ∃ j : Nat, j ≤ 16 ∧ i = .int .i64 j ∧ ∃ t, Conv a b t k j ∧ MulW w wr a b t) (fun i _ => 16 - (intOf i).toNat)
   case atStart => exact ⟨0, by omega, rfl, t, HC.out, HM.out⟩
   case round =>
    obtain ⟨j, hj, rfl, t, hC, hM⟩ := hrel
    by_cases hlj : j < 16
    ·have hN := hC.next hlt hlj ha hb hba hbb
     have c0 := (hM.b3.drew.cell (k + j)).trans (Is_at (by rw [hC.len]; omega));have c1 := (hM.b0.drew.cell k).trans (Is_at (by omega));have c2 := (hM.b1.drew.cell j).trans (Is_at (by omega));have b0 := bnd_get (hC.bnd.mono (C := 281474976710656) (by omega)) (k := k + j) (by rw [hC.len]; omega);have b1 := bnd_get hba (k := k) (by omega);have b2 := bnd_get hbb (k := j) (by omega);have hf := hM.b3.drew.free (k + j);have hst := fun x => hM.set (k := k + j) (x := x) rfl;generalize t[k + j]! = z at *;generalize a[k]! = x at *;generalize b[j]! = y at *;have hxy := mul_bound b1.1 b1.2 b2.1 b2.2
     have q0 : IntKind.i64.wrap ((k : Int) + (j : Int)) = ((k + j : Nat) : Int) := by rw [i64_left, wrap64_in _ (by omega)]; omega
     have q1 : IntKind.i64.wrap (x * y) = x * y := by rw [i64_left, wrap64_in _ (by omega)]
     have q2 : IntKind.i64.wrap (z + x * y) = z + x * y := by rw [i64_left, wrap64_in _ (by omega)]
     have q3 : (0 : Int) ≤ ((k + j : Nat) : Int) := by omega
     have q4 : ((k + j : Nat) : Int) < 31 := by omega
     have q5 : (0 : Int) ≤ (k : Int) := by omega
     have q6 : (0 : Int) ≤ (j : Int) := by omega
     have HN := Lib.hid (And.intro hN (hst (z + x * y)));clear hN hst hC hM;generalize k + j = m at *
     go_wp2
     go_still_tail 13, (by kernel_rfl)
     go_wp2
     go_roundw
     case rel =>
      obtain ⟨hN, hM⟩ := HN.out;exact ⟨j + 1, by omega, by go_num, _, hN, hM⟩
     case measure => simp [intOf]; omega
    ·obtain rfl : j = 16 := by omega
     have hR := hC.roll hlt ha hb;have HR := Lib.hid (And.intro hR hM);clear hC hM
     go_wp2
     go_roundw
     case rel =>
      obtain ⟨hR, hM⟩ := HR.out;exact ⟨k + 1, by omega, by go_num, _, hR, hM⟩
     case measure => simp [intOf]; omega
  ·obtain rfl : k = 16 := by omega
   obtain ⟨tv, tb⟩ := hC.all ha;have tl := hC.len;clear hC;have hb3 : ∀ u, Blk (wr.alloc u) (w.heap.size + 1 + 1 + 1) 113 (Is t).toArray := fun u => hM.b3.alloc u;have hb2 : ∀ u, Blk (wr.alloc u) (w.heap.size + 1 + 1) 27 z16 := fun u => hM.b2.alloc u;have hbe : ∀ u, Below w.heap.size w (wr.alloc u) := fun u => hM.be.alloc hM.be.size u;have hg : w.heap.size + 1 + 1 + 1 < wr.heap.size := hM.b3.lt;have hfl := V_folded tl;have hn := Blk.new wr 27 z16;obtain ⟨go, hgo⟩ : ∃ go, wr.heap.size = go := ⟨_, rfl⟩;clear hM
   go_wp2
   rw [hgo] at hn hg;generalize ((16 : Nat) : Int) = s16
   go_loopw [9] (fun i wq => ∃ k : Nat, k ≤ 16 ∧ i = .int .i64 k ∧ Fold w wq go t k) (fun i _ => 16 - (intOf i).toNat)
   case atStart =>
    refine ⟨0, by omega, rfl, hb2 _, hb3 _, ?_, hbe _, hg⟩;rw [fil_zero];exact hn
   case round =>
    obtain ⟨k, hk, rfl, h2, h3, ho, hbel, hg⟩ := hrel;clear hn hb3 hb2 hbe
    by_cases hlt : k < 16
    ·have c1 := (h3.cell k).trans (Is_at (by omega))
     have b1 := bnd_get tb (k := k) (by omega);have hf := ho.free k;have hc := (ho.cell k).trans (Is_at (by rw [fil_len hfl.1 (by omega)]; omega))
     by_cases hk15 : k < 15
     ·have hN := fil_next (l := folded t) (n := 16) (k := k) hfl.1 hlt (folded_get tl hk15).symm
      have b2 := bnd_get tb (k := k + 16) (by omega)
      have hfo : ((fil (folded t) 16 k).set k t[k]!).length = 16 := by rw [List.length_set, fil_len hfl.1 (by omega)]
      have hfk : ((fil (folded t) 16 k).set k t[k]!)[k]! = t[k]! := by
       rw [getElem!_pos _ k (by rw [hfo]; omega), List.getElem_set_self]
      have hss : ((fil (folded t) 16 k).set k t[k]!).set k (t[k]! + 38 * t[k + 16]!) = fil (folded t) 16 (k + 1) := by rw [List.set_set]; exact hN
      have k2 : Blk (wr.setCell ⟨go, k, none⟩ (.int .i64 t[k]!)) (w.heap.size + 1 + 1) 27 z16 := h2.far (by simp; omega) _;have k3 : Blk (wr.setCell ⟨go, k, none⟩ (.int .i64 t[k]!)) (w.heap.size + 1 + 1 + 1) 113 (Is t).toArray := h3.far (by simp; omega) _;have ko := ho.set k (.int .i64 t[k]!);rw [Is_set] at ko;have kb : Below w.heap.size w (wr.setCell ⟨go, k, none⟩ (.int .i64 t[k]!)) := hbel.setCell (by simp; omega) _;generalize t[k]! = x at *
      have q6 : (0 : Int) ≤ (k : Int) := by omega
      have q7 : (k : Int) < 16 := by omega
      have q8 : (k : Int) < 15 := by omega
      have HK := Lib.hid (And.intro k2 (And.intro k3 (And.intro ko kb)));clear h2 h3 ho hbel k2 k3 ko kb
      go_wp2_with (fail)
      obtain ⟨k2, k3, ko, kb⟩ := HK.out;clear HK hc hf c1;generalize wr.setCell ⟨go, k, none⟩ (.int .i64 x) = w2 at *;have c1 := (ko.drew.cell k).trans (Is_at (by omega));have hf := ko.drew.free k;have c2 := (k3.drew.cell (k + 16)).trans (Is_at (by omega));rw [hfk] at c1;have HK := Lib.hid (And.intro k2 (And.intro k3 (And.intro ko (And.intro kb hss))));clear k2 k3 ko kb hss hN;generalize t[k+16]! = y at *
      have q1 : IntKind.i64.wrap ((k : Int) + 16) = ((k + 16 : Nat) : Int) := by rw [i64_left, wrap64_in _ (by omega)]; omega
      have q2 : IntKind.i64.wrap (38 * y) = 38 * y := by rw [i64_left, wrap64_in _ (by omega)]
      have q3 : IntKind.i64.wrap (x + 38 * y) = x + 38 * y := by rw [i64_left, wrap64_in _ (by omega)]
      have q4 : (0 : Int) ≤ ((k + 16 : Nat) : Int) := by omega
      have q5 : ((k + 16 : Nat) : Int) < 31 := by omega
      generalize k + 16 = m at *
      go_still_tail 9, (by kernel_rfl)
      go_wp2
      go_roundw
      case rel =>
       obtain ⟨k2, k3, ko, kb, hss⟩ := HK.out;have h4 := ko.set k (.int .i64 (x + 38 * y));rw [Is_set, hss] at h4;exact ⟨k + 1, by omega, by go_num, k2.far (by simp; omega) _, k3.far (by simp; omega) _, h4, (kb.setCell (by simp; omega) _).drew, hg⟩
      case measure => simp [intOf]; omega
     ·obtain rfl : k = 15 := by omega
      have hN := fil_next (l := folded t) (n := 16) (k := 15) hfl.1 hlt (folded_last tl).symm;generalize t[15]! = x at *;have HK := Lib.hid (And.intro h2 (And.intro h3 (And.intro ho (And.intro hbel hN))));clear h2 h3 ho hbel hN
      go_wp2
      go_roundw
      case rel =>
       obtain ⟨h2, h3, ho, hbel, hN⟩ := HK.out;have h4 := ho.set 15 (.int .i64 x);rw [Is_set, hN] at h4;exact ⟨16, by omega, by go_num, h2.far (by simp; omega) _, h3.far (by simp; omega) _, h4, hbel.setCell (by simp; omega) _, hg⟩
      case measure => simp [intOf]
    ·obtain rfl : k = 16 := by omega
     rw [fil_all hfl.1] at ho
     have hz : (Is (folded t)).toArray.size = 16 := by rw [List.size_toArray, Is_len, hfl.1]
     have hfb := folded_bnd tl tb;have hc1 := carry_all hfl.1;have hc2 := carry_all hc1.1.len;have hr := V_room hfl.1 (hfb.mono (by omega))
     have hz2 : (Is (carry (carry (folded t)))).toArray.size = 16 := by rw [List.size_toArray, Is_len, hc2.1.len]
     have hb1 : Bnd 2305843009213693952 (carry (folded t)) := by
      have h2 := carry_two hfl.1 hr.1 hr.2;have h3 := div_bound (W_pos 16) hr.1 hr.2;exact hc1.1.bnd (by omega) (by omega) (by omega)
     have HC := Lib.hid (carry_any (folded t) wr hfl.1 (hfb.mono (by omega)));have HD := fun w1 => Lib.hid (carry_any (carry (folded t)) w1 hc1.1.len hb1);have HK := Lib.hid (And.intro h2 hbel);clear h2 h3 hbel hfb hc1 hr hfl
     go_wp2_with (refine wpList_load_row rfl 27 _ rfl go rfl 27 (Is (folded t)).toArray (0, 0) _ ho Tryd.underlying27 rfl (size_num _ hz) ?_)
     refine HC.out.mono ?_
     rintro e w1 ⟨rfl, hw1⟩
     go_wp2_with (fail)
     refine (HD w1).out.mono ?_
     rintro e w2 ⟨rfl, hw2⟩
     obtain ⟨h2, hbel⟩ := HK.out;have hbw := hbel.trans ((hw1.trans (hw2.mono hw1.size)).mono hbel.size);have h22 : Blk w2 (w.heap.size + 1 + 1) 27 z16 := (h2.below hw1 h2.lt).below hw2 (h2.below hw1 h2.lt).lt;clear HC HD HK h2 hbel
     go_wp2_with (refine wpList_store_row rfl 27 _ _ rfl (w.heap.size + 1 + 1) rfl (Is (carry (carry (folded t)))).toArray rfl 27 _ h22 (size_num _ hz2) (by rw [hz2]; rfl) (Is_one _) ?_)
     refine bodyPost_ret (results_cell_row rfl _ _ (w.heap.size + 1 + 1) 27 (Is (carry (carry (folded t)))).toArray (0, 0) _ rfl (h22.row _) Tryd.underlying27 rfl (size_num _ hz2)) rfl ⟨t, tv, tb, tl, rfl, ?_⟩;exact below_setRow hbw (by omega) _
end Go.Proofs.YtiamoeifaahlfaaDoor
