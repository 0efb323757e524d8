/-
  SEVERAL TEXTS IN ONE: Fill256, Sum256, TrM, TrQ, TrF, TrT, Wc.
-/
import Derived.Test.YtlaikmpnijlcbaaDoorMg
import Derived.Test.YtlaikmpnijlcbaaDoorMe
/-
  THE DIGESTS: fill: the parts' bytes, block by block; Sum256's.
-/
namespace Go.Proofs.YtlaikmpnijlcbaaDoor
open Go.RowKit Go.IntWalk Nums

/-- The message m so far: whole blocks a, and t in the last one. -/
structure FS6 (B gh gb : Nat) (w wr : World) (o : Oct) (m : List UInt8) (a t b : List UInt8) (k : Nat) : Prop where
  em : m = a ++ t
  ea : a.length = k * 64
  et : t.length < 64
  es : S6 B gh gb w wr (runw s256 64 o a) b
  eb : b.take t.length = t
set_option maxRecDepth 100000 in
set_option maxHeartbeats 4000000 in
theorem fill256_f {B gh gb : Nat} {w : World} {o : Oct} {b : List UInt8} (h : S6 B gh gb w w o b) (A : Option Addr) (ls : List (List UInt8)) (pc : Nat) (hA : Parts w B A ls) (hpc : ls.length ≤ pc) (hpm : pc ≤ 9223372036854775807) :
    Calls Tryd.prog 30 #[.slice (some ⟨gb, 0, none⟩) 64 64, .slice A ls.length pc, .func (.func 31) #[] #[.pointer (some ⟨gh, 0, none⟩), .pointer (some ⟨gb, 0, none⟩)]] w fun e w' =>
      e = .returned (.tuple #[]) ∧ ∃ b', S6 B gh gb w w' (runw s256 64 o (ls.flatten ++ tailw 64 (ls.flatten.length % 64) (8 * ls.flatten.length))) b' := by
  have h0 : FS6 B gh gb w w o (ls.take 0).flatten [] [] b 0 := by
    refine ⟨by simp, by simp, by simp, ?_, by simp⟩
    have e := runw_short (s := s256) (B := 64) (o := o) (l := []) (by simp)
    rw [e]
    exact h
  have H0 := Lib.hid h0
  have HA := Lib.hid hA
  clear h h0 hA
  go_enter Tryd.func30, Tryd.ntmps30
  go_wp2
  go_loopw [13, 6, 7] (fun i f z wr => ∃ n : Nat, n ≤ ls.length ∧ i = .int .i64 n ∧ ∃ a t b k, f = .int .i64 ((t : List UInt8).length : Nat) ∧ z = .int .u64 (((ls.take n).flatten.length % 18446744073709551616 : Nat) : Int) ∧ FS6 B gh gb w wr o (ls.take n).flatten a t b k) (fun i _ _ _ => ls.length - (intOf i).toNat)
  case atStart => exact ⟨0, by omega, rfl, [], [], b, 0, rfl, rfl, H0.out⟩
  case round =>
    clear H0
    obtain ⟨n, hn, rfl, a, t, b, k, rfl, rfl, hF⟩ := hrel
    by_cases hnl : n < ls.length
    · obtain ⟨ad, rfl, had, hcell⟩ := HA.out.below hF.es.be (Nat.le_refl _) (by omega)
      obtain ⟨P, c, hx, hsl⟩ := hcell n ls[n] (List.getElem?_eq_getElem hnl)
      have hfl := flat_take ls n hnl
      have hsz : IntKind.u64.wrap ((((ls.take n).flatten.length % 18446744073709551616 : Nat) : Int) + (ls[n].length : Int)) = (((ls.take (n + 1)).flatten.length % 18446744073709551616 : Nat) : Int) := by
        rw [hfl, List.length_append, IntKind.wrap_u64]
        omega
      have HL := Lib.hid hfl
      have hl1 := hsl.1
      have hl2 := hsl.2.1
      have hwn : IntKind.u64.wrap (ls[n].length : Int) = (ls[n].length : Int) := wrapN _ (by omega)
      have HS := Lib.hid (And.intro hF hsl)
      clear hF hsl hcell hfl
      obtain ⟨zn, hzn⟩ : ∃ z, (ls.take (n + 1)).flatten.length % 18446744073709551616 = z := ⟨_, rfl⟩
      rw [hzn] at hsz
      have HZN := Lib.hid hzn
      clear hzn
      generalize (ls.take n).flatten.length % 18446744073709551616 = z0 at *
      generalize ls[n] = l at *
      go_wp2
      go_loopw [9, 6] (fun p f wq => ∃ d r P c a t b k, l = d ++ r ∧ p = .slice P (r : List UInt8).length c ∧ f = .int .i64 ((t : List UInt8).length : Nat) ∧ SL wq 0 B P r c ∧ FS6 B gh gb w wq o ((ls.take n).flatten ++ d) a t b k) (fun p _ _ => lenv p)
      case atStart =>
        obtain ⟨hF, hsl⟩ := HS.out
        refine ⟨[], l, P, c, a, t, b, k, rfl, rfl, rfl, hsl, ?_⟩
        rw [List.append_nil]
        exact hF
      case round =>
        clear HS hwn hsz hx hl1 hl2
        obtain ⟨d, r, P, c, a, t, b, k, hd, rfl, rfl, hsl, hF⟩ := hrel
        by_cases hr : 0 < r.length
        · skip
          have hm0 := hF.es.m
          have hlt := hF.et
          have hz128 := hF.es.len
          have hbv := hsl.2.2.2
          have hs1 := hsl.1
          have hs2 := hsl.2.1
          have hcut := hsl.cut (k := min r.length (64 - t.length)) (Nat.min_le_left _ _)
          have htl := cop_take (r := r) (n := 64) hF.eb
          have hzl : (cop b t.length (r.take (64 - t.length))).length = 64 := by
            rw [cop_len (by rw [List.length_take]; omega)]
            exact hz128
          have hS2 := hF.es.setM hzl
          obtain ⟨z', hz'⟩ : ∃ z, cop b t.length (r.take (64 - t.length)) = z := ⟨_, rfl⟩
          obtain ⟨m, hm⟩ : ∃ m, min r.length (64 - t.length) = m := ⟨_, rfl⟩
          rw [hz'] at hS2 hzl htl
          rw [hm] at hcut htl
          have HZ := Lib.hid hz'
          have HM := Lib.hid hm
          have hrd : (r.drop m).length = r.length - m := List.length_drop
          have hmr : m ≤ r.length := by omega
          have hmt : t.length + m ≤ 64 := by omega
          have hm1 : 0 < m := by omega
          have hq : IntKind.i64.wrap ((t.length : Int) + (m : Int)) = ((t.length + m : Nat) : Int) := by rw [i64_left, wrap64_in _ (by omega)]; omega
          have hsl2 : SL (wr.setRow gb (By z').toArray) 0 B (if c = m then P else P.map (·.add m)) (r.drop m) (c - m) := hcut.below (below_setRow (Below.refl B wr) hF.es.bb _) (Nat.le_refl _)
          have hd2 : l = (d ++ r.take m) ++ r.drop m := by rw [hd, List.append_assoc, List.take_append_drop]
          have htm : r.take (64 - t.length) = r.take m := by
            rw [← hm]
            by_cases hh : r.length ≤ 64 - t.length
            · rw [Nat.min_eq_left hh, List.take_of_length_le hh, List.take_of_length_le (Nat.le_refl _)]
            · rw [Nat.min_eq_right (by omega)]
          rw [htm] at htl
          have hem := hF.em
          have hea := hF.ea
          have HS := Lib.hid (And.intro hS2 (And.intro hsl2 (And.intro hd2 (And.intro htl (And.intro hem hea)))))
          clear hF hsl hcut hS2 hsl2 hd hd2 htl htm hm hz' hem hea
          by_cases hf : t.length + m < 64
          · by_cases hck : c = m
            · have hck2 := hck.symm
              subst hck2
              go_wp2_with (refine wpl_copy (.tmp 27) (.tmp 28) rfl rfl gb t.length (64 - t.length) (64 - t.length) rfl P r m rfl b 73 hm0 0 B hbv (by rw [hz128]; omega) z' HZ m HM ?_)
              go_roundw
              case rel =>
                obtain ⟨hS2, hsl2, hd2, htl, hem, hea⟩ := HS.out
                first | rw [if_pos rfl] at hsl2 | rw [if_pos trivial] at hsl2
                refine ⟨d ++ r.take m, r.drop m, P, m - m, a, t ++ r.take m, z', k, hd2, by rw [hrd, show r.length - m = 0 by omega, Nat.sub_self], ?_, hsl2, ?_, hea, ?_, hS2, ?_⟩
                · rw [List.length_append, List.length_take, Nat.min_eq_left hmr]
                  go_num
                · rw [← List.append_assoc, hem, List.append_assoc]
                · rw [List.length_append, List.length_take, Nat.min_eq_left hmr]
                  exact hf
                · rw [List.length_append, List.length_take, Nat.min_eq_left hmr]
                  exact htl
              case measure => simp [lenv]; omega
            · skip
              go_wp2_with (refine wpl_copy (.tmp 27) (.tmp 28) rfl rfl gb t.length (64 - t.length) (64 - t.length) rfl P r c rfl b 73 hm0 0 B hbv (by rw [hz128]; omega) z' HZ m HM ?_)
              go_roundw
              case rel =>
                obtain ⟨hS2, hsl2, hd2, htl, hem, hea⟩ := HS.out
                rw [if_neg hck] at hsl2
                refine ⟨d ++ r.take m, r.drop m, (P.map (·.add m)), c - m, a, t ++ r.take m, z', k, hd2, by rw [hrd], ?_, hsl2, ?_, hea, ?_, hS2, ?_⟩
                · rw [List.length_append, List.length_take, Nat.min_eq_left hmr]
                  go_num
                · rw [← List.append_assoc, hem, List.append_assoc]
                · rw [List.length_append, List.length_take, Nat.min_eq_left hmr]
                  exact hf
                · rw [List.length_append, List.length_take, Nat.min_eq_left hmr]
                  exact htl
              case measure => simp [lenv]; omega
          · have hf : t.length + m = 64 := by omega
            by_cases hck : c = m
            · have hck2 := hck.symm
              subst hck2
              go_wp2_with (refine wpl_copy (.tmp 27) (.tmp 28) rfl rfl gb t.length (64 - t.length) (64 - t.length) rfl P r m rfl b 73 hm0 0 B hbv (by rw [hz128]; omega) z' HZ m HM ?_)
              refine (take256_f HS.out.1.rebase).mono ?_
              rintro e w4 ⟨rfl, hS4⟩
              go_wp2_with (fail)
              go_roundw
              case rel =>
                obtain ⟨hS2, hsl2, hd2, htl, hem, hea⟩ := HS.out
                first | rw [if_pos rfl] at hsl2 | rw [if_pos trivial] at hsl2
                have hzz : z' = t ++ r.take m := by
                  rw [← htl, hf, List.take_of_length_le (by omega)]
                have hfull := run_full (s := s256) (n := 64) (o := o) (by decide) hea hzl
                rw [hfull] at hS4
                refine ⟨d ++ r.take m, r.drop m, P, m - m, a ++ z', [], z', k + 1, hd2, by rw [hrd, show r.length - m = 0 by omega, Nat.sub_self], rfl, ?_, ?_, ?_, by decide, hS4.since hS2.be, rfl⟩
                · exact hsl2.below hS4.be (Nat.le_refl _)
                · rw [List.append_nil, hzz, ← List.append_assoc, hem, List.append_assoc]
                · rw [List.length_append, hea, hzl, Nat.add_mul, Nat.one_mul]
              case measure => simp [lenv]; omega
            · skip
              go_wp2_with (refine wpl_copy (.tmp 27) (.tmp 28) rfl rfl gb t.length (64 - t.length) (64 - t.length) rfl P r c rfl b 73 hm0 0 B hbv (by rw [hz128]; omega) z' HZ m HM ?_)
              refine (take256_f HS.out.1.rebase).mono ?_
              rintro e w4 ⟨rfl, hS4⟩
              go_wp2_with (fail)
              go_roundw
              case rel =>
                obtain ⟨hS2, hsl2, hd2, htl, hem, hea⟩ := HS.out
                rw [if_neg hck] at hsl2
                have hzz : z' = t ++ r.take m := by
                  rw [← htl, hf, List.take_of_length_le (by omega)]
                have hfull := run_full (s := s256) (n := 64) (o := o) (by decide) hea hzl
                rw [hfull] at hS4
                refine ⟨d ++ r.take m, r.drop m, (P.map (·.add m)), c - m, a ++ z', [], z', k + 1, hd2, by rw [hrd], rfl, ?_, ?_, ?_, by decide, hS4.since hS2.be, rfl⟩
                · exact hsl2.below hS4.be (Nat.le_refl _)
                · rw [List.append_nil, hzz, ← List.append_assoc, hem, List.append_assoc]
                · rw [List.length_append, hea, hzl, Nat.add_mul, Nat.one_mul]
              case measure => simp [lenv]; omega
        · have hr0 : r = [] := List.eq_nil_of_length_eq_zero (by omega)
          subst hr0
          rw [List.append_nil] at hd
          subst hd
          have HF := Lib.hid hF
          clear hF hsl
          go_wp2
          go_roundw
          case rel =>
            refine ⟨n + 1, by omega, by go_num, a, t, b, k, rfl, ?_, ?_⟩
            · rw [HZN.out]
            · rw [HL.out]
              exact HF.out
          case measure => simp [intOf]; omega
    · obtain rfl : n = ls.length := by omega
      rw [List.take_length] at hF ⊢
      have hE := end256_f hF.es t.length (ls.flatten.length % 18446744073709551616) hF.et
      rw [tailw_mod, hF.eb, run_end (by decide) hF.ea, ← hF.em] at hE
      have hmod : t.length = ls.flatten.length % 64 := by
        have h1 := hF.ea
        have h2 := hF.et
        rw [hF.em, List.length_append]
        omega
      have HE := Lib.hid hE
      have HMO := Lib.hid hmod
      clear hE hF hmod
      generalize ls.flatten.length % 18446744073709551616 = zz at *
      go_wp2_with (fail)
      refine HE.out.mono ?_
      rintro e w4 ⟨rfl, hS4⟩
      go_wp2_with (fail)
      go_end0
      rw [HMO.out] at hS4
      exact ⟨rfl, hS4⟩
end Go.Proofs.YtlaikmpnijlcbaaDoor
/-
  THE DIGESTS: Sum256.
-/
namespace Go.Proofs.YtlaikmpnijlcbaaDoor
open Go.RowKit Go.IntWalk Nums

theorem own_first256 : Own 29 := fun _ _ => by go_simp
def start256 : Oct := ⟨s256.start[0]!, s256.start[1]!, s256.start[2]!, s256.start[3]!, s256.start[4]!, s256.start[5]!, s256.start[6]!, s256.start[7]!⟩
theorem start256_ob : OB 32 start256 := by
  constructor <;> decide
theorem start256_list : start256.list = s256.start := by decide
theorem OB.list_lt2 {o : Oct} (h : OB 32 o) : ∀ x ∈ o.list, x < 4294967296 := by
  intro x hx
  simp only [Oct.list, List.mem_cons, List.not_mem_nil, or_false] at hx
  rcases hx with rfl | rfl | rfl | rfl | rfl | rfl | rfl | rfl
  · exact h.a
  · exact h.b
  · exact h.c
  · exact h.d
  · exact h.e
  · exact h.f
  · exact h.g
  · exact h.h

set_option maxRecDepth 100000 in
set_option maxHeartbeats 2000000 in
theorem sum256_f (A : Option Addr) (ls : List (List UInt8)) (pc : Nat) (w : World) (hT : Tsh w) (hA : Parts w w.heap.size A ls) (hpc : ls.length ≤ pc) (hpm : pc ≤ 9223372036854775807) :
    Calls Tryd.prog 19 #[.slice A ls.length pc] w fun e w' => e = .returned (.agg (By (digest s256 ls.flatten)).toArray) ∧ Below w.heap.size w w' := by
  have hD : digest s256 ls.flatten = ((runw s256 64 start256 (ls.flatten ++ tailw 64 (ls.flatten.length % 64) (8 * ls.flatten.length))).list.map (layw s256)).flatten := rfl
  rw [hD]
  clear hD
  have hTs : Tst w := ⟨hT.cell, hT.lt⟩
  generalize hR : runw s256 64 start256 (ls.flatten ++ tailw 64 (ls.flatten.length % 64) (8 * ls.flatten.length)) = R at *
  have HR := Lib.hid hR
  clear hR
  go_enter Tryd.func19, Tryd.ntmps19
  refine wp_seq_k fun K hK => ?_
  refine wp_region_lit ?_
  refine wpl_alloc (zs := (By z32b).toArray) rfl rfl zb32 ?_
  refine wpl_nil ?_
  go_simp
  refine hK _ _ ?_
  clear hK K
  refine wp_at (fun W => Blk W w.heap.size 30 (By z32b).toArray ∧ Below w.heap.size w W ∧ w.heap.size < W.heap.size) ⟨Blk.new w _ _, (Below.refl _ _).alloc (Nat.le_refl _) _, by rw [World.size_alloc]; omega⟩ ?_
  rintro W ⟨ho, hbe, hsz⟩
  refine wp_seq_k fun K hK => ?_
  refine reg_varF 1 3 71 (.tmp 5) z8v rfl rfl rfl rfl rfl rfl rfl (exec_alloc rfl (by kernel_rfl)) ?_
  simp only [List.take_succ_cons, List.take_zero]
  refine b_oneC rfl own_first256 (fun w1 h => first256_f w1 (hTs.below (Below.mono hbe (Nat.le_refl _)) |>.below h)) rfl rfl ?_
  simp only [Act.put, List.setIfInBounds_toArray, List.set_cons_zero, List.set_cons_succ]
  refine wpB_nil ⟨(Uw s256.start).toArray, fun _ => rfl, fun _ => rfl, rfl, size_v8 _ rfl, Uw_one _, fun gh W1 hgh hw1 hbh => ?_⟩
  simp only [Exit.then, Act.put, List.setIfInBounds_toArray, List.set_cons_zero, List.set_cons_succ]
  refine hK _ _ ?_
  clear hK K
  have ho := hw1.blk ho
  have hbe := below_up hbe hw1
  clear hw1
  have hng := hbh.lt
  refine wp_seq_k fun K hK => ?_
  refine wp_region_lit ?_
  refine wpl_alloc (zs := (By z64b).toArray) rfl rfl zb64 ?_
  refine wpl_nil ?_
  go_simp
  refine hK _ _ ?_
  clear hK K
  have ho := ho.alloc (.cells (By z64b).toArray 73)
  have hbh := hbh.alloc (.cells (By z64b).toArray 73)
  have hbe := hbe.alloc hbe.size (.cells (By z64b).toArray 73)
  have hbb := Blk.new W1 73 (By z64b).toArray
  generalize W1.alloc (.cells (By z64b).toArray 73) = W2 at *
  generalize W1.heap.size = gb at *
  have hTw := hT.below hbe
  rw [← start256_list] at hbh
  have hsgh : w.heap.size < gh := Nat.lt_of_lt_of_le hsz hgh
  have hS : S6 gh gh gb W2 W2 start256 z64b := ⟨hbh, hbb, start256_ob, rfl, hTw.steps, Below.refl _ _, Nat.le_refl _, Nat.le_of_lt hng, Nat.ne_of_lt hng, Nat.lt_of_lt_of_le hT.steps.lt (Nat.le_of_lt hsgh)⟩
  have hP : Parts W2 gh A ls := fun hl => by
    obtain ⟨ad, e, h1, h2⟩ := (hA.below hbe (Nat.le_refl _)) hl
    refine ⟨ad, e, Nat.lt_trans h1 hsgh, fun i l hi => ?_⟩
    obtain ⟨A', c', h3, h4⟩ := h2 i l hi
    exact ⟨A', c', h3, h4.more (Nat.le_refl _) (Nat.le_of_lt hsgh)⟩
  have HF := Lib.hid (fill256_f hS A ls pc hP hpc hpm)
  have hmf : ∀ (fn : Fn) (first cap : Array Value) (w : World), (Instr.makeFunc fn first cap).run Tryd.prog w = .ok (.func fn first cap) w := fun _ _ _ _ => rfl
  have HK := Lib.hid (And.intro ho hbe)
  clear hS hP hTw hbb hbh ho hbe hA hT
  go_wp2_with (fail)
  refine HF.out.mono ?_
  rintro e W3 ⟨rfl, b', hS3⟩
  rw [HR.out] at hS3
  have kh := hS3.h
  have hb3 := hS3.be
  have hzr : (Uw R.list).toArray.size = 8 := rfl
  have HL := Lib.hid (fun w1 => lay256_f (l := R.list) rfl (OB.list_lt2 hS3.ob) w1)
  have hko : Blk W3 w.heap.size 30 (By z32b).toArray := HK.out.1.below hb3 hsgh
  have hbe3 : Below w.heap.size w W3 := HK.out.2.trans (hb3.mono (Nat.le_of_lt hsgh))
  clear HF HK hS3 hb3 hmf
  go_wp2_with (refine wpList_load_row rfl 71 _ rfl gh rfl 71 (Uw R.list).toArray (0, 0) _ kh Tryd.underlying71 rfl (size_v8 _ hzr) ?_)
  refine (HL.out _).mono ?_
  rintro e W4 ⟨rfl, hw4⟩
  have hko := hko.later hw4
  have hbe4 := below_up hbe3 hw4
  have hz : (By (R.list.map (layw s256)).flatten).toArray.size = 32 := by
    rw [List.size_toArray, By_len, flat_lenB (layw s256) (n := 4) (fun x => layw_len s256 x) R.list]
    rfl
  clear HL hw4 kh hbe3
  obtain ⟨D, hDD⟩ : ∃ D, (R.list.map (layw s256)).flatten = D := ⟨_, rfl⟩
  rw [hDD] at hz ⊢
  have HDD := Lib.hid hDD
  clear hDD
  go_wp2_with (refine wpList_store_row rfl 30 _ _ rfl w.heap.size rfl (By D).toArray rfl 30 _ hko (size_hash _ hz) (by rw [hz]; rfl) (By_one _) ?_)
  refine bodyPost_ret (results_cell_row rfl _ _ w.heap.size 30 (By D).toArray (0, 0) _ rfl (hko.row _) Tryd.underlying30 rfl (size_hash _ hz)) rfl ⟨by rw [HDD.out], ?_⟩
  exact below_setRow hbe4 (Nat.le_refl _) _
end Go.Proofs.YtlaikmpnijlcbaaDoor
/-
  THE PROGRAM'S TREE: leaves and inner nodes are made.
-/
namespace Go.Proofs.YtlaikmpnijlcbaaDoor
open Go.RowKit Go.IntWalk Nums

/-! ### Objects given and let go -/
section
variable {P : Program} {b : Base} {ops : Array Oper} {Q : Exit → Act → World → Prop} {N : Nat} {E E' : SE} {L : List LV} {R : List Res} {F M : World → Prop} {g : Nat} {t : TypeId} {ps : List Pt}
theorem StW.objOut {G : Nat → Nat} {S : Nat → Prop} {w : World} (h : StW b G S L R F M w) {i : Nat} (hi : R[i]? = some (ObjS g t ps)) : ∃ S', StW b G S' L (R.eraseIdx i) (fun w => ObjF g t ps w ∧ F w) M w := by
  obtain ⟨S1, S2, h1, h2, h3, h4⟩ := h.let hi
  refine ⟨S2, h4.and fun w' hw => ⟨?_, h1.1.2⟩⟩
  have hg : S1 g := (h1.2 g).2 rfl
  have hlt := h1.1.1.lt
  have hnot : ¬ Dof b.X S2 G L g := by
    rintro (hx | hx | ⟨j, hj, e⟩)
    · obtain ⟨hx1, hx2⟩ := h.old g hx
      exact hx2 (h.mine g (.inl ((h3 g).2 (.inl hg))) hx1)
    · exact h2 g hg hx
    · exact h.sep j hj (by rw [e]; exact (h3 g).2 (.inl hg))
  exact (hw.block g hlt hnot).trans h1.1.1
theorem k_objOut {K : Act → World → Prop} (i : Nat) (hi : R[i]? = some (ObjS g t ps)) (h : kS b K N ⟨E, L, R.eraseIdx i, fun w => ObjF g t ps w ∧ F w, M⟩) : kS b K N ⟨E, L, R, F, M⟩ := fun a w ⟨G, S, h1, h2, h3⟩ => by
  obtain ⟨S', h4⟩ := h3.objOut hi
  exact h a w ⟨G, S', h1, h2, h4⟩
theorem l_objOut {l : List Oper} (i : Nat) (hi : R[i]? = some (ObjS g t ps)) (h : lS P b ops Q N l ⟨E, L, R.eraseIdx i, fun w => ObjF g t ps w ∧ F w, M⟩) : lS P b ops Q N l ⟨E, L, R, F, M⟩ := fun a w ⟨G, S, h1, h2, h3⟩ => by
  obtain ⟨S', h4⟩ := h3.objOut hi
  exact h a w ⟨G, S', h1, h2, h4⟩
/-- The newest variable is an object from here on. -/
theorem l_give {l : List Oper} {y : LV} (i : Nat) (hx : lookS E i = some (.a y.j 0)) (hs : SubS E' E) (h : ∀ g, lS P b ops Q N l ⟨(i, .v (.pointer (some ⟨g, 0, none⟩))) :: E', L, ObjS g y.t y.ps :: R, F, M⟩) : lS P b ops Q N l ⟨E, y :: L, R, F, M⟩ := k_give (K := fun a w => wpList P ops Q l a w) i hx hs h
end
instance : Pst Tsh := ⟨fun _ _ h hb => h.below hb⟩
theorem own_tsum : Own 19 := fun _ _ => by go_simp
theorem own_tleaf : Own 37 := fun _ _ => by go_simp
theorem own_tinner : Own 39 := fun _ _ => by go_simp
theorem prPs_ok {p : PairT} (h : OkP (prPs p)) : OkT2 p := by
  have h1 := (h (.agg 32 (By p.1).toArray) (by simp [prPs])).1
  have h2 := (h (.agg 32 (By p.2).toArray) (by simp [prPs])).1
  rw [List.size_toArray, By_len] at h1 h2
  exact ⟨h1, h2⟩
theorem obj_pair {h : Nat} {t : TypeId} {p : PairT} {w : World} (hF : ObjF h t (prPs p) w) : Rd 64 eP (some ⟨h, 0, none⟩) 1 [p] w := by
  refine ⟨Nat.le_refl _, by decide, fun e => (by cases e), fun x hx => ?_, fun _ => ⟨h, 0, rfl, hF.1.lt, fun i x hx => ?_⟩⟩
  · rw [List.mem_singleton.1 hx]
    exact eP_ok (prPs_ok hF.2)
  · cases i with
    | zero =>
      simp only [List.getElem?_cons_zero, Option.some.injEq] at hx
      subst hx
      exact range_of (A := []) (Z := []) hF.1 (by simp [SQ.cl, SQ.den, eP, Value.cells, prPs])
    | succ i => simp at hx
set_option maxRecDepth 100000 in
set_option maxHeartbeats 1000000 in
theorem tleaf_S (h : Nat) (p : PairT) : Spec 37 [.pointer (some ⟨h, 0, none⟩)] [] (fun w => ObjF h 64 (prPs p) w ∧ Tsh w) { ret := fun g : Nat => .v (.pointer (some ⟨g, 0, none⟩)), own := fun _ => [], p := fun g => TF (.leaf g h p) } := by
  refine spec_S [.c (.v (.pointer (some ⟨h, 0, none⟩)))] 17 Tryd.func37 rfl (by rw [Tryd.ntmps37]; rfl) (one_ok trivial) fun b => ?_
  refine s_pure (OkT2 p) (fun w hw _ => prPs_ok hw.1.2) fun hp => ?_
  refine s_auto TY_ok rfl ?_
  refine s_regH 13 (by decide) (by kernel_rfl) (by kernel_rfl) fun K hK G S w0 hst => ?_
  refine h_lit TY_ok [(0 : UInt8)] rfl rfl rfl rfl rfl rfl (fun _ => rfl) rfl (by decide) (by decide) fun B => ?_
  refine h_auto TY_ok hst rfl ?_
  refine h_op hst (.v (.slice (some ⟨h, 0 + 64 * 0, none⟩) 32 32)) trivial rfl rfl rfl rfl (runO_allQ rfl Tryd.underlying30 rfl rfl) ?_
  refine h_auto TY_ok hst rfl ?_
  refine h_op hst (.v (.slice (some ⟨h, 0 + 64 * 0 + 32, none⟩) 32 32)) trivial rfl rfl rfl rfl (runO_allQ rfl Tryd.underlying30 rfl rfl) ?_
  refine h_parts [.slice (some ⟨B, 0, none⟩) 1 1, .slice (some ⟨h, 0 + 64 * 0, none⟩) 32 32, .slice (some ⟨h, 0 + 64 * 0 + 32, none⟩) 32 32] [[0], p.1, p.2] hst rfl rfl rfl rfl rfl rfl rfl (by decide) (by decide) (fun w hw hu => ?_) fun A => ?_
  · have h1 := rd_pair (i := 0) (obj_pair hw.fact.1) rfl hp
    have h2 : Rd 1 eB (some ⟨B, 0, none⟩) 1 [0] w := hu 0 _ rfl (by kernel_rfl)
    exact ⟨h2.sb, h1.1, h1.2, trivial⟩
  refine h_call (r := .q (eY 32 (leafT p))) hst [.slice (some ⟨A, 0, none⟩) 3 3] rfl rfl rfl rfl own_tsum rfl rfl (fun _ => rfl) (eY_ok (n := 32) (digest256_len _)).1 (fun w hw hu => ?_) ?_
  · have hA : PT w (some ⟨A, 0, none⟩) [[0], p.1, p.2] := hu 9 _ rfl (by kernel_rfl)
    have hr2 := sum256_f (some ⟨A, 0, none⟩) [[0], p.1, p.2] 3 w hw.fact.2 hA (by simp) (by simp)
    have e : leafT p = digest s256 [[0], p.1, p.2].flatten := by simp [leafT]
    show Calls Tryd.prog _ _ w fun e w' => e = .returned (.agg (By (leafT p)).toArray) ∧ _
    rw [e]
    exact hr2
  refine h_auto TY_ok hst rfl ?_
  refine h_end hst ?_
  refine l_autoS TY_ok rfl ?_
  refine s_end (hK _ ?_)
  refine s_ret (k_give 2 rfl (E' := []) trivial fun g => ?_)
  refine k_objOut 0 rfl ?_
  exact k_ret TY_ok g rfl (by decide) rfl rfl rfl (fun _ hw _ => ⟨hw.1, hw.2.1⟩) (fun _ _ => trivial)
/-- What a variable of two sides holds. -/
def sdPs (a b : TA) : List Pt := [.agg 2 #[a.val, b.val]]
theorem val_one (t : TA) : t.val.oneCell' = true := by cases t <;> rfl
theorem sdPs_ok (a b : TA) : OkP (sdPs a b) := fun p hp => by
  rw [List.mem_singleton.1 hp]
  refine ⟨rfl, fun v hv => ?_⟩
  rcases List.mem_cons.1 hv with rfl | hv
  · exact val_one a
  · rw [List.mem_singleton.1 hv]
    exact val_one b
set_option maxRecDepth 100000 in
set_option maxHeartbeats 1000000 in
theorem tinner_S (x y : TA) (hl : x.len + y.len ≤ 1000000) : Spec 39 [.agg #[x.val, y.val]] [] (fun w => TF x w ∧ TF y w ∧ Tsh w) { ret := fun g : Nat => .v (.pointer (some ⟨g, 0, none⟩)), own := fun _ => [], p := fun g => TF (.node g x y) } := by
  refine spec_S [.p (sdPs x y)] 26 Tryd.func39 rfl (by rw [Tryd.ntmps39]; rfl) (one_ok (sdPs_ok x y)) fun b => ?_
  refine s_auto TY_ok rfl ?_
  refine s_new 6 [⟨3, 30, (By z32T).toArray⟩, ⟨4, 30, (By z32T).toArray⟩] (by decide) rfl ⟨⟨rfl, rfl, rfl, rfl, rfl⟩, ⟨rfl, rfl, rfl, rfl, rfl⟩, trivial⟩ (by kernel_rfl) (by kernel_rfl) (by kernel_rfl) fun K hK G S w0 hst => ?_
  refine n_op hst (.a 1 (0 + 1 * 0)) trivial rfl rfl rfl (runO_ixA 0 rfl Tryd.underlying66 rfl rfl rfl (by decide)) ?_
  refine n_opV hst (.v x.val) trivial rfl rfl rfl (runO_ldA _ rfl rfl rfl rfl Tryd.underlying25 rfl) ?_
  refine n_callS (F' := TF x) hst [x.val] rfl rfl rfl own_thash rfl rfl (fun _ => rfl) (thash_S x) (eY_ok x.root_len).1 (fun _ _ _ hv => hv.fact.1) ?_
  refine n_op hst (.a 1 (0 + 1 * 1)) trivial rfl rfl rfl (runO_ixA 1 rfl Tryd.underlying66 rfl rfl rfl (by decide)) ?_
  refine n_opV hst (.v y.val) trivial rfl rfl rfl (runO_ldA _ rfl rfl rfl rfl Tryd.underlying25 rfl) ?_
  refine n_callS (F' := TF y) hst [y.val] rfl rfl rfl own_thash rfl rfl (fun _ => rfl) (thash_S y) (eY_ok y.root_len).1 (fun _ _ _ hv => hv.fact.2.1) ?_
  have hx32 := x.root_len
  have hy32 := y.root_len
  have sz : ∀ l : List UInt8, l.length = 32 → (By l).toArray.size = 32 := fun l h => by rw [List.size_toArray, By_len, h]
  refine n_new hst [⟨3, none, 30, [.agg 32 (By x.root).toArray]⟩, ⟨4, none, 30, [.agg 32 (By y.root).toArray]⟩] [(By z32T).toArray, (By z32T).toArray] [.tmp 7, .tmp 10] rfl rfl rfl (fun u hu => ?_) ⟨rfl, rfl, trivial⟩ rfl ⟨⟨rfl, rfl, rfl⟩, ⟨rfl, rfl, rfl⟩, rfl⟩ ⟨⟨rfl, ?_, ?_, By_one _⟩, ⟨rfl, ?_, ?_, By_one _⟩, trivial⟩ ?_
  · rcases List.mem_cons.1 hu with rfl | hu
    · exact (eY_ok hx32).1
    · rw [List.mem_singleton.1 hu]
      exact (eY_ok hy32).1
  · exact (sz z32T rfl).trans (sz _ hx32).symm
  · show _ = some (By x.root).toArray.size
    rw [sz _ hx32]
    rfl
  · exact (sz z32T rfl).trans (sz _ hy32).symm
  · show _ = some (By y.root).toArray.size
    rw [sz _ hy32]
    rfl
  refine s_end (hK _ ?_)
  refine s_keep [1, 2, 3, 4] [1, 3, 4] rfl rfl ?_
  refine s_regH 13 (by decide) (by kernel_rfl) (by kernel_rfl) fun K hK G S w0 hst => ?_
  refine h_lit TY_ok [(1 : UInt8)] rfl rfl rfl rfl rfl rfl (fun _ => rfl) rfl (by decide) (by decide) fun B => ?_
  refine h_op hst (.s 3 0 32 32) trivial rfl rfl rfl rfl (runO_all rfl Tryd.underlying30 rfl rfl) ?_
  refine h_op hst (.s 4 0 32 32) trivial rfl rfl rfl rfl (runO_all rfl Tryd.underlying30 rfl rfl) ?_
  refine h_parts [.slice (some ⟨B, 0, none⟩) 1 1, (SV.s 3 0 32 32).den G, (SV.s 4 0 32 32).den G] [[1], x.root, y.root] hst rfl rfl rfl rfl rfl rfl rfl (by decide) (by decide) (fun w hw hu => ?_) fun A => ?_
  · have h2 : Rd 1 eB (some ⟨B, 0, none⟩) 1 [1] w := hu 0 _ rfl (by kernel_rfl)
    exact ⟨h2.sb, sb_var (j := 3) rfl hx32 (by decide) G S w hw, sb_var (j := 4) rfl hy32 (by decide) G S w hw, trivial⟩
  refine h_call (r := .q (eY 32 (nodeT x.root y.root))) hst [.slice (some ⟨A, 0, none⟩) 3 3] rfl rfl rfl rfl own_tsum rfl rfl (fun _ => rfl) (eY_ok (n := 32) (digest256_len _)).1 (fun w hw hu => ?_) ?_
  · have hA : PT w (some ⟨A, 0, none⟩) [[1], x.root, y.root] := hu 3 _ rfl (by kernel_rfl)
    have hr2 := sum256_f (some ⟨A, 0, none⟩) [[1], x.root, y.root] 3 w hw.fact.2.2 hA (by simp) (by simp)
    have e : nodeT x.root y.root = digest s256 [[1], x.root, y.root].flatten := by simp [nodeT]
    show Calls Tryd.prog _ _ w fun e w' => e = .returned (.agg (By (nodeT x.root y.root)).toArray) ∧ _
    rw [e]
    exact hr2
  refine h_op hst (.a 1 (0 + 1 * 0)) trivial rfl rfl rfl rfl (runO_ixA 0 rfl Tryd.underlying66 rfl rfl rfl (by decide)) ?_
  refine h_opV hst (.v x.val) trivial rfl rfl rfl rfl (runO_ldA _ rfl rfl rfl rfl Tryd.underlying25 rfl) ?_
  refine h_callS (F' := TF x) (r := .v (.int .i64 (x.len : Int))) hst [x.val] rfl rfl rfl rfl own_tsize rfl rfl (fun _ => rfl) trivial (tsize_S x) (fun _ _ _ hv => hv.fact.1) ?_
  refine h_op hst (.a 1 (0 + 1 * 1)) trivial rfl rfl rfl rfl (runO_ixA 1 rfl Tryd.underlying66 rfl rfl rfl (by decide)) ?_
  refine h_opV hst (.v y.val) trivial rfl rfl rfl rfl (runO_ldA _ rfl rfl rfl rfl Tryd.underlying25 rfl) ?_
  refine h_callS (F' := TF y) (r := .v (.int .i64 (y.len : Int))) hst [y.val] rfl rfl rfl rfl own_tsize rfl rfl (fun _ => rfl) trivial (tsize_S y) (fun _ _ _ hv => hv.fact.2.1) ?_
  refine h_auto TY_ok hst rfl ?_
  refine h_num 22 ((x.len + y.len : Nat) : Int) rfl (wrapI (by omega) (by omega) (by omega)) ?_
  refine h_auto TY_ok hst rfl ?_
  refine h_end hst ?_
  refine l_autoS TY_ok rfl ?_
  refine s_end (hK _ ?_)
  refine s_ret (k_give 2 rfl (E' := []) trivial fun g => ?_)
  refine k_objOut 0 rfl ?_
  exact k_ret TY_ok g rfl (by decide) rfl rfl rfl (fun _ hw _ => ⟨hw.1, hw.2.1, hw.2.2.1⟩) (fun _ _ => trivial)
end Go.Proofs.YtlaikmpnijlcbaaDoor
/-
  THE PROGRAM'S TREE: a pair is put in.
-/
namespace Go.Proofs.YtlaikmpnijlcbaaDoor
open Go.RowKit Go.IntWalk Nums

theorem own_tput : Own 24 := fun _ _ => by go_simp
theorem putT_len : ∀ (l : List PairT) (p : PairT), l.length ≤ (putT l p).length ∧ (putT l p).length ≤ l.length + 1
  | [], _ => ⟨Nat.zero_le _, Nat.le_refl _⟩
  | q :: l, p => by
    have := putT_len l p
    unfold putT
    split
    · simp only [List.length_cons]; omega
    · split
      · simp
      · simp
theorem wrapB2 {d e r : Nat} (h : d = 255 - r ∧ r ≤ 255) (he : (256 - r) % 256 = e) : IntKind.u8.wrap ((d : Int) + 1) = (e : Int) := by
  unfold IntKind.wrap
  simp [IntKind.bits, IntKind.signed]
  omega
theorem val_cells (t : TA) : t.val.cells = #[t.val] := by cases t <;> rfl
theorem leftT_one {d : Nat} {q : PairT} (h : bitT q.1 d = 0) : leftT d [q] = [q] ∧ rightT d [q] = [] := by simp [leftT, rightT, h]
theorem rightT_one {d : Nat} {q : PairT} (h : bitT q.1 d ≠ 0) : leftT d [q] = [] ∧ rightT d [q] = [q] := by simp [leftT, rightT, h]
theorem TOk.nil {r : Nat} {l : List PairT} (h : l = []) : TOk r l .nil := by cases r <;> exact h
theorem TOk.leaf {r : Nat} {l : List PairT} {g h : Nat} {p : PairT} (e : l = [p]) : TOk r l (.leaf g h p) := by cases r <;> exact e
theorem TOk.nil_inv {r : Nat} {l : List PairT} (h : TOk r l .nil) : l = [] := by cases r <;> exact h
theorem TOk.leaf_inv {r : Nat} {l : List PairT} {g h : Nat} {p : PairT} (e : TOk r l (.leaf g h p)) : l = [p] := by cases r <;> exact e
set_option maxRecDepth 100000 in
set_option maxHeartbeats 4000000 in
theorem tput_S : ∀ (r : Nat) (l : List PairT) (t : TA) (h : Nat) (p : PairT), r ≤ 256 → TOk r l t → SortT l → KeysT l → SharesT (256 - r) (p :: l) → l.length + 1 ≤ 1000000 →
    Spec 24 [t.val, .pointer (some ⟨h, 0, none⟩), .int .u8 (((256 - r) % 256 : Nat) : Int)] [] (fun w => TF t w ∧ ObjF h 64 (prPs p) w ∧ Tsh w) { ret := fun x : { t' : TA // TOk r (putT l p) t' } => .v x.1.val, own := fun _ => [], p := fun x => TF x.1 } := by
  intro r
  induction r using Nat.strongRecOn with
  | ind r ih =>
  intro l t h p hr ht hs hk hsh hl
  obtain ⟨D, hD⟩ : ∃ D, (256 - r) % 256 = D := ⟨_, rfl⟩
  rw [hD]
  refine spec_S [.c (.v t.val), .c (.v (.pointer (some ⟨h, 0, none⟩))), .c (.v (.int .u8 (D : Int)))] 71 Tryd.func24 rfl (by rw [Tryd.ntmps24]; rfl) (more_ok trivial (two_ok trivial trivial)) fun b => ?_
  refine s_pure (OkT2 p) (fun w hw _ => prPs_ok hw.2.1.2) fun hp2 => ?_
  refine s_auto TY_ok rfl ?_
  refine s_seq fun K hK => ?_
  cases t with
  | nil =>
    obtain rfl := ht.nil_inv
    refine s_regD 23 (by decide) (by kernel_rfl) (by kernel_rfl) fun K1 hK1 G S w0 hst => ?_
    refine g_autoS TY_ok hst rfl ?_
    refine g_skips rfl ?_
    refine g_autoS TY_ok hst rfl ?_
    refine g_endS hst ?_
    refine s_end (hK1 _ ?_)
    refine s_yes rfl ?_
    refine s_regA TY_ok rfl fun K2 hK2 => ?_
    refine l_call0 [.pointer (some ⟨h, 0, none⟩)] rfl rfl rfl own_tleaf rfl rfl (fun _ _ => rfl) (tleaf_S h p) (fun _ hw _ => ⟨hw.2.1, hw.2.2⟩) fun g => ?_
    refine l_autoS TY_ok rfl ?_
    refine s_end (hK2 _ ?_)
    exact s_ret (k_ret TY_ok ⟨.leaf g h p, TOk.leaf rfl⟩ rfl (by decide) rfl rfl rfl (fun _ hw _ => hw.1) (fun _ _ => trivial))
  | leaf g0 h0 q =>
    obtain rfl := ht.leaf_inv
    have hq := hk q List.mem_cons_self
    refine s_regD 23 (by decide) (by kernel_rfl) (by kernel_rfl) fun K1 hK1 G S w0 hst => ?_
    refine g_autoS TY_ok hst rfl ?_
    refine g_ldO TY_ok hst rfl rfl rfl rfl rfl rfl (obj_fact fun _ h _ => h.1.1) ?_
    refine g_autoS TY_ok hst rfl ?_
    refine g_ldO TY_ok hst rfl rfl rfl rfl rfl rfl (obj_fact fun _ h _ => h.1.1) ?_
    refine g_autoS TY_ok hst rfl ?_
    refine g_ldO TY_ok hst rfl rfl rfl rfl rfl rfl (obj_fact fun _ h _ => h.1.2) ?_
    refine g_autoS TY_ok hst rfl ?_
    refine g_ldO TY_ok hst rfl rfl rfl rfl rfl rfl (obj_fact fun _ h _ => h.2.1) ?_
    refine g_autoS TY_ok hst rfl ?_
    refine g_opS (.b (decide (q.1 = p.1))) trivial rfl rfl rfl (run_eqY rfl rfl rfl Tryd.underlying30 (by kernel_rfl) hq hp2.1) ?_
    by_cases he : q.1 = p.1
    · refine g_is 29 true rfl (by simp [he]) ?_
      refine g_autoS TY_ok hst rfl ?_
      refine g_endS hst ?_
      refine s_end (hK1 _ ?_)
      refine s_yes rfl ?_
      refine s_regA TY_ok rfl fun K2 hK2 => ?_
      refine l_call0 [.pointer (some ⟨h, 0, none⟩)] rfl rfl rfl own_tleaf rfl rfl (fun _ _ => rfl) (tleaf_S h p) (fun _ hw _ => ⟨hw.2.1, hw.2.2⟩) fun g => ?_
      refine l_autoS TY_ok rfl ?_
      refine s_end (hK2 _ ?_)
      have e2 : putT [q] p = [p] := by simp [putT, he, lessT_irrefl]
      exact s_ret (k_ret TY_ok ⟨.leaf g h p, TOk.leaf e2⟩ rfl (by decide) rfl rfl rfl (fun _ hw _ => hw.1) (fun _ _ => trivial))
    refine g_is 29 false rfl (by simp [he]) ?_
    refine g_autoS TY_ok hst rfl ?_
    refine g_endS hst ?_
    refine s_end (hK1 _ ?_)
    refine s_no rfl ?_
    refine s_skip (hK _ ?_)
    obtain ⟨r, rfl⟩ : ∃ q, r = q + 1 := ⟨r - 1, by
      by_cases e : r = 0
      · subst e
        exact absurd (ShareT.all hq hp2.1 (hsh q (by simp) p (by simp))) he
      · omega⟩
    obtain rfl : 255 - r = D := by omega
    clear hst hK1
    rw [show 256 - (r + 1) = 255 - r by omega] at hsh
    obtain ⟨d, hdr⟩ : ∃ d, 255 - r = d := ⟨_, rfl⟩
    obtain ⟨e8, he8⟩ : ∃ e, (256 - r) % 256 = e := ⟨_, rfl⟩
    have ih2 := fun l t h p ht hs hk => ih r (by omega) l t h p (by omega) ht hs hk
    simp only [he8] at ih2
    clear ih
    have hd : d < 256 := by omega
    rw [hdr] at hsh ⊢
    have h2 : 2 ≤ (putT [q] p).length := by
      by_cases h3 : lessT q.1 p.1 = true
      · simp [putT, h3]
      · simp [putT, h3, he]
    refine s_keep [0, 1, 2] [] rfl rfl ?_
    refine s_regA TY_ok rfl fun K1 hK1 => ?_
    refine l_ldO TY_ok rfl rfl rfl rfl rfl rfl (obj_fact fun _ h _ => h.1.1) ?_
    refine l_autoS TY_ok rfl ?_
    refine s_end (hK1 _ ?_)
    refine s_seq fun K2 hK2 => ?_
    refine s_regA TY_ok rfl fun K6 hK6 => ?_
    refine l_ldO TY_ok rfl rfl rfl rfl rfl rfl (obj_fact fun _ h _ => h.1.1) ?_
    refine l_autoS TY_ok rfl ?_
    refine s_end (hK6 _ ?_)
    refine s_yes rfl ?_
    have hrest : ∀ x y : TA, TOk r (leftT d [q]) x → TOk r (rightT d [q]) y → ∀ en, Weak en ⟨[(1, .v (.pointer (some ⟨h, 0, none⟩))), (2, .v (.int .u8 (d : Int))), (7, .a 7 0)], [⟨7, none, 66, sdPs x y⟩], [], fun w => TF x w ∧ TF y w ∧ ObjF h 64 (prPs p) w ∧ Tsh w, fun _ => True⟩ → kS b K2 71 en := by
      intro x y hx hy en hw
      refine k_weak hw (hK2 _ ?_)
      have hb2 := bitT_lt p.1 d
      refine s_regA TY_ok rfl fun K3 hK3 => ?_
      refine l_ldO TY_ok rfl rfl rfl rfl rfl rfl (obj_fact fun _ h _ => h.2.2.1) ?_
      refine l_autoS TY_ok rfl ?_
      refine l_call0 [.agg (By p.1).toArray, .int .u8 (d : Int)] rfl rfl rfl own_tbit rfl rfl (fun _ _ => rfl) (tbit_S hp2.1 d hd) (fun _ _ _ => trivial) fun _ => ?_
      refine l_autoS TY_ok rfl ?_
      have hlen : ∀ t' : TA, TOk (r + 1) (putT [q] p) t' → t'.len ≤ 1000000 := fun t' ht' => by
        rw [ht'.len]
        exact Nat.le_trans (putT_len [q] p).2 hl
      by_cases hbit : bitT p.1 d = 0
      · refine l_num 8 0 rfl (by rw [hbit]; rfl) ?_
        refine s_end (hK3 _ ?_)
        refine s_keep [1, 2, 7, 8] [7] rfl rfl ?_
        refine s_regA TY_ok rfl fun K4 hK4 => ?_
        refine l_op (.a 7 (0 + 1 * 0)) trivial rfl rfl rfl (runO_ixA 0 rfl Tryd.underlying66 rfl rfl rfl (by decide)) ?_
        refine l_opV (.v x.val) trivial rfl rfl rfl (runO_ldA _ rfl rfl rfl rfl Tryd.underlying25 rfl) ?_
        refine l_autoS TY_ok rfl ?_
        refine l_num 66 (e8 : Int) rfl (wrapB2 ⟨hdr.symm, by omega⟩ he8) ?_
        have eL : leftT d (putT [q] p) = putT (leftT d [q]) p := by rw [putT_left hs hk hp2.1, if_pos hbit]
        have eR : rightT d (putT [q] p) = rightT d [q] := by rw [putT_right hs hk hp2.1, if_pos hbit]
        have hsh2 : SharesT (256 - r) (p :: leftT d [q]) := by
          have := hsh.left
          rw [show leftT d (p :: [q]) = p :: leftT d [q] by simp [leftT, hbit], show d + 1 = 256 - r by omega] at this
          exact this
        refine l_call0 [x.val, .pointer (some ⟨h, 0, none⟩), .int .u8 (e8 : Int)] rfl rfl rfl own_tput rfl rfl (fun _ _ => rfl) (ih2 (leftT d [q]) x h p hx (hs.filter _) (hk.filter _) hsh2 (Nat.le_trans (Nat.add_le_add_right (List.length_filter_le _ _) 1) hl)) (fun _ h _ => ⟨h.2.1, h.2.2.2.1, h.2.2.2.2⟩) fun x' => ?_
        refine l_autoS TY_ok rfl ?_
        refine l_op (.a 7 (0 + 1 * 0)) trivial rfl rfl rfl (runO_ixA 0 rfl Tryd.underlying66 rfl rfl rfl (by decide)) ?_
        refine l_stA (sdPs x'.1 y) rfl rfl rfl rfl rfl rfl rfl (val_cells _) (val_one _) (show _ < 2 by decide) (sdPs_ok _ _) rfl ?_
        refine s_end (hK4 _ ?_)
        have hT : ∀ g, TOk (r + 1) (putT [q] p) (.node g x'.1 y) := fun g => ⟨h2, by show TOk r (leftT (255 - r) (putT [q] p)) x'.1; rw [hdr, eL]; exact x'.2, by show TOk r (rightT (255 - r) (putT [q] p)) y; rw [hdr, eR]; exact hy⟩
        refine s_keep [7] [7] rfl rfl ?_
        refine s_regA TY_ok rfl fun K5 hK5 => ?_
        refine l_call0 [.agg #[x'.1.val, y.val]] rfl rfl rfl own_tinner rfl rfl (fun _ _ => rfl) (tinner_S x'.1 y (hlen _ (hT 0))) (fun _ h _ => ⟨h.1, h.2.2.2.1, h.2.2.2.2.2⟩) fun g => ?_
        refine l_autoS TY_ok rfl ?_
        refine s_end (hK5 _ ?_)
        exact s_ret (k_ret TY_ok ⟨.node g x'.1 y, hT g⟩ rfl (by decide) rfl rfl rfl (fun _ hw _ => hw.1) (fun _ _ => trivial))
      · refine l_num 8 1 rfl (by rw [show bitT p.1 d = 1 by omega]; rfl) ?_
        refine s_end (hK3 _ ?_)
        refine s_keep [1, 2, 7, 8] [7] rfl rfl ?_
        refine s_regA TY_ok rfl fun K4 hK4 => ?_
        refine l_op (.a 7 (0 + 1 * 1)) trivial rfl rfl rfl (runO_ixA 1 rfl Tryd.underlying66 rfl rfl rfl (by decide)) ?_
        refine l_opV (.v y.val) trivial rfl rfl rfl (runO_ldA _ rfl rfl rfl rfl Tryd.underlying25 rfl) ?_
        refine l_autoS TY_ok rfl ?_
        refine l_num 66 (e8 : Int) rfl (wrapB2 ⟨hdr.symm, by omega⟩ he8) ?_
        have eL : leftT d (putT [q] p) = leftT d [q] := by rw [putT_left hs hk hp2.1, if_neg hbit]
        have eR : rightT d (putT [q] p) = putT (rightT d [q]) p := by rw [putT_right hs hk hp2.1, if_neg hbit]
        have hsh2 : SharesT (256 - r) (p :: rightT d [q]) := by
          have := hsh.right
          rw [show rightT d (p :: [q]) = p :: rightT d [q] by simp [rightT, hbit], show d + 1 = 256 - r by omega] at this
          exact this
        refine l_call0 [y.val, .pointer (some ⟨h, 0, none⟩), .int .u8 (e8 : Int)] rfl rfl rfl own_tput rfl rfl (fun _ _ => rfl) (ih2 (rightT d [q]) y h p hy (hs.filter _) (hk.filter _) hsh2 (Nat.le_trans (Nat.add_le_add_right (List.length_filter_le _ _) 1) hl)) (fun _ h _ => ⟨h.2.2.1, h.2.2.2.1, h.2.2.2.2⟩) fun y' => ?_
        refine l_autoS TY_ok rfl ?_
        refine l_op (.a 7 (0 + 1 * 1)) trivial rfl rfl rfl (runO_ixA 1 rfl Tryd.underlying66 rfl rfl rfl (by decide)) ?_
        refine l_stA (sdPs x y'.1) rfl rfl rfl rfl rfl rfl rfl (val_cells _) (val_one _) (show _ < 2 by decide) (sdPs_ok _ _) rfl ?_
        refine s_end (hK4 _ ?_)
        have hT : ∀ g, TOk (r + 1) (putT [q] p) (.node g x y'.1) := fun g => ⟨h2, by show TOk r (leftT (255 - r) (putT [q] p)) x; rw [hdr, eL]; exact hx, by show TOk r (rightT (255 - r) (putT [q] p)) y'.1; rw [hdr, eR]; exact y'.2⟩
        refine s_keep [7] [7] rfl rfl ?_
        refine s_regA TY_ok rfl fun K5 hK5 => ?_
        refine l_call0 [.agg #[x.val, y'.1.val]] rfl rfl rfl own_tinner rfl rfl (fun _ _ => rfl) (tinner_S x y'.1 (hlen _ (hT 0))) (fun _ h _ => ⟨h.2.2.1, h.1, h.2.2.2.2.2⟩) fun g => ?_
        refine l_autoS TY_ok rfl ?_
        refine s_end (hK5 _ ?_)
        exact s_ret (k_ret TY_ok ⟨.node g x y'.1, hT g⟩ rfl (by decide) rfl rfl rfl (fun _ hw _ => hw.1) (fun _ _ => trivial))
    have hb3 := bitT_lt q.1 d
    refine s_lit ?_
    refine l_autoS TY_ok rfl ?_
    refine l_ldO TY_ok rfl rfl rfl rfl rfl rfl (obj_fact fun _ h _ => h.1.1) ?_
    refine l_autoS TY_ok rfl ?_
    refine l_ldO TY_ok rfl rfl rfl rfl rfl rfl (obj_fact fun _ h _ => h.1.2) ?_
    refine l_autoS TY_ok rfl ?_
    refine l_call0 [.agg (By q.1).toArray, .int .u8 (d : Int)] rfl rfl rfl own_tbit rfl rfl (fun _ _ => rfl) (tbit_S hq d hd) (fun _ _ _ => trivial) fun _ => ?_
    refine l_autoS TY_ok rfl ?_
    by_cases hqb : bitT q.1 d = 0
    · obtain ⟨e1, e2⟩ := leftT_one hqb
      refine l_num 51 0 rfl (by rw [hqb]; rfl) ?_
      refine l_op (.a 7 (0 + 1 * 0)) trivial rfl rfl rfl (runO_ixA 0 rfl Tryd.underlying66 rfl rfl rfl (by decide)) ?_
      refine l_stA (sdPs (.leaf g0 h0 q) .nil) rfl rfl rfl rfl rfl rfl rfl (val_cells (.leaf g0 h0 q)) (val_one (.leaf g0 h0 q)) (show _ < 2 by decide) (sdPs_ok _ _) rfl ?_
      exact s_end (hrest (.leaf g0 h0 q) .nil (TOk.leaf e1) (TOk.nil e2) _ ⟨⟨rfl, rfl, rfl, trivial⟩, ⟨rfl, rfl, trivial⟩, .refl _, fun _ h _ => ⟨h.2.1, trivial, h.2.2.1, h.2.2.2⟩, fun _ _ => trivial⟩)
    · obtain ⟨e1, e2⟩ := rightT_one hqb
      refine l_num 51 1 rfl (by rw [show bitT q.1 d = 1 by omega]; rfl) ?_
      refine l_op (.a 7 (0 + 1 * 1)) trivial rfl rfl rfl (runO_ixA 1 rfl Tryd.underlying66 rfl rfl rfl (by decide)) ?_
      refine l_stA (sdPs .nil (.leaf g0 h0 q)) rfl rfl rfl rfl rfl rfl rfl (val_cells (.leaf g0 h0 q)) (val_one (.leaf g0 h0 q)) (show _ < 2 by decide) (sdPs_ok _ _) rfl ?_
      exact s_end (hrest .nil (.leaf g0 h0 q) (TOk.nil e1) (TOk.leaf e2) _ ⟨⟨rfl, rfl, rfl, trivial⟩, ⟨rfl, rfl, trivial⟩, .refl _, fun _ h _ => ⟨trivial, h.2.1, h.2.2.1, h.2.2.2⟩, fun _ _ => trivial⟩)
  | node g0 x0 y0 =>
    obtain ⟨r, rfl⟩ : ∃ q, r = q + 1 := ⟨r - 1, by
      cases r with
      | zero => exact ht.elim
      | succ r => rfl⟩
    obtain rfl : 255 - r = D := by omega
    rw [show 256 - (r + 1) = 255 - r by omega] at hsh
    obtain ⟨d, hdr⟩ : ∃ d, 255 - r = d := ⟨_, rfl⟩
    obtain ⟨e8, he8⟩ : ∃ e, (256 - r) % 256 = e := ⟨_, rfl⟩
    have ih2 := fun l t h p ht hs hk => ih r (by omega) l t h p (by omega) ht hs hk
    simp only [he8] at ih2
    clear ih
    have hd : d < 256 := by omega
    rw [hdr] at hsh ⊢
    obtain ⟨hl2, hx0, hy0⟩ := ht
    rw [hdr] at hx0 hy0
    have h2 : 2 ≤ (putT l p).length := Nat.le_trans hl2 (putT_len l p).1
    refine s_regD 23 (by decide) (by kernel_rfl) (by kernel_rfl) fun K1 hK1 G S w0 hst => ?_
    refine g_autoS TY_ok hst rfl ?_
    refine g_ldO TY_ok hst rfl rfl rfl rfl rfl rfl (obj_fact fun _ h _ => h.1.1) ?_
    refine g_autoS TY_ok hst rfl ?_
    refine g_endS hst ?_
    refine s_end (hK1 _ ?_)
    refine s_no rfl ?_
    refine s_skip (hK _ ?_)
    clear hst hK1
    refine s_keep [0, 1, 2] [] rfl rfl ?_
    refine s_regA TY_ok rfl fun K1 hK1 => ?_
    refine l_ldO TY_ok rfl rfl rfl rfl rfl rfl (obj_fact fun _ h _ => h.1.1) ?_
    refine l_autoS TY_ok rfl ?_
    refine s_end (hK1 _ ?_)
    refine s_seq fun K2 hK2 => ?_
    refine s_regA TY_ok rfl fun K6 hK6 => ?_
    refine l_ldO TY_ok rfl rfl rfl rfl rfl rfl (obj_fact fun _ h _ => h.1.1) ?_
    refine l_autoS TY_ok rfl ?_
    refine s_end (hK6 _ ?_)
    refine s_no rfl ?_
    have hrest : ∀ x y : TA, TOk r (leftT d l) x → TOk r (rightT d l) y → ∀ en, Weak en ⟨[(1, .v (.pointer (some ⟨h, 0, none⟩))), (2, .v (.int .u8 (d : Int))), (7, .a 7 0)], [⟨7, none, 66, sdPs x y⟩], [], fun w => TF x w ∧ TF y w ∧ ObjF h 64 (prPs p) w ∧ Tsh w, fun _ => True⟩ → kS b K2 71 en := by
      intro x y hx hy en hw
      refine k_weak hw (hK2 _ ?_)
      have hb2 := bitT_lt p.1 d
      refine s_regA TY_ok rfl fun K3 hK3 => ?_
      refine l_ldO TY_ok rfl rfl rfl rfl rfl rfl (obj_fact fun _ h _ => h.2.2.1) ?_
      refine l_autoS TY_ok rfl ?_
      refine l_call0 [.agg (By p.1).toArray, .int .u8 (d : Int)] rfl rfl rfl own_tbit rfl rfl (fun _ _ => rfl) (tbit_S hp2.1 d hd) (fun _ _ _ => trivial) fun _ => ?_
      refine l_autoS TY_ok rfl ?_
      have hlen : ∀ t' : TA, TOk (r + 1) (putT l p) t' → t'.len ≤ 1000000 := fun t' ht' => by
        rw [ht'.len]
        exact Nat.le_trans (putT_len l p).2 hl
      by_cases hbit : bitT p.1 d = 0
      · refine l_num 8 0 rfl (by rw [hbit]; rfl) ?_
        refine s_end (hK3 _ ?_)
        refine s_keep [1, 2, 7, 8] [7] rfl rfl ?_
        refine s_regA TY_ok rfl fun K4 hK4 => ?_
        refine l_op (.a 7 (0 + 1 * 0)) trivial rfl rfl rfl (runO_ixA 0 rfl Tryd.underlying66 rfl rfl rfl (by decide)) ?_
        refine l_opV (.v x.val) trivial rfl rfl rfl (runO_ldA _ rfl rfl rfl rfl Tryd.underlying25 rfl) ?_
        refine l_autoS TY_ok rfl ?_
        refine l_num 66 (e8 : Int) rfl (wrapB2 ⟨hdr.symm, by omega⟩ he8) ?_
        have eL : leftT d (putT l p) = putT (leftT d l) p := by rw [putT_left hs hk hp2.1, if_pos hbit]
        have eR : rightT d (putT l p) = rightT d l := by rw [putT_right hs hk hp2.1, if_pos hbit]
        have hsh2 : SharesT (256 - r) (p :: leftT d l) := by
          have := hsh.left
          rw [show leftT d (p :: l) = p :: leftT d l by simp [leftT, hbit], show d + 1 = 256 - r by omega] at this
          exact this
        refine l_call0 [x.val, .pointer (some ⟨h, 0, none⟩), .int .u8 (e8 : Int)] rfl rfl rfl own_tput rfl rfl (fun _ _ => rfl) (ih2 (leftT d l) x h p hx (hs.filter _) (hk.filter _) hsh2 (Nat.le_trans (Nat.add_le_add_right (List.length_filter_le _ _) 1) hl)) (fun _ h _ => ⟨h.2.1, h.2.2.2.1, h.2.2.2.2⟩) fun x' => ?_
        refine l_autoS TY_ok rfl ?_
        refine l_op (.a 7 (0 + 1 * 0)) trivial rfl rfl rfl (runO_ixA 0 rfl Tryd.underlying66 rfl rfl rfl (by decide)) ?_
        refine l_stA (sdPs x'.1 y) rfl rfl rfl rfl rfl rfl rfl (val_cells _) (val_one _) (show _ < 2 by decide) (sdPs_ok _ _) rfl ?_
        refine s_end (hK4 _ ?_)
        have hT : ∀ g, TOk (r + 1) (putT l p) (.node g x'.1 y) := fun g => ⟨h2, by show TOk r (leftT (255 - r) (putT l p)) x'.1; rw [hdr, eL]; exact x'.2, by show TOk r (rightT (255 - r) (putT l p)) y; rw [hdr, eR]; exact hy⟩
        refine s_keep [7] [7] rfl rfl ?_
        refine s_regA TY_ok rfl fun K5 hK5 => ?_
        refine l_call0 [.agg #[x'.1.val, y.val]] rfl rfl rfl own_tinner rfl rfl (fun _ _ => rfl) (tinner_S x'.1 y (hlen _ (hT 0))) (fun _ h _ => ⟨h.1, h.2.2.2.1, h.2.2.2.2.2⟩) fun g => ?_
        refine l_autoS TY_ok rfl ?_
        refine s_end (hK5 _ ?_)
        exact s_ret (k_ret TY_ok ⟨.node g x'.1 y, hT g⟩ rfl (by decide) rfl rfl rfl (fun _ hw _ => hw.1) (fun _ _ => trivial))
      · refine l_num 8 1 rfl (by rw [show bitT p.1 d = 1 by omega]; rfl) ?_
        refine s_end (hK3 _ ?_)
        refine s_keep [1, 2, 7, 8] [7] rfl rfl ?_
        refine s_regA TY_ok rfl fun K4 hK4 => ?_
        refine l_op (.a 7 (0 + 1 * 1)) trivial rfl rfl rfl (runO_ixA 1 rfl Tryd.underlying66 rfl rfl rfl (by decide)) ?_
        refine l_opV (.v y.val) trivial rfl rfl rfl (runO_ldA _ rfl rfl rfl rfl Tryd.underlying25 rfl) ?_
        refine l_autoS TY_ok rfl ?_
        refine l_num 66 (e8 : Int) rfl (wrapB2 ⟨hdr.symm, by omega⟩ he8) ?_
        have eL : leftT d (putT l p) = leftT d l := by rw [putT_left hs hk hp2.1, if_neg hbit]
        have eR : rightT d (putT l p) = putT (rightT d l) p := by rw [putT_right hs hk hp2.1, if_neg hbit]
        have hsh2 : SharesT (256 - r) (p :: rightT d l) := by
          have := hsh.right
          rw [show rightT d (p :: l) = p :: rightT d l by simp [rightT, hbit], show d + 1 = 256 - r by omega] at this
          exact this
        refine l_call0 [y.val, .pointer (some ⟨h, 0, none⟩), .int .u8 (e8 : Int)] rfl rfl rfl own_tput rfl rfl (fun _ _ => rfl) (ih2 (rightT d l) y h p hy (hs.filter _) (hk.filter _) hsh2 (Nat.le_trans (Nat.add_le_add_right (List.length_filter_le _ _) 1) hl)) (fun _ h _ => ⟨h.2.2.1, h.2.2.2.1, h.2.2.2.2⟩) fun y' => ?_
        refine l_autoS TY_ok rfl ?_
        refine l_op (.a 7 (0 + 1 * 1)) trivial rfl rfl rfl (runO_ixA 1 rfl Tryd.underlying66 rfl rfl rfl (by decide)) ?_
        refine l_stA (sdPs x y'.1) rfl rfl rfl rfl rfl rfl rfl (val_cells _) (val_one _) (show _ < 2 by decide) (sdPs_ok _ _) rfl ?_
        refine s_end (hK4 _ ?_)
        have hT : ∀ g, TOk (r + 1) (putT l p) (.node g x y'.1) := fun g => ⟨h2, by show TOk r (leftT (255 - r) (putT l p)) x; rw [hdr, eL]; exact hx, by show TOk r (rightT (255 - r) (putT l p)) y'.1; rw [hdr, eR]; exact y'.2⟩
        refine s_keep [7] [7] rfl rfl ?_
        refine s_regA TY_ok rfl fun K5 hK5 => ?_
        refine l_call0 [.agg #[x.val, y'.1.val]] rfl rfl rfl own_tinner rfl rfl (fun _ _ => rfl) (tinner_S x y'.1 (hlen _ (hT 0))) (fun _ h _ => ⟨h.2.2.1, h.1, h.2.2.2.2.2⟩) fun g => ?_
        refine l_autoS TY_ok rfl ?_
        refine s_end (hK5 _ ?_)
        exact s_ret (k_ret TY_ok ⟨.node g x y'.1, hT g⟩ rfl (by decide) rfl rfl rfl (fun _ hw _ => hw.1) (fun _ _ => trivial))
    exact s_skip (hrest x0 y0 hx0 hy0 _ ⟨⟨rfl, rfl, rfl, trivial⟩, ⟨rfl, rfl, trivial⟩, .refl _, fun _ h _ => ⟨h.1.2.1, h.1.2.2, h.2.1, h.2.2⟩, fun _ _ => trivial⟩)
end Go.Proofs.YtlaikmpnijlcbaaDoor
/-
  THE PROGRAM'S TREE: a key's pair is looked up.
-/
namespace Go.Proofs.YtlaikmpnijlcbaaDoor
open Go.RowKit Go.IntWalk Nums

theorem own_tfind : Own 25 := fun _ _ => by go_simp
/-- A cell behind a pointer. -/
theorem runO_ldB {L : List LV} {R : List Res} {F M : World → Prop} {N : Nat} {E : SE} {o : Oper} {t : TypeId} {x : Operand} {g off ty : Nat} {ps : List Pt} {d : TypeDesc} (v : Value) (ho : o.op = .load t x) (hx : evS E x = some (.v (.pointer (some ⟨g, off, none⟩)))) (hv : (catP ps)[off]? = some v) (hu : Tryd.prog.underlying t = some d) (hr : d.isRow = false) (h : ∀ G S w, View G S L R F M w → ObjF g ty ps w) :
    ∀ (G : Nat → Nat) (S : Nat → Prop) (a : Act) (w : World), Fr N (denE G E) a → View G S L R F M w → (execOp a.eval o).run Tryd.prog w = .ok (.value ((SV.v v).den G)) w := fun G S a w ha hw => by
  have h1 : a.eval x = .pointer (some ⟨g, off, none⟩) := ha.eval (evS_ok hx)
  have h2 := (h G S w hw).1.cell off
  rw [hv] at h2
  have h3 := run_load_cell hu hr h2
  unfold execOp
  simp only [ho, h1, Sem.run_bind, h3, Result.andThen_ok, Sem.run_pure]
  rfl
instance : Pst (fun _ : World => True) := ⟨fun _ _ _ _ => trivial⟩
theorem nd_at (a b : TA) : (catP (ndPs a b))[34]? = some a.val ∧ (catP (ndPs a b))[35]? = some b.val := by
  have h : (By (nodeT a.root b.root)).length = 32 := by rw [By_len]; exact digest256_len _
  have e : (catP (ndPs a b)).toList = By (nodeT a.root b.root) ++ [.int .i64 ((a.len + b.len : Nat) : Int), .pointer none, a.val, b.val] := by simp [ndPs, catP, Pt.cells, SC.den]
  rw [← Array.getElem?_toList, ← Array.getElem?_toList, e, List.getElem?_append_right (by omega), List.getElem?_append_right (by omega), h]
  exact ⟨rfl, rfl⟩
/-- What is found. -/
def FoundT (l : List PairT) (k : List UInt8) : Option (Nat × PairT) → Prop
  | none => ∀ q ∈ l, q.1 ≠ k
  | some x => x.2 ∈ l ∧ x.2.1 = k
def ptrF (x : Option (Nat × PairT)) : Value := .pointer (x.map fun y => ⟨y.1, 0, none⟩)
def FndW : Option (Nat × PairT) → World → Prop
  | none, _ => True
  | some x, w => ObjF x.1 64 (prPs x.2) w
instance {x : Option (Nat × PairT)} : Pst (FndW x) := ⟨fun w w' h hb => by
  cases x with
  | none => trivial
  | some x => exact ⟨h.1.later hb, h.2⟩⟩
theorem sideT {d : Nat} {l l0 : List PairT} {k : List UInt8} (h : ∀ q : PairT, q.1 = k → (q ∈ l ↔ q ∈ l0)) : (bitT k d = 0 → ∀ q : PairT, q.1 = k → (q ∈ leftT d l ↔ q ∈ l0)) ∧ (bitT k d ≠ 0 → ∀ q : PairT, q.1 = k → (q ∈ rightT d l ↔ q ∈ l0)) :=
  ⟨fun hb q hq => by rw [leftT_mem, h q hq, hq]; exact ⟨fun h => h.1, fun h => ⟨h, hb⟩⟩, fun hb q hq => by rw [rightT_mem, h q hq, hq]; exact ⟨fun h => h.1, fun h => ⟨h, hb⟩⟩⟩
set_option maxRecDepth 100000 in
set_option maxHeartbeats 4000000 in
theorem tfind_S (r0 : Nat) (l0 : List PairT) (t0 : TA) {k : List UInt8} (hk : k.length = 32) (hr0 : r0 ≤ 256) (ht0 : TOk r0 l0 t0) :
    Spec 25 [t0.val, (eY 32 k).den, .int .u8 (((256 - r0) % 256 : Nat) : Int)] [] (TF t0) { ret := fun x : { x : Option (Nat × PairT) // FoundT l0 k x } => .v (ptrF x.1), own := fun _ => [], p := fun x => FndW x.1 } := by
  refine spec_S [.c (.v t0.val), eY 32 k, .c (.v (.int .u8 (((256 - r0) % 256 : Nat) : Int)))] 43 Tryd.func25 rfl (by rw [Tryd.ntmps25]; rfl) (more_ok trivial (two_ok (eY_ok hk).1 trivial)) fun b => ?_
  refine s_auto TY_ok rfl ?_
  refine s_seq fun K hK => ?_
  refine s_block ?_
  let F : Nat × List PairT × TA × Nat → Env := fun ⟨_, _, t, e⟩ => ⟨[(0, .v t.val), (2, .v (.int .u8 (e : Int))), (4, .a 4 0)], [⟨4, none, 30, [.agg 32 (By k).toArray]⟩], [], TF t, fun _ => True⟩
  refine c_weak (e' := F (r0, l0, t0, (256 - r0) % 256)) ⟨⟨rfl, rfl, rfl, trivial⟩, ⟨rfl, rfl, trivial⟩, .refl _, fun _ h _ => h, fun _ _ => trivial⟩ (s_loop (fun x => x.1) F (fun x => x.1 ≤ 256 ∧ TOk x.1 x.2.1 x.2.2.1 ∧ x.2.2.2 = (256 - x.1) % 256 ∧ ∀ q : PairT, q.1 = k → (q ∈ x.2.1 ↔ q ∈ l0)) ?_ (r0, l0, t0, (256 - r0) % 256) ⟨hr0, ht0, rfl, fun _ _ => Iff.rfl⟩)
  rintro ⟨r, l, t, e⟩ ⟨hr, ht, he, hm⟩
  dsimp only at hr ht he hm
  refine s_seq fun K1 hK1 => ?_
  cases t with
  | nil =>
    obtain rfl := ht.nil_inv
    refine s_auto TY_ok rfl ?_
    refine s_no rfl ?_
    refine s_exit (k_pass (k_pass (k_out ?_)))
    refine hK _ ?_
    refine s_keep [0, 4] [4] rfl rfl ?_
    refine s_seq fun K2 hK2 => ?_
    refine s_regD 13 (by decide) (by kernel_rfl) (by kernel_rfl) fun K3 hK3 G S w0 hst => ?_
    refine g_autoS TY_ok hst rfl ?_
    refine g_endS hst ?_
    refine s_end (hK3 _ ?_)
    refine s_yes rfl ?_
    refine s_auto TY_ok rfl ?_
    exact s_ret (k_ret TY_ok ⟨none, fun q hq e => by have := (hm q e).2 hq; cases this⟩ rfl (by decide) rfl rfl rfl (fun _ _ _ => trivial) (fun _ _ => trivial))
  | leaf g h q =>
    obtain rfl := ht.leaf_inv
    refine s_regA TY_ok rfl fun K2 hK2 => ?_
    refine l_ldO TY_ok rfl rfl rfl rfl rfl rfl (obj_fact fun _ h _ => h.1) ?_
    refine l_autoS TY_ok rfl ?_
    refine s_end (hK2 _ ?_)
    refine s_no rfl ?_
    refine s_exit (k_pass (k_pass (k_out ?_)))
    refine hK _ ?_
    refine s_keep [0, 4] [4] rfl rfl ?_
    refine s_pure (OkT2 q) (fun w hw _ => prPs_ok hw.2.2) fun hq2 => ?_
    refine s_seq fun K2 hK2 => ?_
    refine s_regD 13 (by decide) (by kernel_rfl) (by kernel_rfl) fun K3 hK3 G S w0 hst => ?_
    refine g_autoS TY_ok hst rfl ?_
    refine g_ldO TY_ok hst rfl rfl rfl rfl rfl rfl (obj_fact fun _ h _ => h.1) ?_
    refine g_autoS TY_ok hst rfl ?_
    refine g_ldO TY_ok hst rfl rfl rfl rfl rfl rfl (obj_fact fun _ h _ => h.2) ?_
    refine g_autoS TY_ok hst rfl ?_
    refine g_opS (.b (!decide (q.1 = k))) trivial rfl rfl rfl (run_neqY rfl rfl rfl Tryd.underlying30 (by kernel_rfl) hq2.1 hk) ?_
    by_cases hqk : q.1 = k
    · refine g_is 37 false rfl (by simp [hqk]) ?_
      refine g_autoS TY_ok hst rfl ?_
      refine g_endS hst ?_
      refine s_end (hK3 _ ?_)
      refine s_no rfl ?_
      refine s_skip (hK2 _ ?_)
      refine s_regA TY_ok rfl fun K4 hK4 => ?_
      refine l_ldO TY_ok rfl rfl rfl rfl rfl rfl (obj_fact fun _ h _ => h.1) ?_
      refine l_autoS TY_ok rfl ?_
      refine s_end (hK4 _ ?_)
      exact s_ret (k_ret TY_ok ⟨some (h, q), (hm q hqk).1 List.mem_cons_self, hqk⟩ rfl (by decide) rfl rfl rfl (fun _ h _ => h.2) (fun _ _ => trivial))
    · refine g_is 37 true rfl (by simp [hqk]) ?_
      refine g_autoS TY_ok hst rfl ?_
      refine g_endS hst ?_
      refine s_end (hK3 _ ?_)
      refine s_yes rfl ?_
      refine s_auto TY_ok rfl ?_
      exact s_ret (k_ret TY_ok ⟨none, fun x hx e => by
        have := (hm x e).2 hx
        rw [List.mem_singleton.1 this] at e
        exact hqk e⟩ rfl (by decide) rfl rfl rfl (fun _ _ _ => trivial) (fun _ _ => trivial))
  | node g x y =>
    obtain ⟨r, rfl⟩ : ∃ q, r = q + 1 := ⟨r - 1, by
      cases r with
      | zero => exact ht.elim
      | succ r => rfl⟩
    obtain ⟨_, hx, hy⟩ := ht
    obtain ⟨d, hdr⟩ : ∃ d, 255 - r = d := ⟨_, rfl⟩
    obtain rfl : e = d := by omega
    rw [hdr] at hx hy
    have hd : e < 256 := by omega
    obtain ⟨e8, he8⟩ : ∃ e, (256 - r) % 256 = e := ⟨_, rfl⟩
    refine s_regA TY_ok rfl fun K2 hK2 => ?_
    refine l_ldO TY_ok rfl rfl rfl rfl rfl rfl (obj_fact fun _ h _ => h.1) ?_
    refine l_autoS TY_ok rfl ?_
    refine s_end (hK2 _ ?_)
    refine s_yes rfl ?_
    refine s_skip (hK1 _ ?_)
    refine s_block ?_
    have hb2 := bitT_lt k e
    refine s_regD 8 (by decide) (by kernel_rfl) (by kernel_rfl) fun K3 hK3 G S w0 hst => ?_
    refine g_autoS TY_ok hst rfl ?_
    refine g_callS (F' := fun _ => True) hst [.agg (By k).toArray, .int .u8 (e : Int)] rfl rfl rfl own_tbit rfl rfl (fun _ => rfl) (tbit_S hk e hd) trivial (fun _ _ _ _ => trivial) ?_
    by_cases hb : bitT k e = 0
    · refine g_num 19 0 rfl (by rw [show bitT k e = 0 by omega]; rfl) ?_
      refine g_autoS TY_ok hst rfl ?_
      refine g_opS (.v (.pointer (some ⟨g, 34 + 1 * 0, none⟩))) trivial rfl rfl rfl (runO_ixP 0 rfl Tryd.underlying66 rfl rfl rfl (by decide)) ?_
      refine g_opV hst (.v x.val) trivial rfl rfl rfl (runO_ldB x.val rfl rfl (nd_at x y).1 Tryd.underlying25 rfl (obj_fact fun _ h _ => h.1)) ?_
      refine g_endS hst ?_
      refine l_autoS TY_ok rfl ?_
      refine s_end (hK3 _ ?_)
      refine s_autoE TY_ok rfl ?_
      exact k_next (r, leftT e l, x, e8) ⟨by show r ≤ 256; omega, hx, he8.symm, (sideT hm).1 hb⟩ (Nat.lt_succ_self r) ⟨⟨rfl, congrArg some (congrArg SV.v (congrArg (Value.int .u8) (wrapB2 ⟨hdr.symm, by omega⟩ he8))), rfl, trivial⟩, ⟨rfl, rfl, trivial⟩, .refl _, fun _ h _ => h.2.1, fun _ _ => trivial⟩
    · refine g_num 19 1 rfl (by rw [show bitT k e = 1 by omega]; rfl) ?_
      refine g_autoS TY_ok hst rfl ?_
      refine g_opS (.v (.pointer (some ⟨g, 34 + 1 * 1, none⟩))) trivial rfl rfl rfl (runO_ixP 1 rfl Tryd.underlying66 rfl rfl rfl (by decide)) ?_
      refine g_opV hst (.v y.val) trivial rfl rfl rfl (runO_ldB y.val rfl rfl (nd_at x y).2 Tryd.underlying25 rfl (obj_fact fun _ h _ => h.1)) ?_
      refine g_endS hst ?_
      refine l_autoS TY_ok rfl ?_
      refine s_end (hK3 _ ?_)
      refine s_autoE TY_ok rfl ?_
      exact k_next (r, rightT e l, y, e8) ⟨by show r ≤ 256; omega, hy, he8.symm, (sideT hm).2 hb⟩ (Nat.lt_succ_self r) ⟨⟨rfl, congrArg some (congrArg SV.v (congrArg (Value.int .u8) (wrapB2 ⟨hdr.symm, by omega⟩ he8))), rfl, trivial⟩, ⟨rfl, rfl, trivial⟩, .refl _, fun _ h _ => h.2.2, fun _ _ => trivial⟩
end Go.Proofs.YtlaikmpnijlcbaaDoor
/-
  THE PROGRAM'S TREE: its methods.
-/
namespace Go.Proofs.YtlaikmpnijlcbaaDoor
open Go.RowKit Go.IntWalk Nums

theorem own_tPut : Own 9 := fun _ _ => by go_simp
theorem own_tGet : Own 11 := fun _ _ => by go_simp
theorem own_tRoot : Own 14 := fun _ _ => by go_simp
theorem own_tLen : Own 16 := fun _ _ => by go_simp
theorem own_tLeaf : Own 17 := fun _ _ => by go_simp
theorem own_tSides : Own 18 := fun _ _ => by go_simp
/-- A tree: its top node, its depth. -/
def trPs (t : TA) (d : Nat) : List Pt := [.one (.v t.val), .one (.v (.int .u8 (d : Int)))]
def eTr (t : TA) (d : Nat) : SQ := .p (trPs t d)
theorem val_cells1 (t : TA) : t.val.cells = #[t.val] := by cases t <;> rfl
theorem trPs_ok (t : TA) (d : Nat) : OkP (trPs t d) := fun p hp => by
  rcases List.mem_cons.1 hp with rfl | hp
  · exact ⟨trivial, val_one t, val_cells1 t⟩
  · rw [List.mem_singleton.1 hp]
    exact ⟨trivial, rfl, rfl⟩
set_option maxRecDepth 100000 in
set_option maxHeartbeats 1000000 in
theorem tRoot_S (t : TA) (d : Nat) : Spec 14 [(eTr t d).den] [] (TF t) (one (.q (eY 32 t.root))) := by
  refine spec_S [eTr t d] 6 Tryd.func14 rfl (by rw [Tryd.ntmps14]; rfl) (one_ok (trPs_ok t d)) fun b => ?_
  refine s_auto TY_ok rfl ?_
  refine s_regA TY_ok rfl fun K hK => ?_
  refine l_call0 [t.val] rfl rfl rfl own_thash rfl rfl (fun _ _ => rfl) (thash_S t) (fun _ h _ => h) fun _ => ?_
  refine l_autoS TY_ok rfl ?_
  refine s_end (hK _ ?_)
  exact s_ret (k_ret TY_ok () rfl (by decide) rfl rfl rfl (fun _ _ _ => trivial) (fun _ _ => trivial))
set_option maxRecDepth 100000 in
set_option maxHeartbeats 1000000 in
theorem tLen_S (t : TA) (d : Nat) : Spec 16 [(eTr t d).den] [] (TF t) (one (.v (.int .i64 (t.len : Int)))) := by
  refine spec_S [eTr t d] 6 Tryd.func16 rfl (by rw [Tryd.ntmps16]; rfl) (one_ok (trPs_ok t d)) fun b => ?_
  refine s_auto TY_ok rfl ?_
  refine s_regA TY_ok rfl fun K hK => ?_
  refine l_call0 [t.val] rfl rfl rfl own_tsize rfl rfl (fun _ _ => rfl) (tsize_S t) (fun _ h _ => h) fun _ => ?_
  refine l_autoS TY_ok rfl ?_
  refine s_end (hK _ ?_)
  exact s_ret (k_ret TY_ok () rfl (by decide) rfl rfl rfl (fun _ _ _ => trivial) (fun _ _ => trivial))
set_option maxRecDepth 100000 in
set_option maxHeartbeats 1000000 in
theorem tGet_S (r : Nat) (l : List PairT) (t : TA) {k : List UInt8} (hk : k.length = 32) (hr : r ≤ 256) (ht : TOk r l t) (hs : SortT l) :
    Spec 11 [(eTr t ((256 - r) % 256)).den, (eY 32 k).den] [] (TF t) { ret := fun _ : Unit => retG (getT l k), own := fun _ => [] } := by
  refine spec_S [eTr t ((256 - r) % 256), eY 32 k] 20 Tryd.func11 rfl (by rw [Tryd.ntmps11]; rfl) (two_ok (trPs_ok t _) (eY_ok hk).1) fun b => ?_
  refine s_auto TY_ok rfl ?_
  refine s_regA TY_ok rfl fun K hK => ?_
  refine l_call0 [t.val, .agg (By k).toArray, .int .u8 (((256 - r) % 256 : Nat) : Int)] rfl rfl rfl own_tfind rfl rfl (fun _ _ => rfl) (tfind_S r l t hk hr ht) (fun _ h _ => h) fun ⟨x, hx⟩ => ?_
  cases x with
  | none =>
    refine l_autoS TY_ok rfl ?_
    refine s_end (hK _ ?_)
    refine s_seq fun K2 hK2 => ?_
    refine s_auto TY_ok rfl ?_
    refine s_yes rfl ?_
    refine s_auto TY_ok rfl ?_
    exact s_ret (k_ret TY_ok () rfl (by decide) rfl (congrArg retG (getT_none.2 hx)) rfl (fun _ _ _ => trivial) (fun _ _ => trivial))
  | some x =>
    obtain ⟨h, q⟩ := x
    obtain ⟨hq, rfl⟩ := hx
    refine l_autoS TY_ok rfl ?_
    refine s_end (hK _ ?_)
    refine s_seq fun K2 hK2 => ?_
    refine s_auto TY_ok rfl ?_
    refine s_no rfl ?_
    refine s_skip (hK2 _ ?_)
    refine s_regA TY_ok rfl fun K3 hK3 => ?_
    refine l_ldO TY_ok rfl rfl rfl rfl rfl rfl (obj_fact fun _ h _ => h.1) ?_
    refine l_autoS TY_ok rfl ?_
    refine s_end (hK3 _ ?_)
    exact s_ret (k_ret TY_ok () rfl (by decide) rfl (congrArg retG ((getT_some hs).2 hq)) rfl (fun _ _ _ => trivial) (fun _ _ => trivial))
def retL : TA → RV
  | .leaf _ _ p => .t [eY 32 p.1, eY 32 p.2, .c (.v (.bool true))]
  | _ => .t [eY 32 z32T, eY 32 z32T, .c (.v (.bool false))]
def retSd (d : Nat) : TA → RV
  | .node _ a b => .t [eTr a d, eTr b d, .c (.v (.bool true))]
  | _ => .t [eTr .nil 0, eTr .nil 0, .c (.v (.bool false))]
set_option maxRecDepth 100000 in
set_option maxHeartbeats 1000000 in
theorem tLeaf_S (t : TA) (d : Nat) : Spec 17 [(eTr t d).den] [] (TF t) { ret := fun _ : Unit => retL t, own := fun _ => [] } := by
  refine spec_S [eTr t d] 34 Tryd.func17 rfl (by rw [Tryd.ntmps17]; rfl) (one_ok (trPs_ok t d)) fun b => ?_
  refine s_auto TY_ok rfl ?_
  refine s_seq fun K hK => ?_
  cases t with
  | nil =>
    refine s_auto TY_ok rfl ?_
    refine s_yes rfl ?_
    refine s_auto TY_ok rfl ?_
    exact s_ret (k_ret TY_ok () rfl (by decide) rfl rfl rfl (fun _ _ _ => trivial) (fun _ _ => trivial))
  | leaf g h p =>
    refine s_regA TY_ok rfl fun K2 hK2 => ?_
    refine l_ldO TY_ok rfl rfl rfl rfl rfl rfl (obj_fact fun _ h _ => h.1) ?_
    refine l_autoS TY_ok rfl ?_
    refine s_end (hK2 _ ?_)
    refine s_no rfl ?_
    refine s_skip (hK _ ?_)
    refine s_pure (OkP (lfPs h p) ∧ OkP (prPs p)) (fun w hw _ => ⟨hw.1.2, hw.2.2⟩) fun ⟨ho1, ho2⟩ => ?_
    refine s_locs fun G => ?_
    have hsub : ∀ x ∈ [(⟨1, some (G 1), 27, trPs (.leaf g h p) d⟩ : LV)], x ∈ withG G [⟨3, none, 30, [.agg 32 (By z32T).toArray]⟩, ⟨2, none, 30, [.agg 32 (By z32T).toArray]⟩, ⟨1, none, 27, trPs (.leaf g h p) d⟩] ∧ x.g.isSome = true := fun x hx => by
      rw [List.mem_singleton.1 hx]
      exact ⟨List.mem_cons_of_mem _ (List.mem_cons_of_mem _ List.mem_cons_self), rfl⟩
    refine s_seq fun K3 hK3 => ?_
    refine s_anyP [0, 1, 2, 3, 4, 5, 6, 7, 8, 9, 10, 11, 12, 13, 14, 15] 17 2 (fun w => InvL [⟨1, some (G 1), 27, trPs (.leaf g h p) d⟩] w ∧ TF (.leaf g h p) w) (by kernel_rfl) rfl (inv_two hsub fun _ h _ => h) ?_
    refine p_frontS TY_ok 0 (by kernel_rfl) rfl rfl rfl rfl rfl rfl (fun x hx => (hsub x hx).1) (fun _ h => h.1) ?_
    refine p_frontS TY_ok 1 (by kernel_rfl) rfl rfl rfl rfl rfl rfl (fun x hx => (hsub x hx).1) (fun _ h => h.1) ?_
    refine p_frontS TY_ok 2 (by kernel_rfl) rfl rfl rfl rfl rfl rfl (fun x hx => (hsub x hx).1) (fun _ h => h.1) ?_
    refine p_frontS TY_ok 3 (by kernel_rfl) rfl rfl rfl rfl rfl rfl (fun x hx => (hsub x hx).1) (fun _ h => h.1) ?_
    refine p_ldO TY_ok 4 (by kernel_rfl) rfl rfl rfl rfl rfl rfl rfl ho1 (fun _ h => h.2.1) ?_
    refine p_frontS TY_ok 5 (by kernel_rfl) rfl rfl rfl rfl rfl rfl (fun x hx => (hsub x hx).1) (fun _ h => h.1) ?_
    refine p_frontS TY_ok 6 (by kernel_rfl) rfl rfl rfl rfl rfl rfl (fun x hx => (hsub x hx).1) (fun _ h => h.1) ?_
    refine p_ldO TY_ok 7 (by kernel_rfl) rfl rfl rfl rfl rfl rfl rfl ho2 (fun _ h => h.2.2) ?_
    refine p_frontS TY_ok 8 (by kernel_rfl) rfl rfl rfl rfl rfl rfl (fun x hx => (hsub x hx).1) (fun _ h => h.1) ?_
    refine p_frontS TY_ok 9 (by kernel_rfl) rfl rfl rfl rfl rfl rfl (fun x hx => (hsub x hx).1) (fun _ h => h.1) ?_
    refine p_frontS TY_ok 10 (by kernel_rfl) rfl rfl rfl rfl rfl rfl (fun x hx => (hsub x hx).1) (fun _ h => h.1) ?_
    refine p_frontS TY_ok 11 (by kernel_rfl) rfl rfl rfl rfl rfl rfl (fun x hx => (hsub x hx).1) (fun _ h => h.1) ?_
    refine p_ldO TY_ok 12 (by kernel_rfl) rfl rfl rfl rfl rfl rfl rfl ho1 (fun _ h => h.2.1) ?_
    refine p_frontS TY_ok 13 (by kernel_rfl) rfl rfl rfl rfl rfl rfl (fun x hx => (hsub x hx).1) (fun _ h => h.1) ?_
    refine p_frontS TY_ok 14 (by kernel_rfl) rfl rfl rfl rfl rfl rfl (fun x hx => (hsub x hx).1) (fun _ h => h.1) ?_
    refine p_ldO TY_ok 15 (by kernel_rfl) rfl rfl rfl rfl rfl rfl rfl ho2 (fun _ h => h.2.2) ?_
    refine p_step 16 (by kernel_rfl) rfl fun K4 hK4 => ?_
    refine l_autoS TY_ok rfl ?_
    refine s_end (hK4 _ (inv_two (fun x hx => by
      rw [List.mem_singleton.1 hx]
      exact ⟨List.mem_cons_of_mem _ (List.mem_cons_of_mem _ List.mem_cons_self), rfl⟩) fun _ h _ => h) ?_)
    refine p_tail [17, 18] (by kernel_rfl) rfl ?_
    refine l_autoS TY_ok rfl ?_
    refine s_end (hK3 _ ?_)
    exact s_ret (k_ret TY_ok () rfl (by decide) rfl rfl rfl (fun _ _ _ => trivial) (fun _ _ => trivial))
  | node g x y =>
    refine s_regA TY_ok rfl fun K2 hK2 => ?_
    refine l_ldO TY_ok rfl rfl rfl rfl rfl rfl (obj_fact fun _ h _ => h.1) ?_
    refine l_autoS TY_ok rfl ?_
    refine s_end (hK2 _ ?_)
    refine s_yes rfl ?_
    refine s_auto TY_ok rfl ?_
    exact s_ret (k_ret TY_ok () rfl (by decide) rfl rfl rfl (fun _ _ _ => trivial) (fun _ _ => trivial))
set_option maxRecDepth 100000 in
set_option maxHeartbeats 1000000 in
theorem tSides_S (t : TA) (d d' : Nat) (hd : IntKind.u8.wrap ((d : Int) + 1) = (d' : Int)) : Spec 18 [(eTr t d).den] [] (TF t) { ret := fun _ : Unit => retSd d' t, own := fun _ => [] } := by
  refine spec_S [eTr t d] 36 Tryd.func18 rfl (by rw [Tryd.ntmps18]; rfl) (one_ok (trPs_ok t d)) fun b => ?_
  refine s_auto TY_ok rfl ?_
  refine s_seq fun K hK => ?_
  cases t with
  | nil =>
    refine s_auto TY_ok rfl ?_
    refine s_yes rfl ?_
    refine s_auto TY_ok rfl ?_
    exact s_ret (k_ret TY_ok () rfl (by decide) rfl rfl rfl (fun _ _ _ => trivial) (fun _ _ => trivial))
  | leaf g h p =>
    refine s_regA TY_ok rfl fun K2 hK2 => ?_
    refine l_ldO TY_ok rfl rfl rfl rfl rfl rfl (obj_fact fun _ h _ => h.1) ?_
    refine l_autoS TY_ok rfl ?_
    refine s_end (hK2 _ ?_)
    refine s_yes rfl ?_
    refine s_auto TY_ok rfl ?_
    exact s_ret (k_ret TY_ok () rfl (by decide) rfl rfl rfl (fun _ _ _ => trivial) (fun _ _ => trivial))
  | node g x y =>
    refine s_regA TY_ok rfl fun K2 hK2 => ?_
    refine l_ldO TY_ok rfl rfl rfl rfl rfl rfl (obj_fact fun _ h _ => h.1) ?_
    refine l_autoS TY_ok rfl ?_
    refine s_end (hK2 _ ?_)
    refine s_no rfl ?_
    refine s_skip (hK _ ?_)
    refine s_regA TY_ok rfl fun K4 hK4 => ?_
    refine l_ldO TY_ok rfl rfl rfl rfl rfl rfl (obj_fact fun _ h _ => h.1) ?_
    refine l_autoS TY_ok rfl ?_
    refine s_end (hK4 _ ?_)
    refine s_locs fun G => ?_
    have hsub : ∀ u ∈ ([⟨5, some (G 5), 66, sdPs x y⟩, ⟨1, some (G 1), 27, trPs (.node g x y) d⟩] : List LV), u ∈ withG G [⟨5, none, 66, sdPs x y⟩, ⟨3, none, 27, trPs .nil 0⟩, ⟨2, none, 27, trPs .nil 0⟩, ⟨1, none, 27, trPs (.node g x y) d⟩] ∧ u.g.isSome = true := fun u hu => by
      rcases List.mem_cons.1 hu with rfl | hu
      · exact ⟨List.mem_cons_self, rfl⟩
      · rw [List.mem_singleton.1 hu]
        exact ⟨List.mem_cons_of_mem _ (List.mem_cons_of_mem _ (List.mem_cons_of_mem _ List.mem_cons_self)), rfl⟩
    refine s_seq fun K3 hK3 => ?_
    refine s_anyP [0, 1, 2, 3, 4, 5, 6, 7, 8, 9, 10, 11] 13 2 (InvL [⟨5, some (G 5), 66, sdPs x y⟩, ⟨1, some (G 1), 27, trPs (.node g x y) d⟩]) (by kernel_rfl) rfl (inv_of hsub) ?_
    refine p_frontO (.a 5 (0 + 1 * 0)) trivial 0 (by kernel_rfl) rfl rfl rfl rfl rfl (runO_ixA 0 rfl Tryd.underlying66 rfl rfl rfl (by decide)) ?_
    refine p_frontA (.v x.val) trivial 1 (by kernel_rfl) rfl rfl rfl rfl rfl (fun x hx => (hsub x hx).1) (fun _ h => h) (runO_ldL _ rfl rfl rfl rfl Tryd.underlying25 rfl) ?_
    refine p_frontS TY_ok 2 (by kernel_rfl) rfl rfl rfl rfl rfl rfl (fun x hx => (hsub x hx).1) (fun _ h => h) ?_
    refine p_frontS TY_ok 3 (by kernel_rfl) rfl rfl rfl rfl rfl rfl (fun x hx => (hsub x hx).1) (fun _ h => h) ?_
    refine p_frontS TY_ok 4 (by kernel_rfl) rfl rfl rfl rfl rfl rfl (fun x hx => (hsub x hx).1) (fun _ h => h) ?_
    refine p_frontS TY_ok 5 (by kernel_rfl) rfl rfl rfl rfl rfl rfl (fun x hx => (hsub x hx).1) (fun _ h => h) ?_
    refine p_frontO (.a 5 (0 + 1 * 1)) trivial 6 (by kernel_rfl) rfl rfl rfl rfl rfl (runO_ixA 1 rfl Tryd.underlying66 rfl rfl rfl (by decide)) ?_
    refine p_frontA (.v y.val) trivial 7 (by kernel_rfl) rfl rfl rfl rfl rfl (fun x hx => (hsub x hx).1) (fun _ h => h) (runO_ldL _ rfl rfl rfl rfl Tryd.underlying25 rfl) ?_
    refine p_frontS TY_ok 8 (by kernel_rfl) rfl rfl rfl rfl rfl rfl (fun x hx => (hsub x hx).1) (fun _ h => h) ?_
    refine p_frontS TY_ok 9 (by kernel_rfl) rfl rfl rfl rfl rfl rfl (fun x hx => (hsub x hx).1) (fun _ h => h) ?_
    refine p_frontS TY_ok 10 (by kernel_rfl) rfl rfl rfl rfl rfl rfl (fun x hx => (hsub x hx).1) (fun _ h => h) ?_
    refine p_frontS TY_ok 11 (by kernel_rfl) rfl rfl rfl rfl rfl rfl (fun x hx => (hsub x hx).1) (fun _ h => h) ?_
    refine p_step 12 (by kernel_rfl) rfl fun K5 hK5 => ?_
    refine l_autoS TY_ok rfl ?_
    refine s_end (hK5 _ (inv_of fun u hu => by
      rcases List.mem_cons.1 hu with rfl | hu
      · exact ⟨List.mem_cons_self, rfl⟩
      · rw [List.mem_singleton.1 hu]
        exact ⟨List.mem_cons_of_mem _ (List.mem_cons_of_mem _ (List.mem_cons_of_mem _ List.mem_cons_self)), rfl⟩) ?_)
    refine p_tail [13, 14] (by kernel_rfl) rfl ?_
    refine l_autoS TY_ok rfl ?_
    refine s_end (hK3 _ ?_)
    exact s_ret (k_ret TY_ok () rfl (by decide) rfl (congrArg (fun z : Int => RV.t [.p [.one (.v x.val), .one (.v (.int .u8 z))], .p [.one (.v y.val), .one (.v (.int .u8 z))], .c (.v (.bool true))]) hd.symm) rfl (fun _ _ _ => trivial) (fun _ _ => trivial))
set_option maxRecDepth 100000 in
set_option maxHeartbeats 1000000 in
theorem tPut_S (r : Nat) (l : List PairT) (t : TA) (p : PairT) (hp : OkT2 p) (hr : r ≤ 256) (ht : TOk r l t) (hs : SortT l) (hk : KeysT l) (hsh : SharesT (256 - r) (p :: l)) (hl : l.length + 1 ≤ 1000000) :
    Spec 9 [(eTr t ((256 - r) % 256)).den, (eY 32 p.1).den, (eY 32 p.2).den] [] (fun w => TF t w ∧ Tsh w) { ret := fun x : { t' : TA // TOk r (putT l p) t' } => .q (eTr x.1 ((256 - r) % 256)), own := fun _ => [], p := fun x => TF x.1 } := by
  have hput := fun h => tput_S r l t h p hr ht hs hk hsh hl
  obtain ⟨D, hD⟩ : ∃ D, (256 - r) % 256 = D := ⟨_, rfl⟩
  rw [hD] at hput ⊢
  refine spec_S [eTr t D, eY 32 p.1, eY 32 p.2] 19 Tryd.func9 rfl (by rw [Tryd.ntmps9]; rfl) (more_ok (trPs_ok t _) (two_ok (eY_ok hp.1).1 (eY_ok hp.2).1)) fun b => ?_
  refine s_auto TY_ok rfl ?_
  refine s_locs fun G => ?_
  have hsub : ∀ u ∈ ([⟨5, some (G 5), 30, [.agg 32 (By p.2).toArray]⟩, ⟨4, some (G 4), 30, [.agg 32 (By p.1).toArray]⟩, ⟨3, some (G 3), 27, trPs t D⟩] : List LV), u ∈ withG G [⟨6, none, 27, trPs .nil 0⟩, ⟨5, none, 30, [.agg 32 (By p.2).toArray]⟩, ⟨4, none, 30, [.agg 32 (By p.1).toArray]⟩, ⟨3, none, 27, trPs t D⟩] ∧ u.g.isSome = true := fun u hu => by
    rcases List.mem_cons.1 hu with rfl | hu
    · exact ⟨List.mem_cons_of_mem _ List.mem_cons_self, rfl⟩
    rcases List.mem_cons.1 hu with rfl | hu
    · exact ⟨List.mem_cons_of_mem _ (List.mem_cons_of_mem _ List.mem_cons_self), rfl⟩
    rw [List.mem_singleton.1 hu]
    exact ⟨List.mem_cons_of_mem _ (List.mem_cons_of_mem _ (List.mem_cons_of_mem _ List.mem_cons_self)), rfl⟩
  refine s_seq fun K3 hK3 => ?_
  refine s_anyP [0, 1, 2, 3, 4, 6, 7, 9, 10] 11 2 (InvL [⟨5, some (G 5), 30, [.agg 32 (By p.2).toArray]⟩, ⟨4, some (G 4), 30, [.agg 32 (By p.1).toArray]⟩, ⟨3, some (G 3), 27, trPs t D⟩]) (by kernel_rfl) rfl (inv_of hsub) ?_
  refine p_frontS TY_ok 0 (by kernel_rfl) rfl rfl rfl rfl rfl rfl (fun x hx => (hsub x hx).1) (fun _ h => h) ?_
  refine p_frontS TY_ok 1 (by kernel_rfl) rfl rfl rfl rfl rfl rfl (fun x hx => (hsub x hx).1) (fun _ h => h) ?_
  refine p_frontS TY_ok 2 (by kernel_rfl) rfl rfl rfl rfl rfl rfl (fun x hx => (hsub x hx).1) (fun _ h => h) ?_
  refine p_frontS TY_ok 3 (by kernel_rfl) rfl rfl rfl rfl rfl rfl (fun x hx => (hsub x hx).1) (fun _ h => h) ?_
  refine p_frontS TY_ok 4 (by kernel_rfl) rfl rfl rfl rfl rfl rfl (fun x hx => (hsub x hx).1) (fun _ h => h) ?_
  refine p_frontS TY_ok 6 (by kernel_rfl) rfl rfl rfl rfl rfl rfl (fun x hx => (hsub x hx).1) (fun _ h => h) ?_
  refine p_frontS TY_ok 7 (by kernel_rfl) rfl rfl rfl rfl rfl rfl (fun x hx => (hsub x hx).1) (fun _ h => h) ?_
  refine p_frontS TY_ok 9 (by kernel_rfl) rfl rfl rfl rfl rfl rfl (fun x hx => (hsub x hx).1) (fun _ h => h) ?_
  refine p_frontS TY_ok 10 (by kernel_rfl) rfl rfl rfl rfl rfl rfl (fun x hx => (hsub x hx).1) (fun _ h => h) ?_
  refine p_step 5 (by kernel_rfl) rfl fun K5 hK5 => ?_
  refine l_autoS TY_ok rfl ?_
  refine l_give 12 (E' := [(8, .v t.val), (14, .v (.int .u8 (D : Int))), (17, .v (.int .u8 (D : Int))), (6, .a 6 0)]) rfl ⟨rfl, rfl, rfl, rfl, trivial⟩ fun h => ?_
  refine l_objOut 0 rfl ?_
  refine s_end (hK5 _ (inv_of hsub) ?_)
  refine p_step 8 (by kernel_rfl) rfl fun K6 hK6 => ?_
  refine l_call0 [t.val, .pointer (some ⟨h, 0, none⟩), .int .u8 (D : Int)] rfl rfl rfl own_tput rfl rfl (fun _ _ => rfl) (hput h) (fun _ h _ => ⟨h.2.1, h.1, h.2.2⟩) fun x => ?_
  refine s_end (hK6 _ (inv_of hsub) ?_)
  refine p_tail [11, 12] (by kernel_rfl) rfl ?_
  refine l_autoS TY_ok rfl ?_
  refine s_end (hK3 _ ?_)
  exact s_ret (k_ret TY_ok x rfl (by decide) rfl rfl rfl (fun _ h _ => h.1) (fun _ _ => trivial))
end Go.Proofs.YtlaikmpnijlcbaaDoor
/-
  THE PROGRAM'S TREE: its pairs are told, one behind the other.
-/
namespace Go.Proofs.YtlaikmpnijlcbaaDoor
open Go.RowKit Go.IntWalk Nums

theorem own_twalk : Own 44 := fun _ _ => by go_simp
theorem own_teach : Own 35 := fun _ _ => by go_simp
theorem own_tAll : Own 22 := fun _ _ => by go_simp
theorem own_tAll1 : Own 34 := fun _ _ => by go_simp
theorem own_tAll11 : Own 36 := fun _ _ => by go_simp
/-- All pairs of a tree, as they lie. -/
theorem TOk.all_eq : ∀ {r : Nat} {l : List PairT} {t : TA}, TOk r l t → SortT l → KeysT l → SharesT (256 - r) l → r ≤ 256 → t.all = l
  | _, _, .nil, h, _, _, _, _ => h.nil_inv.symm
  | _, _, .leaf _ _ _, h, _, _, _, _ => h.leaf_inv.symm
  | 0, _, .node _ _ _, h, _, _, _, _ => h.elim
  | r + 1, l, .node _ a b, h, hs, hk, hsh, hr => by
    obtain ⟨_, h2, h3⟩ := h
    have e : 256 - (r + 1) = 255 - r := by omega
    rw [e] at hsh
    have e2 : 255 - r + 1 = 256 - r := by omega
    have hl := hsh.left
    have hr' := hsh.right
    rw [e2] at hl hr'
    show a.all ++ b.all = l
    rw [h2.all_eq (hs.filter _) (hk.filter _) hl (by omega), h3.all_eq (hs.filter _) (hk.filter _) hr' (by omega)]
    exact sides_app (by omega) hs hk hsh
theorem TA.all_len : ∀ t : TA, t.all.length = t.len
  | .nil => rfl
  | .leaf _ _ _ => rfl
  | .node _ a b => by
    show (a.all ++ b.all).length = a.len + b.len
    rw [List.length_append, a.all_len, b.all_len]
set_option maxRecDepth 100000 in
set_option maxHeartbeats 4000000 in
/-- **walk**: over whatever is told. -/
theorem twalk_S {f : FuncId} (hf : Own f) (caps : List Value) (Fc : World → Prop) (JR : Nat → Res) (JX : Res) : ∀ (t : TA) (i : Nat),
    (∀ (j : Nat) (p : PairT) (h : Nat), t.all[j]? = some p → Spec f (.pointer (some ⟨h, 0, none⟩) :: caps) [JR (i + j)] (fun w => ObjF h 64 (prPs p) w ∧ Fc w) (bpost (JR (i + j + 1)) JX)) →
    Spec 44 [t.val, .func (.func f) #[] caps.toArray] [JR i] (fun w => TF t w ∧ Fc w) (bpost (JR (i + t.all.length)) JX) := by
  intro t
  induction t with
  | nil =>
    intro i _
    refine spec_S [.c (.v TA.nil.val), .c (.v (.func (.func f) #[] caps.toArray))] 34 Tryd.func44 rfl (by rw [Tryd.ntmps44]; rfl) (two_ok trivial trivial) fun b => ?_
    refine s_auto TY_ok rfl ?_
    refine s_seq fun K hK => ?_
    refine s_auto TY_ok rfl ?_
    refine s_yes rfl ?_
    refine s_auto TY_ok rfl ?_
    exact s_ret (k_ret TY_ok true rfl (by decide) rfl rfl rfl (fun _ _ _ => trivial) (fun _ _ => trivial))
  | leaf g h p =>
    intro i ht
    have htell := ht 0 p h rfl
    refine spec_S [.c (.v (TA.leaf g h p).val), .c (.v (.func (.func f) #[] caps.toArray))] 34 Tryd.func44 rfl (by rw [Tryd.ntmps44]; rfl) (two_ok trivial trivial) fun b => ?_
    refine s_auto TY_ok rfl ?_
    refine s_seq fun K hK => ?_
    refine s_auto TY_ok rfl ?_
    refine s_no rfl ?_
    refine s_skip (hK _ ?_)
    refine s_seq fun K2 hK2 => ?_
    refine s_regA TY_ok rfl fun K3 hK3 => ?_
    refine l_ldO TY_ok rfl rfl rfl rfl rfl rfl (obj_fact fun _ h _ => h.1.1) ?_
    refine l_autoS TY_ok rfl ?_
    refine s_end (hK3 _ ?_)
    refine s_yes rfl ?_
    refine s_regA TY_ok rfl fun K4 hK4 => ?_
    refine l_ldO TY_ok rfl rfl rfl rfl rfl rfl (obj_fact fun _ h _ => h.1.1) ?_
    refine l_callV (own := [JR (i + 0)]) (R' := []) (.pointer (some ⟨h, 0, none⟩) :: caps) rfl rfl rfl hf rfl rfl rfl (fun _ _ => rfl) htell (fun _ h _ => ⟨h.1.2, h.2⟩) fun t => ?_
    refine l_autoS TY_ok rfl ?_
    refine s_end (hK4 _ ?_)
    exact s_ret (k_ret TY_ok t rfl (by decide) rfl rfl rfl (fun _ _ _ => trivial) (fun _ _ => trivial))
  | node g x y ihx ihy =>
    intro i ht
    have hx := ihx i fun j p h hj => ht j p h (by
      show (x.all ++ y.all)[j]? = _
      rw [List.getElem?_append_left (List.getElem?_eq_some_iff.1 hj).1]
      exact hj)
    have hy := ihy (i + x.all.length) fun j p h hj => by
      have := ht (x.all.length + j) p h (by
        show (x.all ++ y.all)[_]? = _
        rw [List.getElem?_append_right (by omega), Nat.add_sub_cancel_left]
        exact hj)
      rwa [← Nat.add_assoc] at this
    have hlen : (TA.node g x y).all.length = x.all.length + y.all.length := List.length_append
    rw [hlen]
    clear ihx ihy ht hlen
    refine spec_S [.c (.v (TA.node g x y).val), .c (.v (.func (.func f) #[] caps.toArray))] 34 Tryd.func44 rfl (by rw [Tryd.ntmps44]; rfl) (two_ok trivial trivial) fun b => ?_
    refine s_auto TY_ok rfl ?_
    refine s_seq fun K hK => ?_
    refine s_auto TY_ok rfl ?_
    refine s_no rfl ?_
    refine s_skip (hK _ ?_)
    refine s_seq fun K2 hK2 => ?_
    refine s_regA TY_ok rfl fun K3 hK3 => ?_
    refine l_ldO TY_ok rfl rfl rfl rfl rfl rfl (obj_fact fun _ h _ => h.1.1) ?_
    refine l_autoS TY_ok rfl ?_
    refine s_end (hK3 _ ?_)
    refine s_no rfl ?_
    refine s_skip (hK2 _ ?_)
    refine s_regA TY_ok rfl fun K4 hK4 => ?_
    refine l_op (.v (.pointer (some ⟨g, 34 + 1 * 0, none⟩))) trivial rfl rfl rfl (runO_ixP 0 rfl Tryd.underlying66 rfl rfl rfl (by decide)) ?_
    refine l_opV (.v x.val) trivial rfl rfl rfl (runO_ldB x.val rfl rfl (nd_at x y).1 Tryd.underlying25 rfl (obj_fact fun _ h _ => h.1.1)) ?_
    refine l_autoS TY_ok rfl ?_
    refine l_callA (own := [JR i]) (R' := []) [x.val, .func (.func f) #[] caps.toArray] rfl rfl rfl own_twalk rfl rfl (fun _ _ => rfl) hx (fun _ h _ => ⟨h.1.2.1, h.2⟩) fun t => ?_
    cases t with
    | false =>
      refine l_autoS TY_ok rfl ?_
      refine s_end (hK4 _ ?_)
      exact s_ret (k_ret TY_ok false rfl (by decide) rfl rfl rfl (fun _ _ _ => trivial) (fun _ _ => trivial))
    | true =>
      refine l_autoS TY_ok rfl ?_
      refine l_op (.v (.pointer (some ⟨g, 34 + 1 * 1, none⟩))) trivial rfl rfl rfl (runO_ixP 1 rfl Tryd.underlying66 rfl rfl rfl (by decide)) ?_
      refine l_autoS TY_ok rfl ?_
      refine l_opV (.v y.val) trivial rfl rfl rfl (runO_ldB y.val rfl rfl (nd_at x y).2 Tryd.underlying25 rfl (obj_fact fun _ h _ => h.2.1.1)) ?_
      refine l_autoS TY_ok rfl ?_
      refine l_callA (own := [JR (i + x.all.length)]) (R' := []) [y.val, .func (.func f) #[] caps.toArray] rfl rfl rfl own_twalk rfl rfl (fun _ _ => rfl) hy (fun _ h _ => ⟨h.2.1.2.2, h.2.2⟩) fun t => ?_
      refine l_autoS TY_ok rfl ?_
      refine s_end (hK4 _ ?_)
      refine s_ret ?_
      rw [← Nat.add_assoc]
      exact k_ret TY_ok t rfl (by decide) rfl rfl rfl (fun _ _ _ => trivial) (fun _ _ => trivial)
/-- What is told to a loop. -/
def telA (p : PairT) : List Value := [(eY 32 p.1).den, (eY 32 p.2).den]
/-- yield's box. -/
def ylPs (l : Nat) : List Pt := [.one (.v (.func (.yield l) #[] #[]))]
set_option maxRecDepth 100000 in
set_option maxHeartbeats 1000000 in
theorem ttell_S {l g h : Nat} {p : PairT} {r r1 r0 : Res} {Fy : World → Prop} (hy : YSpec l (telA p) Fy r r1 r0) : Spec 36 [.pointer (some ⟨h, 0, none⟩), .pointer (some ⟨g, 0, none⟩)] [r] (fun w => ObjF h 64 (prPs p) w ∧ ObjF g 59 (ylPs l) w ∧ Fy w) (bpost r1 r0) := by
  refine spec_S [.c (.v (.pointer (some ⟨h, 0, none⟩))), .c (.v (.pointer (some ⟨g, 0, none⟩)))] 14 Tryd.func36 rfl (by rw [Tryd.ntmps36]; rfl) (two_ok trivial trivial) fun b => ?_
  refine s_pure (OkT2 p ∧ OkP (prPs p)) (fun w hw _ => ⟨prPs_ok hw.1.2, hw.1.2⟩) fun ⟨hp, hop⟩ => ?_
  refine s_of_r ?_
  refine r_auto rfl TY_ok rfl ?_
  refine r_seq fun K hK => ?_
  refine r_anyP [0, 1, 2, 3, 4, 5, 6, 7, 8] 9 2 (fun w => InvL [] w ∧ ObjF h 64 (prPs p) w ∧ ObjF g 59 (ylPs l) w) (by kernel_rfl) rfl rfl (inv_two (fun _ h => by cases h) fun _ h _ => ⟨h.1, h.2.1⟩) ?_
  refine p_frontI (.v (.func (.yield l) #[] #[])) trivial 0 (by kernel_rfl) rfl rfl rfl rfl rfl (fun G a w ha hw => runO_ldB (L := []) (R := []) (F := fun w => ObjF g 59 (ylPs l) w) (M := fun _ => True) _ rfl rfl rfl Tryd.underlying59 rfl (obj_fact fun _ h _ => h) G (fun _ => False) a w ha ⟨fun _ h => (by cases h), fun _ h => h, hw.2.2, trivial⟩) ?_
  refine p_frontS TY_ok 1 (by kernel_rfl) rfl rfl rfl rfl rfl rfl (fun _ h => by cases h) (fun _ h => h.1) ?_
  refine p_frontS TY_ok 2 (by kernel_rfl) rfl rfl rfl rfl rfl rfl (fun _ h => by cases h) (fun _ h => h.1) ?_
  refine p_frontS TY_ok 3 (by kernel_rfl) rfl rfl rfl rfl rfl rfl (fun _ h => by cases h) (fun _ h => h.1) ?_
  refine p_ldO TY_ok 4 (by kernel_rfl) rfl rfl rfl rfl rfl rfl rfl hop (fun _ h => h.2.1) ?_
  refine p_frontS TY_ok 5 (by kernel_rfl) rfl rfl rfl rfl rfl rfl (fun _ h => by cases h) (fun _ h => h.1) ?_
  refine p_frontS TY_ok 6 (by kernel_rfl) rfl rfl rfl rfl rfl rfl (fun _ h => by cases h) (fun _ h => h.1) ?_
  refine p_frontS TY_ok 7 (by kernel_rfl) rfl rfl rfl rfl rfl rfl (fun _ h => by cases h) (fun _ h => h.1) ?_
  refine p_ldO TY_ok 8 (by kernel_rfl) rfl rfl rfl rfl rfl rfl rfl hop (fun _ h => h.2.1) ?_
  refine p_tailR [9, 10] (by kernel_rfl) rfl ?_
  refine t_yield (telA p) rfl rfl rfl rfl rfl rfl (fun _ => rfl) hy (fun _ h _ => h.2.2) fun t => ?_
  refine t_list rfl ?_
  refine l_autoS TY_ok rfl ?_
  refine s_end (hK _ ?_)
  exact r_ret (k_ret TY_ok t rfl (by decide) rfl rfl rfl (fun _ _ _ => trivial) (fun _ _ => trivial))
/-- Nothing is handed back; all was told, or not. -/
def epost (r1 r0 : Res) : Post Bool := { ret := fun _ => .t [], own := fun t => [bif t then r1 else r0] }
set_option maxRecDepth 100000 in
set_option maxHeartbeats 1000000 in
/-- **each**, from the top. -/
theorem teach_S {f : FuncId} (hf : Own f) (caps : List Value) (Fc : World → Prop) (JR : Nat → Res) (JX : Res) (t : TA)
    (ht : ∀ (j : Nat) (p : PairT) (h : Nat), t.all[j]? = some p → Spec f (.pointer (some ⟨h, 0, none⟩) :: caps) [JR j] (fun w => ObjF h 64 (prPs p) w ∧ Fc w) (bpost (JR (j + 1)) JX)) :
    Spec 35 [(eTr t 0).den, .func (.func f) #[] caps.toArray] [JR 0] (fun w => TF t w ∧ Fc w) (epost (JR t.all.length) JX) := by
  have hw := twalk_S hf caps Fc JR JX t 0 (by simpa using ht)
  rw [Nat.zero_add] at hw
  refine spec_S [eTr t 0, .c (.v (.func (.func f) #[] caps.toArray))] 34 Tryd.func35 rfl (by rw [Tryd.ntmps35]; rfl) (two_ok (trPs_ok t 0) trivial) fun b => ?_
  refine s_auto TY_ok rfl ?_
  refine s_seq fun K hK => ?_
  refine s_auto TY_ok rfl ?_
  refine s_ifD (((0 : Nat) : Int) = 0) rfl (fun _ => ?_) (fun h => absurd rfl h)
  refine s_regA TY_ok rfl fun K2 hK2 => ?_
  refine l_callA (own := [JR 0]) (R' := []) [t.val, .func (.func f) #[] caps.toArray] rfl rfl rfl own_twalk rfl rfl (fun _ _ => rfl) hw (fun _ h _ => h) fun x => ?_
  refine s_end (hK2 _ ?_)
  exact s_ret (k_ret TY_ok x rfl (by decide) rfl rfl rfl (fun _ _ _ => trivial) (fun _ _ => trivial))
set_option maxRecDepth 100000 in
set_option maxHeartbeats 1000000 in
theorem tAll1_S (l gb : Nat) (Fy : World → Prop) (JR : Nat → Res) (JX : Res) (t : TA) (hy : ∀ (j : Nat) (p : PairT), t.all[j]? = some p → YSpec l (telA p) Fy (JR j) (JR (j + 1)) JX) :
    Spec 34 [.func (.yield l) #[] #[], .pointer (some ⟨gb, 0, none⟩)] [JR 0] (fun w => (ObjF gb 27 (trPs t 0) w ∧ TF t w) ∧ Fy w) (epost (JR t.all.length) JX) := by
  refine spec_S [.c (.v (.func (.yield l) #[] #[])), .c (.v (.pointer (some ⟨gb, 0, none⟩)))] 6 Tryd.func34 rfl (by rw [Tryd.ntmps34]; rfl) (two_ok trivial trivial) fun b => ?_
  refine s_regA TY_ok rfl fun K hK => ?_
  refine l_give 2 (E' := [(1, .v (.pointer (some ⟨gb, 0, none⟩)))]) rfl ⟨rfl, trivial⟩ fun g2 => ?_
  refine l_objOut 0 rfl ?_
  refine s_end (hK _ ?_)
  refine s_lit ?_
  refine l_ldO TY_ok rfl rfl rfl rfl rfl rfl (obj_fact fun _ h _ => h.2.1.1) ?_
  refine l_op (.v (.func (.func 36) #[] #[.pointer (some ⟨g2, 0, none⟩)])) trivial rfl rfl rfl (run_makeF rfl rfl (fun _ => rfl)) ?_
  refine l_callA (own := [JR 0]) (R' := []) [(eTr t 0).den, .func (.func 36) #[] #[.pointer (some ⟨g2, 0, none⟩)]] rfl rfl rfl own_teach rfl rfl (fun _ _ => rfl) (teach_S own_tAll11 [.pointer (some ⟨g2, 0, none⟩)] (fun w => ObjF g2 59 (ylPs l) w ∧ Fy w) JR JX t fun j p h hj => ttell_S (hy j p hj)) (fun _ h _ => ⟨h.2.1.2, h.1, h.2.2⟩) fun x => ?_
  refine s_end ?_
  exact k_ret TY_ok x rfl (by decide) rfl rfl rfl (fun _ _ _ => trivial) (fun _ _ => trivial)
set_option maxRecDepth 100000 in
set_option maxHeartbeats 1000000 in
theorem tAll_S (t : TA) (d : Nat) : Spec 22 [(eTr t d).den] [] (fun _ => True) { ret := fun g : Nat => .v (.func (.func 34) #[] #[.pointer (some ⟨g, 0, none⟩)]), own := fun _ => [], p := fun g => ObjF g 27 (trPs t d) } := by
  refine spec_S [eTr t d] 4 Tryd.func22 rfl (by rw [Tryd.ntmps22]; rfl) (one_ok (trPs_ok t d)) fun b => ?_
  refine s_regA TY_ok rfl fun K hK => ?_
  refine l_give 1 (E' := []) rfl trivial fun g => ?_
  refine l_objOut 0 rfl ?_
  refine s_end (hK _ ?_)
  refine s_regA TY_ok rfl fun K2 hK2 => ?_
  refine l_op (.v (.func (.func 34) #[] #[.pointer (some ⟨g, 0, none⟩)])) trivial rfl rfl rfl (run_makeF rfl rfl (fun _ => rfl)) ?_
  refine l_autoS TY_ok rfl ?_
  refine s_end (hK2 _ ?_)
  exact s_ret (k_ret TY_ok g rfl (by decide) rfl rfl rfl (fun _ h _ => h.1) (fun _ _ => trivial))
end Go.Proofs.YtlaikmpnijlcbaaDoor
