/-
  SEVERAL TEXTS IN ONE: CpG, Word, Words, Limb, ElOps, ElSub, ElWhole, ElMul0, ElSteps, ElMul, ElRoot.
-/
import Derived.Test.YtminmeljonbogaaDoorMc
import Derived.Test.YtminmeljonbogaaDoorMb
import Derived.Lib.Mul64
import Derived.StillTailTactics
import Derived.Test.YtminmeljonbogaaDoorMa
/-
  PLAIN NUMBERS: digits of a number; sums of multiples of points. No program is imported.
-/
namespace Nums

def sumD : List Nat → Nat
  | []=>0
  | x :: r=>x + 2 * sumD r
theorem sumD_set : ∀ (d : List Nat) (j v : Nat),j < d.length → sumD (d.set j v) + d[j]! * 2 ^ j = sumD d + v * 2 ^ j
 | [],_,_,h=>by simp at h
 | x :: r,0,v,_=>by
  simp only [List.set_cons_zero,sumD,Nat.pow_zero,Nat.mul_one];have : (x :: r)[0]! = x:=rfl;rw [this]
  omega
 | x :: r,j + 1,v,h=>by
  have ih:=sumD_set r j v (by simpa using h)
  have e : (x :: r)[j + 1]! = r[j]!:=by simp
  rw [e,List.set_cons_succ,sumD,sumD,Nat.pow_succ]
  have e1 : r[j]! * (2 ^ j * 2) = 2 * (r[j]! * 2 ^ j):=by rw [← Nat.mul_assoc,Nat.mul_comm _ 2]
  have e2 : v * (2 ^ j * 2) = 2 * (v * 2 ^ j):=by rw [← Nat.mul_assoc,Nat.mul_comm _ 2]
  rw [e1,e2]
  omega
theorem sumD_zero (n : Nat) : sumD (List.replicate n 0) = 0:=by
 induction n with
 | zero=>rfl
 | succ n ih=>rw [List.replicate_succ,sumD,ih]
theorem sumD_drop {d : List Nat} {j : Nat} (h : j < d.length) : sumD (d.drop j) = d[j]! + 2 * sumD (d.drop (j + 1)):=by
 rw [List.drop_eq_getElem_cons h,sumD,getElem!_pos d j h]

structure DG (N i : Nat) (f : Int) (d : List Nat) : Prop where
  len : d.length = 256
  sum : sumD d = N % 2 ^ i
  hi : ∀ j,i ≤ j → j < 256 → d[j]! = 0
  odd : ∀ j,j < 256 → d[j]! = 0 ∨ (d[j]! % 2 = 1 ∧ d[j]! < 16)
  last : f = -4 ∨ ∃ m : Nat,f = m ∧ m < i ∧ d[m]! < 2 ^ (i - m) ∧ d[m]! % 2 = 1
theorem rep_at (n j : Nat) (h : j < n) : (List.replicate n 0)[j]! = 0:=by
 rw [getElem!_pos _ j (by simpa using h)]
 simp
theorem DG.start (N : Nat) : DG N 0 (-4) (List.replicate 256 0) where
 len:=List.length_replicate
 sum:=by rw [sumD_zero,Nat.pow_zero,Nat.mod_one]
 hi:=fun j _ h=>rep_at 256 j h
 odd:=fun j h=>.inl (rep_at 256 j h)
 last:=.inl rfl
theorem mod_bitN (N i : Nat) : N % 2 ^ (i + 1) = N % 2 ^ i + N / 2 ^ i % 2 * 2 ^ i:=by
 rw [Nat.pow_succ,Nat.mod_mul,Nat.mul_comm (2 ^ i)]
theorem DG.zero {N i : Nat} {f : Int} {d : List Nat} (h : DG N i f d) (hb : N / 2 ^ i % 2 = 0) : DG N (i + 1) f d where
 len:=h.len
 sum:=by rw [h.sum,mod_bitN,hb,Nat.zero_mul,Nat.add_zero]
 hi:=fun j hj=>h.hi j (by omega)
 odd:=h.odd
 last:=h.last.imp id fun ⟨m,h1,h2,h3,h4⟩=>⟨m,h1,by omega,Nat.lt_of_lt_of_le h3 (Nat.pow_le_pow_right (by decide) (by omega)),h4⟩
theorem set_at {d : List Nat} {j v : Nat} (h : j < d.length) : (d.set j v)[j]! = v:=by
 rw [getElem!_pos _ j (by simpa using h)]
 simp
theorem set_ne {d : List Nat} {j k v : Nat} (h : j ≠ k) : (d.set j v)[k]! = d[k]!:=by
 simp only [List.getElem!_eq_getElem?_getD,List.getElem?_set_ne h]
theorem DG.fresh {N i : Nat} {f : Int} {d : List Nat} (h : DG N i f d) (hi : i < 256) (hb : N / 2 ^ i % 2 = 1) : DG N (i + 1) i (d.set i 1) where
 len:=by rw [List.length_set,h.len]
 sum:=by
  have h1:=sumD_set d i 1 (by rw [h.len]; exact hi);rw [h.hi i (Nat.le_refl _) hi,h.sum] at h1;rw [mod_bitN,hb]
  omega
 hi:=fun j hj hj2=>by rw [set_ne (by omega)]; exact h.hi j (by omega) hj2
 odd:=fun j hj=>by
  by_cases e : i = j
  ·subst e
   rw [set_at (by rw [h.len]; exact hi)];exact .inr ⟨by decide,by decide⟩
  ·rw [set_ne e]
   exact h.odd j hj
 last:=.inr ⟨i,rfl,by omega,by rw [set_at (by rw [h.len]; exact hi),show i + 1 - i = 1 from by omega]; decide,by rw [set_at (by rw [h.len]; exact hi)]⟩
theorem DG.more {N i m : Nat} {d : List Nat} (h : DG N i m d) (hi : i < 256) (hb : N / 2 ^ i % 2 = 1) (hm : i < m + 4) : m < i ∧ d[m]! < 2 ^ (i - m) ∧ DG N (i + 1) m (d.set m (d[m]! + 2 ^ (i - m))):=by
 obtain ⟨m',h1,h2,h3,h4⟩ : ∃ m' : Nat,(m : Int) = m' ∧ m' < i ∧ d[m']! < 2 ^ (i - m') ∧ d[m']! % 2 = 1:=by
  rcases h.last with h1 | h1
  ·omega
  ·exact h1
 obtain rfl : m = m':=by omega
 have hml : m < d.length:=by rw [h.len]; omega
 have hpe : 2 ^ (i + 1 - m) = 2 ^ (i - m) * 2:=by rw [show i + 1 - m = i - m + 1 from by omega,Nat.pow_succ]
 have hk : i - m = 1 ∨ i - m = 2 ∨ i - m = 3:=by omega
 have hpow : 2 ^ (i - m) * 2 ≤ 16 ∧ 2 ^ (i - m) % 2 = 0:=by rcases hk with e | e | e <;> rw [e] <;> decide
 refine ⟨h2,h3,⟨by rw [List.length_set,h.len],?_,fun j hj hj2=>?_,fun j hj=>?_,.inr ⟨m,rfl,by omega,?_,?_⟩⟩⟩
 ·have e1:=sumD_set d m (d[m]! + 2 ^ (i - m)) hml
  have e2 : 2 ^ (i - m) * 2 ^ m = 2 ^ i:=by rw [← Nat.pow_add]; congr 1; omega
  rw [Nat.add_mul,e2,h.sum] at e1;rw [mod_bitN,hb]
  omega
 ·rw [set_ne (by omega)]
  exact h.hi j (by omega) hj2
 ·by_cases e : m = j
  ·subst e
   rw [set_at hml];exact .inr ⟨by omega,by omega⟩
  ·rw [set_ne e]
   exact h.odd j hj
 ·rw [set_at hml,hpe]
  omega
 ·rw [set_at hml]
  omega

/-! ### Sums of multiples -/
namespace Ed
variable {n : Nat} [NeZero n] {d : Fin n}
def tot (d : Fin n) : List (Pt n) → Nat → (Nat → Nat) → Pt n
  | [],_,_=>zero
  | A :: ps,i,f=>add d (mul d (f i) A) (tot d ps (i + 1) f)
theorem on_tot (g : Good n d) : ∀ {ps : List (Pt n)},(∀ A ∈ ps,On d A) → ∀ i f,On d (tot d ps i f)
 | [],_,_,_=>on_zero
 | A :: ps,h,i,f=>on_add g (on_mul g (h A (by simp)) _) (on_tot g (fun B hB=>h B (by simp [hB])) (i + 1) f)
theorem tot_congr : ∀ {ps : List (Pt n)} {i : Nat} {f f' : Nat → Nat},(∀ j,i ≤ j → j < i + ps.length → f j = f' j) → tot d ps i f = tot d ps i f'
 | [],_,_,_,_=>rfl
 | A :: ps,i,f,f',h=>by
  rw [tot,tot,h i (Nat.le_refl _) (by simp),tot_congr (i:=i + 1) (f:=f) (f':=f') fun j h1 h2=>h j (by omega) (by simp; omega)]
theorem tot_zero (g : Good n d) : ∀ {ps : List (Pt n)} {i : Nat} {f : Nat → Nat},(∀ j,i ≤ j → j < i + ps.length → f j = 0) → tot d ps i f = zero
 | [],_,_,_=>rfl
 | A :: ps,i,f,h=>by
  rw [tot,h i (Nat.le_refl _) (by simp),mul_0,zero_add g,tot_zero g fun j h1 h2=>h j (by omega) (by simp; omega)]
theorem tot_dbl (g : Good n d) : ∀ {ps : List (Pt n)},(∀ A ∈ ps,On d A) → ∀ (i : Nat) (f : Nat → Nat),tot d ps i (fun j=>2 * f j) = add d (tot d ps i f) (tot d ps i f)
 | [],_,_,_=>(zero_add g zero).symm
 | A :: ps,h,i,f=>by
  have hA:=h A (by simp);have hs : ∀ B ∈ ps,On d B:=fun B hB=>h B (by simp [hB]);rw [tot,tot,tot_dbl g hs (i + 1) f,Nat.two_mul,mul_add g hA,add_swap g (on_mul g hA _) (on_mul g hA _) (on_tot g hs _ _) (on_tot g hs _ _)]
theorem tot_more (g : Good n d) : ∀ {ps : List (Pt n)},(∀ A ∈ ps,On d A) → ∀ (i j v : Nat) (f f' : Nat → Nat) (A : Pt n),ps[j]? = some A → f' (i + j) = f (i + j) + v → (∀ k,k ≠ i + j → f' k = f k) →
  tot d ps i f' = add d (tot d ps i f) (mul d v A)
 | [],_,_,_,_,_,_,A,hj,_,_=>by simp at hj
 | B :: ps,h,i,0,v,f,f',A,hj,h1,h2=>by
  simp only [List.getElem?_cons_zero,Option.some.injEq] at hj;subst hj;have hB:=h B (by simp);have hs : ∀ B ∈ ps,On d B:=fun B hB=>h B (by simp [hB]);rw [tot,tot,tot_congr (ps:=ps) (i:=i + 1) (f:=f') (f':=f) fun k h3 _=>h2 k (by omega)];rw [Nat.add_zero] at h1;rw [h1,mul_add g hB,add_assoc g (on_mul g hB _) (on_mul g hB _) (on_tot g hs _ _),add_assoc g (on_mul g hB _) (on_tot g hs _ _) (on_mul g hB _),add_comm (mul d v B)]
 | B :: ps,h,i,j + 1,v,f,f',A,hj,h1,h2=>by
  have hB:=h B (by simp);have hs : ∀ B ∈ ps,On d B:=fun B hB=>h B (by simp [hB]);have hA : On d A:=hs A (List.mem_of_getElem? (by simpa using hj))
  rw [tot,tot,tot_more g hs (i + 1) j v f f' A (by simpa using hj) (by rw [Nat.add_right_comm,Nat.add_assoc]; exact h1) (fun k hk=>h2 k (by omega)),h2 i (by omega),
   add_assoc g (on_mul g hB _) (on_tot g hs _ _) (on_mul g hA _)]
end Ed
end Nums
/-
  WORDS OF 64 BITS: the library's Mul64 and Add64.
-/
namespace Go.Proofs.YtminmeljonbogaaDoor
open Go.RowKit Go.IntWalk

set_option maxHeartbeats 1000000 in
theorem mul64_any (x y : Nat) (hx : x < 18446744073709551616) (hy : y < 18446744073709551616) (w : World) :
  Calls Tryd.prog 105 #[.int .u64 x,.int .u64 y] w fun e w'=>e = .returned (.tuple #[.int .u64 ((x * y / 18446744073709551616 : Nat) : Int),.int .u64 ((x * y % 18446744073709551616 : Nat) : Int)]) ∧ w' = w:=by
 obtain ⟨bd,bt,bw,hhi⟩:=Lib.mul64_hi x y hx hy;have ba:=Lib.half_mul_le (a:=x / 4294967296) (b:=y / 4294967296) (by omega) (by omega);have bb:=Lib.half_mul_le (a:=x / 4294967296) (b:=y % 4294967296) (by omega) (by omega);have bc:=Lib.half_mul_le (a:=x % 4294967296) (b:=y / 4294967296) (by omega) (by omega)
 have ba' : x / 4294967296 * (y / 4294967296) < 18446744073709551616:=by omega
 have bb' : x / 4294967296 * (y % 4294967296) < 18446744073709551616:=by omega
 have bc' : x % 4294967296 * (y / 4294967296) < 18446744073709551616:=by omega
 have bh1 : x / 4294967296 * (y / 4294967296) + (x / 4294967296 * (y % 4294967296) + x % 4294967296 * (y % 4294967296) / 4294967296) / 4294967296 < 18446744073709551616:=by omega
 have bh : x / 4294967296 * (y / 4294967296) + (x / 4294967296 * (y % 4294967296) + x % 4294967296 * (y % 4294967296) / 4294967296) / 4294967296 + ((x / 4294967296 * (y % 4294967296) + x % 4294967296 * (y % 4294967296) / 4294967296) % 4294967296 + x % 4294967296 * (y / 4294967296)) / 4294967296 < 18446744073709551616:=by omega
 go_enter Tryd.func105,Tryd.ntmps105
 go_wp2
 simp only [mask32 x hx,mask32 y hy,div32,mulN,addN,wrapN _ bd,wrapN _ bb',wrapN _ bt,mask32 _ bt,wrapN _ bc',wrapN _ bw,wrapN _ ba',wrapN _ bh1,wrapN _ bh,wrapM (x * y)];rw [hhi]
 go_ret2
 exact ⟨rfl,rfl⟩

theorem add64_run (x y c : Nat) (hc : c ≤ 1) (w : World) : (callFunc 104 #[.int .u64 x,.int .u64 y,.int .u64 c]).run Tryd.prog w =
  .ok (.value (.tuple #[.int .u64 (((x + y + c) % 18446744073709551616 : Nat) : Int),.int .u64 (((x + y + c) / 18446744073709551616 : Nat) : Int)])) w:=by
 rw [run_callFunc_extern Tryd.func104 (by kernel_rfl) (by kernel_rfl) (by kernel_rfl) (e:=add64Entry) (by kernel_rfl),run_add64 x y c (by omega) (by omega) (by omega) (by omega)];simp only [Result.andThen]
 congr 5 <;> omega
theorem add64_int (x y c : Int) (hx : 0 ≤ x) (hy : 0 ≤ y) (hc0 : 0 ≤ c) (hc : c ≤ 1) (w : World) : (callFunc 104 #[.int .u64 x,.int .u64 y,.int .u64 c]).run Tryd.prog w =
  .ok (.value (.tuple #[.int .u64 ((x + y + c) % 18446744073709551616),.int .u64 ((x + y + c) / 18446744073709551616)])) w:=by
 obtain ⟨x,rfl⟩:=Int.eq_ofNat_of_zero_le hx;obtain ⟨y,rfl⟩:=Int.eq_ofNat_of_zero_le hy;obtain ⟨c,rfl⟩:=Int.eq_ofNat_of_zero_le hc0;refine (add64_run x y c (by omega) w).trans ?_
 congr 5 <;> omega
theorem add64_int0 (x y : Int) (hx : 0 ≤ x) (hy : 0 ≤ y) (w : World) : (callFunc 104 #[.int .u64 x,.int .u64 y,.int .u64 0]).run Tryd.prog w =
  .ok (.value (.tuple #[.int .u64 ((x + y) % 18446744073709551616),.int .u64 ((x + y) / 18446744073709551616)])) w:=by
 simpa using add64_int x y 0 hx hy (Int.le_refl 0) (by decide) w

end Go.Proofs.YtminmeljonbogaaDoor
/-
  WORDS OF 64 BITS: the field's sums of two words: low, high, plus.
-/
namespace Go.Proofs.YtminmeljonbogaaDoor
open Go.RowKit Go.IntWalk

theorem size_sum (cs : Array Value) (h : cs.size = 2) : (Tryd.prog.info? 158).map (·.size) = some cs.size:=by
 rw [h]
 kernel_rfl

theorem low_any (hi lo : Nat) (hl : lo < 18446744073709551616) (w : World) :
  Calls Tryd.prog 114 #[.agg (Us [hi,lo]).toArray] w fun e w'=>e = .returned (.int .u64 ((lo % 2251799813685248 : Nat) : Int)) ∧ Below w.heap.size w w':=by
 have e0 : (Us [hi,lo]).toArray = #[.int .u64 (hi : Int),.int .u64 (lo : Int)]:=rfl;rw [e0]
 go_enter Tryd.func114,Tryd.ntmps114
 go_wp2
 rw [maskW lo hl]
 go_ret
 exact ⟨rfl,(Below.refl _ _).alloc (Nat.le_refl _) _⟩

theorem high_any (hi lo : Nat) (hh : hi < 2251799813685248) (hl : lo < 18446744073709551616) (w : World) :
  Calls Tryd.prog 115 #[.agg (Us [hi,lo]).toArray] w fun e w'=>e = .returned (.int .u64 ((hi * 8192 + lo / 2251799813685248 : Nat) : Int)) ∧ Below w.heap.size w w':=by
 have e0 : (Us [hi,lo]).toArray = #[.int .u64 (hi : Int),.int .u64 (lo : Int)]:=rfl;rw [e0]
 go_enter Tryd.func115,Tryd.ntmps115
 go_wp2
 have e1 : (hi : Int) * 8192 = ((hi * 8192 : Nat) : Int):=by omega
 rw [e1,div51,orW 13 (hi * 8192) (lo / 2251799813685248) (by omega) (by omega) (by omega) (by omega)]
 go_ret
 exact ⟨rfl,(Below.refl _ _).alloc (Nat.le_refl _) _⟩

set_option maxHeartbeats 1000000 in
theorem plus_any (hi lo a b : Nat) (hh : hi < 18446744073709551616) (hl : lo < 18446744073709551616) (ha : a < 18446744073709551616) (hb : b < 18446744073709551616) (w : World) :
  Calls Tryd.prog 113 #[.agg (Us [hi,lo]).toArray,.int .u64 a,.int .u64 b] w fun e w' =>
   e = .returned (.agg (Us [(hi + a * b / 18446744073709551616 + (lo + a * b % 18446744073709551616) / 18446744073709551616) % 18446744073709551616,(lo + a * b % 18446744073709551616) % 18446744073709551616]).toArray) ∧ Below w.heap.size w w':=by
 have e0 : (Us [hi,lo]).toArray = #[.int .u64 (hi : Int),.int .u64 (lo : Int)]:=rfl;rw [e0];have HM:=fun w1=>Lib.hid (mul64_any a b ha hb w1);generalize a * b / 18446744073709551616 = mh at *;generalize hml : a * b % 18446744073709551616 = ml at *
 have hml : ml < 18446744073709551616:=by omega
 have hc1 : ((lo : Int) + (ml : Int)) / 18446744073709551616 ≤ 1:=by omega
 have hc0 : (0 : Int) ≤ ((lo : Int) + (ml : Int)) / 18446744073709551616:=by omega
 go_enter Tryd.func113,Tryd.ntmps113
 go_wp2_with (fail)
 refine (HM _).out.mono ?_
 rintro e w1 ⟨rfl,rfl⟩
 go_wp2_with (first | simp only [add64_int0 lo ml (by omega) (by omega)] | simp only [add64_int hi mh _ (by omega) (by omega) hc0 hc1])
 refine bodyPost_ret (results_cell_row rfl _ _ (w.heap.size + 1) 158 _ (0,0) _ rfl (heap_alloc2_new w _ _) Tryd.underlying158 rfl (size_sum _ rfl)) rfl ⟨?_,((Below.refl _ _).alloc (Nat.le_refl _) _).alloc (by simp) _⟩
 rfl
end Go.Proofs.YtminmeljonbogaaDoor
/-
  PLAIN NUMBERS: five limbs of 51 bits as numbers modulo p: carries, sums, differences, products, the number below p. No program is imported.
-/
namespace Nums

def lv : List Nat → Nat
  | []=>0
  | d :: ds=>d + 2251799813685248 * lv ds

theorem lv5 (a0 a1 a2 a3 a4 : Nat) : lv [a0,a1,a2,a3,a4] = a0 + 2251799813685248 * (a1 + 2251799813685248 * (a2 + 2251799813685248 * (a3 + 2251799813685248 * a4))):=by
 simp only [lv,Nat.mul_zero,Nat.add_zero]

structure EB (l : List Nat) (x : F) : Prop where
  len : l.length = 5
  bnd : ∀ y ∈ l,y < 2251799813947392
  val : fof (lv l) = x

theorem five {l : List Nat} (h : l.length = 5) : ∃ a0 a1 a2 a3 a4,l = [a0,a1,a2,a3,a4]:=by
 match l,h with
 | [a0,a1,a2,a3,a4],_=>exact ⟨a0,a1,a2,a3,a4,rfl⟩

theorem EB.five {l : List Nat} {x : F} (h : EB l x) : ∃ a0 a1 a2 a3 a4,l = [a0,a1,a2,a3,a4] ∧ a0 < 2251799813947392 ∧ a1 < 2251799813947392 ∧ a2 < 2251799813947392 ∧ a3 < 2251799813947392 ∧ a4 < 2251799813947392 ∧ fof (lv [a0,a1,a2,a3,a4]) = x:=by
 obtain ⟨a0,a1,a2,a3,a4,rfl⟩:=Nums.five h.len;have hb:=h.bnd;exact ⟨a0,a1,a2,a3,a4,rfl,hb _ (by simp),hb _ (by simp),hb _ (by simp),hb _ (by simp),hb _ (by simp),h.val⟩

theorem EB.mk5 {a0 a1 a2 a3 a4 : Nat} {x : F} (h0 : a0 < 2251799813947392) (h1 : a1 < 2251799813947392) (h2 : a2 < 2251799813947392) (h3 : a3 < 2251799813947392) (h4 : a4 < 2251799813947392) (h : fof (lv [a0,a1,a2,a3,a4]) = x) :
  EB [a0,a1,a2,a3,a4] x:=by
 refine ⟨rfl,?_,h⟩
 intro y hy
 simp only [List.mem_cons,List.not_mem_nil,or_false] at hy
 rcases hy with rfl | rfl | rfl | rfl | rfl <;> assumption

theorem p_eq : p = 57896044618658097711785492504343953926634992332820282019728792003956564819949:=by decide

def crd (a0 a1 a2 a3 a4 : Nat) : List Nat :=
  [a0 % 2251799813685248 + 19 * (a4 / 2251799813685248),a1 % 2251799813685248 + a0 / 2251799813685248,a2 % 2251799813685248 + a1 / 2251799813685248,a3 % 2251799813685248 + a2 / 2251799813685248,a4 % 2251799813685248 + a3 / 2251799813685248]

theorem fof_p (a k : Nat) : fof (a + p * k) = fof a:=fof_eq (by rw [Nat.add_mul_mod_self_left])

theorem crd_lv (a0 a1 a2 a3 a4 : Nat) : fof (lv (crd a0 a1 a2 a3 a4)) = fof (lv [a0,a1,a2,a3,a4]):=by
 have h : lv (crd a0 a1 a2 a3 a4) + p * (a4 / 2251799813685248) = lv [a0,a1,a2,a3,a4]:=by
  unfold crd
  rw [lv5,lv5,p_eq]
  omega
 rw [← h,fof_p]

theorem crd_eb {a0 a1 a2 a3 a4 : Nat} (h0 : a0 < 18446744073709551616) (h1 : a1 < 18446744073709551616) (h2 : a2 < 18446744073709551616) (h3 : a3 < 18446744073709551616) (h4 : a4 < 18446744073709551616) :
  EB (crd a0 a1 a2 a3 a4) (fof (lv [a0,a1,a2,a3,a4])) :=
 EB.mk5 (by omega) (by omega) (by omega) (by omega) (by omega) (crd_lv a0 a1 a2 a3 a4)

theorem add_lv (a0 a1 a2 a3 a4 b0 b1 b2 b3 b4 : Nat) : lv [a0 + b0,a1 + b1,a2 + b2,a3 + b3,a4 + b4] = lv [a0,a1,a2,a3,a4] + lv [b0,b1,b2,b3,b4]:=by
 rw [lv5,lv5,lv5]
 omega

theorem sub_lv {a0 a1 a2 a3 a4 b0 b1 b2 b3 b4 : Nat} (h0 : b0 < 2251799813947392) (h1 : b1 < 2251799813947392) (h2 : b2 < 2251799813947392) (h3 : b3 < 2251799813947392) (h4 : b4 < 2251799813947392) :
  fof (lv [a0 + (4503599627370458 - b0),a1 + (4503599627370494 - b1),a2 + (4503599627370494 - b2),a3 + (4503599627370494 - b3),a4 + (4503599627370494 - b4)]) = fof (lv [a0,a1,a2,a3,a4]) - fof (lv [b0,b1,b2,b3,b4]):=by
 have h : lv [a0 + (4503599627370458 - b0),a1 + (4503599627370494 - b1),a2 + (4503599627370494 - b2),a3 + (4503599627370494 - b3),a4 + (4503599627370494 - b4)] + lv [b0,b1,b2,b3,b4] = lv [a0,a1,a2,a3,a4] + p * 2:=by
  rw [lv5,lv5,lv5,p_eq]
  omega
 have h2 : fof (lv [a0,a1,a2,a3,a4]) = fof (lv [a0 + (4503599627370458 - b0),a1 + (4503599627370494 - b1),a2 + (4503599627370494 - b2),a3 + (4503599627370494 - b3),a4 + (4503599627370494 - b4)]) + fof (lv [b0,b1,b2,b3,b4]):=by
  rw [← fof_add,h,fof_p]
 rw [h2];generalize fof (lv [a0 + (4503599627370458 - b0),a1 + (4503599627370494 - b1),a2 + (4503599627370494 - b2),a3 + (4503599627370494 - b3),a4 + (4503599627370494 - b4)]) = u;generalize fof (lv [b0,b1,b2,b3,b4]) = v
 grind only

theorem turn_lv (c0 c1 c2 c3 c4 : Nat) : fof (lv [19 * c4,c0,c1,c2,c3]) = fof 2251799813685248 * fof (lv [c0,c1,c2,c3,c4]):=by
 have h : lv [19 * c4,c0,c1,c2,c3] + p * c4 = 2251799813685248 * lv [c0,c1,c2,c3,c4]:=by
  rw [lv5,lv5,p_eq]
  omega
 rw [← fof_mul,← h,fof_p]

theorem more_lv (s0 s1 s2 s3 s4 v c0 c1 c2 c3 c4 : Nat) : lv [s0 + v * c0,s1 + v * c1,s2 + v * c2,s3 + v * c3,s4 + v * c4] = lv [s0,s1,s2,s3,s4] + v * lv [c0,c1,c2,c3,c4]:=by
 rw [lv5,lv5,lv5]
 grind only

/-! ### The number below p -/
def up1 (l : List Nat) (u : Nat) : Nat → Nat
  | 0=>u
  | k + 1=>(l[k]! + up1 l u k) / 2251799813685248

def up2 (l : List Nat) (u : Nat) : Nat → Nat
  | 0=>u
  | k + 1=>(up2 l u k + l[k]!) / 2251799813685248

def whs (l : List Nat) (u k : Nat) : List Nat:=(List.range 5).map fun j=>if j < k then (up2 l u j + l[j]!) % 2251799813685248 else l[j]!
def whole (l : List Nat) : List Nat:=whs l (up1 l 19 5 * 19) 5

theorem whole_all {l : List Nat} {x : F} (h : EB l x) : (whole l).length = 5 ∧ (∀ y ∈ whole l,y < 2251799813685248) ∧ lv (whole l) = x.val:=by
 refine ⟨by simp [whole,whs],?_,?_⟩
 ·intro y hy
  obtain ⟨j,hj,rfl⟩:=List.mem_map.1 hy;rw [if_pos (by simpa using hj)];exact Nat.mod_lt _ (by decide)
 ·obtain ⟨a0,a1,a2,a3,a4,rfl,h0,h1,h2,h3,h4,hv⟩:=h.five
  have hw : whole [a0,a1,a2,a3,a4] = [(up2 [a0,a1,a2,a3,a4] (up1 [a0,a1,a2,a3,a4] 19 5 * 19) 0 + a0) % 2251799813685248,(up2 [a0,a1,a2,a3,a4] (up1 [a0,a1,a2,a3,a4] 19 5 * 19) 1 + a1) % 2251799813685248,(up2 [a0,a1,a2,a3,a4] (up1 [a0,a1,a2,a3,a4] 19 5 * 19) 2 + a2) % 2251799813685248,(up2 [a0,a1,a2,a3,a4] (up1 [a0,a1,a2,a3,a4] 19 5 * 19) 3 + a3) % 2251799813685248,(up2 [a0,a1,a2,a3,a4] (up1 [a0,a1,a2,a3,a4] 19 5 * 19) 4 + a4) % 2251799813685248]:=rfl;have hu : up1 [a0,a1,a2,a3,a4] 19 5 = (a4 + (a3 + (a2 + (a1 + (a0 + 19) / 2251799813685248) / 2251799813685248) / 2251799813685248) / 2251799813685248) / 2251799813685248:=rfl;rw [← hv,fof_val,hw];generalize hq : up1 [a0,a1,a2,a3,a4] 19 5 = q at *;have g0 : up2 [a0,a1,a2,a3,a4] (q * 19) 0 = q * 19:=rfl;have g1 : up2 [a0,a1,a2,a3,a4] (q * 19) 1 = (up2 [a0,a1,a2,a3,a4] (q * 19) 0 + a0) / 2251799813685248:=rfl;have g2 : up2 [a0,a1,a2,a3,a4] (q * 19) 2 = (up2 [a0,a1,a2,a3,a4] (q * 19) 1 + a1) / 2251799813685248:=rfl;have g3 : up2 [a0,a1,a2,a3,a4] (q * 19) 3 = (up2 [a0,a1,a2,a3,a4] (q * 19) 2 + a2) / 2251799813685248:=rfl;have g4 : up2 [a0,a1,a2,a3,a4] (q * 19) 4 = (up2 [a0,a1,a2,a3,a4] (q * 19) 3 + a3) / 2251799813685248:=rfl;generalize up2 [a0,a1,a2,a3,a4] (q * 19) 0 = e0 at *;generalize up2 [a0,a1,a2,a3,a4] (q * 19) 1 = e1 at *;generalize up2 [a0,a1,a2,a3,a4] (q * 19) 2 = e2 at *;generalize up2 [a0,a1,a2,a3,a4] (q * 19) 3 = e3 at *;generalize up2 [a0,a1,a2,a3,a4] (q * 19) 4 = e4 at *;have hL:=lv5 a0 a1 a2 a3 a4;generalize lv [a0,a1,a2,a3,a4] = L at *;rw [lv5];have hp:=p_eq;generalize p = P at *
  have ha : q < 2:=by omega
  have hb : q = 0 → L < P:=by omega
  have hc : q = 1 → P ≤ L:=by omega
  have hd : L < 2 * P:=by omega
  rcases (show q = 0 ∨ q = 1 by omega) with rfl | rfl
  ·rw [Nat.mod_eq_of_lt (hb rfl)]
   clear hu hc hd hv;have:=hb rfl
   omega
  ·have hge:=hc rfl
   have hm : L % P = L - P:=by rw [Nat.mod_eq_sub_mod hge,Nat.mod_eq_of_lt (by omega)]
   rw [hm];clear hu hb hv hm
   omega

end Nums
/-
  THE FIELD'S NUMBERS: carried, Add, Sub, Small.
-/
namespace Go.Proofs.YtminmeljonbogaaDoor
open Go.RowKit Go.IntWalk Nums

theorem size_el (cs : Array Value) (h : cs.size = 5) : (Tryd.prog.info? 77).map (·.size) = some cs.size:=by
 rw [h]
 kernel_rfl
def z5 : Array Value:=(Us [0,0,0,0,0]).toArray
theorem len_us {l : List Nat} (h : l.length = 5) : (Us l).toArray.size = 5:=by rw [List.size_toArray,Us_len,h]

theorem crd_cell0 (a c : Nat) (ha : a < 18446744073709551616) (hc : c < 18446744073709551616) :
  IntKind.u64.wrap (bits .and .u64 (a : Int) 2251799813685247 + 19 * ((c : Int) / 2251799813685248)) = ((a % 2251799813685248 + 19 * (c / 2251799813685248) : Nat) : Int):=by
 rw [maskW a ha,IntKind.wrap_u64]
 omega
theorem crd_cell (a c : Nat) (ha : a < 18446744073709551616) (hc : c < 18446744073709551616) :
  IntKind.u64.wrap (bits .and .u64 (a : Int) 2251799813685247 + (c : Int) / 2251799813685248) = ((a % 2251799813685248 + c / 2251799813685248 : Nat) : Int):=by
 rw [maskW a ha,IntKind.wrap_u64]
 omega

set_option maxRecDepth 100000 in
set_option maxHeartbeats 1000000 in
theorem carried_f (a0 a1 a2 a3 a4 : Nat) (h0 : a0 < 18446744073709551616) (h1 : a1 < 18446744073709551616) (h2 : a2 < 18446744073709551616) (h3 : a3 < 18446744073709551616) (h4 : a4 < 18446744073709551616) (w : World) :
  Calls Tryd.prog 116 #[.agg (Us [a0,a1,a2,a3,a4]).toArray] w fun e w'=>e = .returned (.agg (Us (crd a0 a1 a2 a3 a4)).toArray) ∧ Below w.heap.size w w':=by
 have e0 : (Us [a0,a1,a2,a3,a4]).toArray = #[.int .u64 (a0 : Int),.int .u64 (a1 : Int),.int .u64 (a2 : Int),.int .u64 (a3 : Int),.int .u64 (a4 : Int)]:=rfl;rw [e0]
 go_enter Tryd.func116,Tryd.ntmps116
 go_wp2
 rw [crd_cell0 a0 a4 h0 h4,crd_cell a1 a0 h1 h0,crd_cell a2 a1 h2 h1,crd_cell a3 a2 h3 h2,crd_cell a4 a3 h4 h3];refine bodyPost_ret (results_cell_row rfl _ _ (w.heap.size + 1) 77 _ (0,0) _ rfl (blk3_1 w _ _ _ _) Tryd.underlying77 rfl (size_el _ rfl)) rfl ⟨rfl,?_⟩;exact (((Below.refl _ _).alloc (Nat.le_refl _) _).alloc (by simp) _).alloc (by simp; omega) _

/-! ### Rows whose first k words have turned -/
def mx (f : Nat → Nat) (l : List Nat) (k : Nat) : List Nat:=(List.range 5).map fun j=>if j < k then f j else l[j]!
theorem mx_len (f : Nat → Nat) (l : List Nat) (k : Nat) : (mx f l k).length = 5:=by simp [mx]
theorem mx_zero (f : Nat → Nat) {l : List Nat} (h : l.length = 5) : mx f l 0 = l:=by
 obtain ⟨a0,a1,a2,a3,a4,rfl⟩:=five h
 rfl
theorem mx_get (f : Nat → Nat) (l : List Nat) {k : Nat} (h : k < 5) : (mx f l k)[k]! = l[k]!:=by
 rw [getElem!_pos _ k (by rw [mx_len]; exact h)]
 simp [mx]
theorem mx_set (f : Nat → Nat) (l : List Nat) {k : Nat} : (mx f l k).set k (f k) = mx f l (k + 1):=by
 apply List.ext_getElem (by simp [mx])
 intro j h1 h2
 rw [List.getElem_set];simp only [mx,List.getElem_map,List.getElem_range]
 by_cases hjk : k = j
 ·subst hjk
  simp
 ·rw [if_neg hjk]
  by_cases hlt : j < k
  ·rw [if_pos hlt,if_pos (by omega)]
  ·rw [if_neg hlt,if_neg (by omega)]

theorem eb_get {l : List Nat} {x : F} (h : EB l x) {k : Nat} (hk : k < 5) : l[k]! < 2251799813947392 :=
 h.bnd _ (by rw [getElem!_pos l k (by rw [h.len]; exact hk)]; exact List.getElem_mem _)

set_option maxRecDepth 100000 in
set_option maxHeartbeats 1000000 in
theorem eladd_f {a b : List Nat} {x y : F} (ha : EB a x) (hb : EB b y) (w : World) :
  Calls Tryd.prog 83 #[.agg (Us a).toArray,.agg (Us b).toArray] w fun e w'=>∃ r,EB r (x + y) ∧ e = .returned (.agg (Us r).toArray) ∧ Below w.heap.size w w':=by
 go_enter Tryd.func83,Tryd.ntmps83
 go_wp2
 go_loopw [6] (fun i wr=>∃ k : Nat,k ≤ 5 ∧ i = .int .i64 k ∧ Blk wr w.heap.size 77 (Us (mx (fun j=>a[j]! + b[j]!) a k)).toArray ∧ Blk wr (w.heap.size + 1) 77 (Us b).toArray ∧ Blk wr (w.heap.size + 1 + 1) 77 z5 ∧ Below w.heap.size w wr) (fun i _=>5 - (intOf i).toNat)
 case atStart =>
  refine ⟨0,by omega,rfl,?_,blk3_1 w _ _ _ _,blk3_2 w _ _ _ _,(((Below.refl _ _).alloc (Nat.le_refl _) _).alloc (by simp) _).alloc (by simp; omega) _⟩;rw [mx_zero _ ha.len];exact blk3_0 w _ _ _ _
 case round =>
  obtain ⟨k,hk,rfl,h0,h1,h2,hbel⟩:=hrel
  by_cases hlt : k < 5
  ·have hN:=mx_set (fun j=>a[j]! + b[j]!) a (k:=k)
   have hg:=mx_get (fun j=>a[j]! + b[j]!) a hlt;have c0:=(h0.drew.cell k).trans (Us_at (by rw [mx_len]; exact hlt));rw [hg] at c0;have c1:=(h1.drew.cell k).trans (Us_at (by rw [hb.len]; exact hlt));have b0:=eb_get ha hlt;have b1:=eb_get hb hlt;have hf:=h0.drew.free k;generalize a[k]! = u at *;generalize b[k]! = v at *
   have q1 : IntKind.u64.wrap ((u : Int) + (v : Int)) = ((u + v : Nat) : Int):=by rw [IntKind.wrap_u64]; omega
   have q2 : (0 : Int) ≤ (k : Int):=by omega
   have HK:=Lib.hid (And.intro h0 (And.intro h1 (And.intro h2 (And.intro hbel hN))));clear h0 h1 h2 hbel hN hg
   go_wp2
   go_still_tail 11,(by kernel_rfl)
   go_wp2
   go_roundw
   case rel =>
    obtain ⟨h0,h1,h2,hbel,hN⟩:=HK.out;have h4:=h0.set k (.int .u64 ((u + v : Nat) : Int));rw [Us_set,hN] at h4;exact ⟨k + 1,by omega,by go_num,h4,h1.far (by simp) _,h2.far (by simp; omega) _,(hbel.setCell (by simp) _).drew⟩
   case measure=>simp [intOf]; omega
  ·obtain rfl : k = 5:=by omega
   obtain ⟨a0,a1,a2,a3,a4,rfl,p0,p1,p2,p3,p4,pv⟩:=ha.five;obtain ⟨b0,b1,b2,b3,b4,rfl,r0,r1,r2,r3,r4,rv⟩:=hb.five;have e5 : mx (fun j=>[a0,a1,a2,a3,a4][j]! + [b0,b1,b2,b3,b4][j]!) [a0,a1,a2,a3,a4] 5 = [a0 + b0,a1 + b1,a2 + b2,a3 + b3,a4 + b4]:=rfl;rw [e5] at h0;have HC:=fun w1=>Lib.hid (carried_f (a0 + b0) (a1 + b1) (a2 + b2) (a3 + b3) (a4 + b4) (by omega) (by omega) (by omega) (by omega) (by omega) w1);have hE:=crd_eb (a0:=a0 + b0) (a1:=a1 + b1) (a2:=a2 + b2) (a3:=a3 + b3) (a4:=a4 + b4) (by omega) (by omega) (by omega) (by omega) (by omega);rw [add_lv,fof_add,pv,rv] at hE;generalize crd (a0 + b0) (a1 + b1) (a2 + b2) (a3 + b3) (a4 + b4) = r at *;have hz : (Us [a0 + b0,a1 + b1,a2 + b2,a3 + b3,a4 + b4]).toArray.size = 5:=rfl;generalize (Us [a0 + b0,a1 + b1,a2 + b2,a3 + b3,a4 + b4]).toArray = cs at *;have HK:=Lib.hid (And.intro h2 hbel);clear h1 h2 hbel ha hb p0 p1 p2 p3 p4 pv r0 r1 r2 r3 r4 rv e5;have hzr:=len_us hE.len
   go_wp2_with (refine wpList_load_row rfl 77 _ rfl w.heap.size rfl 77 cs (0,0) _ h0 Tryd.underlying77 rfl (size_el _ hz) ?_)
   refine (HC _).out.mono ?_
   rintro e w1 ⟨rfl,hw1⟩
   obtain ⟨h2,hbel⟩:=HK.out;have hb2:=hbel.trans (hw1.mono hbel.size);have h4:=h2.below hw1 h2.lt
   go_wp2_with (refine wpList_store_row rfl 77 _ _ rfl (w.heap.size + 1 + 1) rfl (Us r).toArray rfl 77 _ h4 (size_el _ hzr) (by rw [hzr]; rfl) (Us_one _) ?_)
   refine bodyPost_ret (results_cell_row rfl _ _ (w.heap.size + 1 + 1) 77 (Us r).toArray (0,0) _ rfl (h4.row _) Tryd.underlying77 rfl (size_el _ hzr)) rfl ⟨r,hE,rfl,?_⟩;exact below_setRow hb2 (by omega) _
end Go.Proofs.YtminmeljonbogaaDoor
/-
  THE FIELD'S NUMBERS: Sub, which reads the table of 2p; Small.
-/
namespace Go.Proofs.YtminmeljonbogaaDoor
open Go.RowKit Go.IntWalk Nums

def twl : List Nat:=[4503599627370458,4503599627370494,4503599627370494,4503599627370494,4503599627370494]
theorem twl_get {k : Nat} (h : k < 5) : 4503599627370458 ≤ twl[k]! ∧ twl[k]! ≤ 4503599627370494:=by
 have h5 : k = 0 ∨ k = 1 ∨ k = 2 ∨ k = 3 ∨ k = 4:=by omega
 rcases h5 with rfl | rfl | rfl | rfl | rfl <;> decide

structure Tw (w : World) : Prop where
  cell : ∀ i,i < 5 → w.cell? ⟨1,i,none⟩ = some (.int .u64 (twl[i]! : Nat))
  lt : 1 < w.heap.size
theorem Tw.below {w w' : World}  (h : Tw w) (hb : Below w.heap.size w w') : Tw w' :=
 ⟨fun i hi=>(hb.cell (p:=⟨1,i,none⟩) h.lt).trans (h.cell i hi),Nat.lt_of_lt_of_le h.lt hb.size⟩
theorem Tw.drew {w : World} (h : Tw w) : Tw w.drew:=⟨h.cell,h.lt⟩
theorem Tw.at {w : World} (h : Tw w) {k : Nat} (hk : k < 5) : w.cell? ⟨1,k,none⟩ = some (.int .u64 (twl[k]! : Nat)):=h.cell k hk

set_option maxRecDepth 100000 in
set_option maxHeartbeats 1000000 in
theorem elsub_f {a b : List Nat} {x y : F} (ha : EB a x) (hb : EB b y) (w : World) (hT : Tw w) :
  Calls Tryd.prog 81 #[.agg (Us a).toArray,.agg (Us b).toArray] w fun e w'=>∃ r,EB r (x - y) ∧ e = .returned (.agg (Us r).toArray) ∧ Below w.heap.size w w':=by
 go_enter Tryd.func81,Tryd.ntmps81
 go_wp2
 go_loopw [6] (fun i wr=>∃ k : Nat,k ≤ 5 ∧ i = .int .i64 k ∧ Blk wr w.heap.size 77 (Us (mx (fun j=>a[j]! + (twl[j]! - b[j]!)) a k)).toArray ∧ Blk wr (w.heap.size + 1) 77 (Us b).toArray ∧ Blk wr (w.heap.size + 1 + 1) 77 z5 ∧ Below w.heap.size w wr) (fun i _=>5 - (intOf i).toNat)
 case atStart =>
  refine ⟨0,by omega,rfl,?_,blk3_1 w _ _ _ _,blk3_2 w _ _ _ _,(((Below.refl _ _).alloc (Nat.le_refl _) _).alloc (by simp) _).alloc (by simp; omega) _⟩;rw [mx_zero _ ha.len];exact blk3_0 w _ _ _ _
 case round =>
  obtain ⟨k,hk,rfl,h0,h1,h2,hbel⟩:=hrel
  by_cases hlt : k < 5
  ·have hN:=mx_set (fun j=>a[j]! + (twl[j]! - b[j]!)) a (k:=k)
   have hg:=mx_get (fun j=>a[j]! + (twl[j]! - b[j]!)) a hlt;have c0:=(h0.drew.cell k).trans (Us_at (by rw [mx_len]; exact hlt));rw [hg] at c0;have c1:=(h1.drew.cell k).trans (Us_at (by rw [hb.len]; exact hlt));have b0:=eb_get ha hlt;have b1:=eb_get hb hlt;have hf:=h0.drew.free k;have c2:=(hT.below hbel).drew.at hlt;have b2:=twl_get hlt;generalize a[k]! = u at *;generalize b[k]! = v at *;generalize twl[k]! = t at *
   have q0 : IntKind.u64.wrap ((t : Int) - (v : Int)) = ((t - v : Nat) : Int):=by rw [IntKind.wrap_u64]; omega
   have q1 : IntKind.u64.wrap ((u : Int) + ((t - v : Nat) : Int)) = ((u + (t - v) : Nat) : Int):=by rw [IntKind.wrap_u64]; omega
   have hle : v ≤ t:=by omega
   have q2 : (0 : Int) ≤ (k : Int):=by omega
   have HK:=Lib.hid (And.intro h0 (And.intro h1 (And.intro h2 (And.intro hbel hN))));clear h0 h1 h2 hbel hN hg
   go_wp2
   go_still_tail 15,(by kernel_rfl)
   go_wp2
   go_roundw
   case rel =>
    obtain ⟨h0,h1,h2,hbel,hN⟩:=HK.out;have h4:=h0.set k (.int .u64 ((u + (t - v) : Nat) : Int));rw [Us_set,hN] at h4;exact ⟨k + 1,by omega,by go_num,h4,h1.far (by simp) _,h2.far (by simp; omega) _,(hbel.setCell (by simp) _).drew⟩
   case measure=>simp [intOf]; omega
  ·obtain rfl : k = 5:=by omega
   obtain ⟨a0,a1,a2,a3,a4,rfl,p0,p1,p2,p3,p4,pv⟩:=ha.five;obtain ⟨b0,b1,b2,b3,b4,rfl,r0,r1,r2,r3,r4,rv⟩:=hb.five;have e5 : mx (fun j=>[a0,a1,a2,a3,a4][j]! + (twl[j]! - [b0,b1,b2,b3,b4][j]!)) [a0,a1,a2,a3,a4] 5 = [a0 + (4503599627370458 - b0),a1 + (4503599627370494 - b1),a2 + (4503599627370494 - b2),a3 + (4503599627370494 - b3),a4 + (4503599627370494 - b4)]:=rfl;rw [e5] at h0;have HC:=fun w1=>Lib.hid (carried_f (a0 + (4503599627370458 - b0)) (a1 + (4503599627370494 - b1)) (a2 + (4503599627370494 - b2)) (a3 + (4503599627370494 - b3)) (a4 + (4503599627370494 - b4)) (by omega) (by omega) (by omega) (by omega) (by omega) w1);have hE:=crd_eb (a0:=a0 + (4503599627370458 - b0)) (a1:=a1 + (4503599627370494 - b1)) (a2:=a2 + (4503599627370494 - b2)) (a3:=a3 + (4503599627370494 - b3)) (a4:=a4 + (4503599627370494 - b4)) (by omega) (by omega) (by omega) (by omega) (by omega);rw [sub_lv r0 r1 r2 r3 r4,pv,rv] at hE;generalize crd (a0 + (4503599627370458 - b0)) (a1 + (4503599627370494 - b1)) (a2 + (4503599627370494 - b2)) (a3 + (4503599627370494 - b3)) (a4 + (4503599627370494 - b4)) = r at *;have hz : (Us [a0 + (4503599627370458 - b0),a1 + (4503599627370494 - b1),a2 + (4503599627370494 - b2),a3 + (4503599627370494 - b3),a4 + (4503599627370494 - b4)]).toArray.size = 5:=rfl;generalize (Us [a0 + (4503599627370458 - b0),a1 + (4503599627370494 - b1),a2 + (4503599627370494 - b2),a3 + (4503599627370494 - b3),a4 + (4503599627370494 - b4)]).toArray = cs at *;have HK:=Lib.hid (And.intro h2 hbel);clear h1 h2 hbel ha hb p0 p1 p2 p3 p4 pv r0 r1 r2 r3 r4 rv e5;have hzr:=len_us hE.len
   go_wp2_with (refine wpList_load_row rfl 77 _ rfl w.heap.size rfl 77 cs (0,0) _ h0 Tryd.underlying77 rfl (size_el _ hz) ?_)
   refine (HC _).out.mono ?_
   rintro e w1 ⟨rfl,hw1⟩
   obtain ⟨h2,hbel⟩:=HK.out;have hb2:=hbel.trans (hw1.mono hbel.size);have h4:=h2.below hw1 h2.lt
   go_wp2_with (refine wpList_store_row rfl 77 _ _ rfl (w.heap.size + 1 + 1) rfl (Us r).toArray rfl 77 _ h4 (size_el _ hzr) (by rw [hzr]; rfl) (Us_one _) ?_)
   refine bodyPost_ret (results_cell_row rfl _ _ (w.heap.size + 1 + 1) 77 (Us r).toArray (0,0) _ rfl (h4.row _) Tryd.underlying77 rfl (size_el _ hzr)) rfl ⟨r,hE,rfl,?_⟩;exact below_setRow hb2 (by omega) _

set_option maxRecDepth 100000 in
theorem small_f (v : Nat) (hv : v < 18446744073709551616) (w : World) :
  Calls Tryd.prog 78 #[.int .u64 v] w fun e w'=>∃ r,EB r (fof v) ∧ e = .returned (.agg (Us r).toArray) ∧ Below w.heap.size w w':=by
 go_enter Tryd.func78,Tryd.ntmps78
 go_wp2
 rw [maskW v hv]
 have hE : EB [v % 2251799813685248,v / 2251799813685248,0,0,0] (fof v):=EB.mk5 (by omega) (by omega) (by omega) (by omega) (by omega) (by
  congr 1
  rw [lv5]
  omega)
 refine bodyPost_ret (results_cell_row rfl _ _ w.heap.size 77 _ (0,0) _ rfl (heap_alloc_new w _) Tryd.underlying77 rfl (size_el _ rfl)) rfl ⟨_,hE,rfl,?_⟩;exact (Below.refl _ _).alloc (Nat.le_refl _) _
end Go.Proofs.YtminmeljonbogaaDoor
/-
  THE FIELD'S NUMBERS: whole: the number below p.
-/
namespace Go.Proofs.YtminmeljonbogaaDoor
open Go.RowKit Go.IntWalk Nums

theorem whs_eq (l : List Nat) (u k : Nat) : whs l u k = mx (fun j=>(up2 l u j + l[j]!) % 2251799813685248) l k:=rfl
theorem up1_le {l : List Nat} {x : F} (h : EB l x) : ∀ k,k ≤ 5 → up1 l 19 k ≤ 19
 | 0,_=>Nat.le_refl _
 | k + 1,hk=>by
  have h1:=up1_le h k (by omega);have h2:=eb_get h (k:=k) (by omega)
  show (l[k]! + up1 l 19 k) / 2251799813685248 ≤ 19
  omega
theorem up2_le {l : List Nat} {x : F} (h : EB l x) {u : Nat} (hu : u ≤ 361) : ∀ k,k ≤ 5 → up2 l u k ≤ 361
 | 0,_=>hu
 | k + 1,hk=>by
  have h1:=up2_le h hu k (by omega);have h2:=eb_get h (k:=k) (by omega)
  show (up2 l u k + l[k]!) / 2251799813685248 ≤ 361
  omega

set_option maxRecDepth 100000 in
set_option maxHeartbeats 1000000 in
theorem whole_f {a : List Nat} {x : F} (ha : EB a x) (w : World) :
  Calls Tryd.prog 119 #[.agg (Us a).toArray] w fun e w'=>e = .returned (.agg (Us (whole a)).toArray) ∧ Below w.heap.size w w':=by
 have hW : whole a = whs a (up1 a 19 5 * 19) 5:=rfl;rw [hW];clear hW;generalize hq1 : up1 a 19 5 = q;generalize hu0 : q * 19 = u0
 go_enter Tryd.func119,Tryd.ntmps119
 go_wp2
 go_loopw [6,3] (fun i u wr=>∃ k : Nat,k ≤ 5 ∧ i = .int .i64 k ∧ u = .int .u64 (up1 a 19 k : Nat) ∧ Blk wr w.heap.size 77 (Us a).toArray ∧ Blk wr (w.heap.size + 1) 77 z5 ∧ Below w.heap.size w wr) (fun i _ _=>5 - (intOf i).toNat)
 case atStart =>
  exact ⟨0,by omega,rfl,rfl,heap_alloc2_old w _ _,heap_alloc2_new w _ _,((Below.refl _ _).alloc (Nat.le_refl _) _).alloc (by simp) _⟩
 case round =>
  obtain ⟨k,hk,rfl,rfl,h0,h1,hbel⟩:=hrel
  by_cases hlt : k < 5
  ·have hN : up1 a 19 (k + 1) = (a[k]! + up1 a 19 k) / 2251799813685248:=rfl
   have c0:=(h0.cell k).trans (Us_at (by rw [ha.len]; exact hlt));have b0:=eb_get ha hlt;have b1:=up1_le ha k (by omega);generalize a[k]! = u at *;generalize up1 a 19 k = v at *
   have q1 : IntKind.u64.wrap ((u : Int) + (v : Int)) = ((u + v : Nat) : Int):=by rw [IntKind.wrap_u64]; omega
   have q2 : (0 : Int) ≤ (k : Int):=by omega
   have HK:=Lib.hid (And.intro h0 (And.intro h1 (And.intro hbel hN)));clear h0 h1 hbel hN
   go_wp2
   go_roundw
   case rel =>
    obtain ⟨h0,h1,hbel,hN⟩:=HK.out;exact ⟨k + 1,by omega,by go_num,by rw [hN]; congr 1,h0,h1,hbel⟩
   case measure=>simp [intOf]; omega
  ·obtain rfl : k = 5:=by omega
   have b1:=up1_le ha 5 (by omega);rw [hq1] at b1 ⊢
   have hq : u0 ≤ 361:=by omega
   have q1 : IntKind.u64.wrap ((q : Int) * 19) = (u0 : Int):=by rw [IntKind.wrap_u64]; omega
   clear hq1 hu0
   have hW0 : whs a u0 0 = a:=by rw [whs_eq,mx_zero _ ha.len]
   have HK:=Lib.hid (And.intro h0 (And.intro h1 hbel));clear h0 h1 hbel
   go_wp2
   go_loopw [19,3] (fun i u wq=>∃ k : Nat,k ≤ 5 ∧ i = .int .i64 k ∧ u = .int .u64 (up2 a u0 k : Nat) ∧ Blk wq w.heap.size 77 (Us (whs a u0 k)).toArray ∧ Blk wq (w.heap.size + 1) 77 z5 ∧ Below w.heap.size w wq) (fun i _ _=>5 - (intOf i).toNat)
   case atStart =>
    obtain ⟨h0,h1,hbel⟩:=HK.out;exact ⟨0,by omega,rfl,rfl,by rw [hW0]; exact h0,h1,hbel⟩
   case round =>
    obtain ⟨k,hk,rfl,rfl,h0,h1,hbel⟩:=hrel;clear HK
    by_cases hlt : k < 5
    ·have hN : up2 a u0 (k + 1) = (up2 a u0 k + a[k]!) / 2251799813685248:=rfl
     have hS : (whs a u0 k).set k ((up2 a u0 k + a[k]!) % 2251799813685248) = whs a u0 (k + 1):=mx_set (fun j=>(up2 a u0 j + a[j]!) % 2251799813685248) a;have hg : (whs a u0 k)[k]! = a[k]!:=mx_get _ a hlt;have c0:=(h0.cell k).trans (Us_at (by rw [whs_eq,mx_len]; exact hlt));rw [hg] at c0;have hf:=h0.free k;have b0:=eb_get ha hlt;have b1:=up2_le ha hq k (by omega);generalize a[k]! = u at *;generalize up2 a u0 k = v at *
     have q2 : IntKind.u64.wrap ((v : Int) + (u : Int)) = ((v + u : Nat) : Int):=by rw [IntKind.wrap_u64]; omega
     have q3:=maskW (v + u) (by omega)
     have q4 : (0 : Int) ≤ (k : Int):=by omega
     have HK:=Lib.hid (And.intro h0 (And.intro h1 (And.intro hbel (And.intro hN hS))));clear h0 h1 hbel hN hS hg;generalize hs : v + u = s at *
     go_wp2
     go_roundw
     case rel =>
      obtain ⟨h0,h1,hbel,hN,hS⟩:=HK.out;have h4:=h0.set k (.int .u64 ((s % 2251799813685248 : Nat) : Int));rw [Us_set,hS] at h4;exact ⟨k + 1,by omega,by go_num,by rw [hN]; congr 1,h4,h1.far (by simp) _,hbel.setCell (by simp) _⟩
     case measure=>simp [intOf]; omega
    ·obtain rfl : k = 5:=by omega
     have hz : (Us (whs a u0 5)).toArray.size = 5:=len_us (by rw [whs_eq,mx_len])
     go_wp2_with (first
      | (refine wpList_load_row rfl 77 _ rfl w.heap.size rfl 77 (Us (whs a u0 5)).toArray (0,0) _ h0 Tryd.underlying77 rfl (size_el _ hz) ?_)
      | (refine wpList_store_row rfl 77 _ _ rfl (w.heap.size + 1) rfl (Us (whs a u0 5)).toArray rfl 77 _ h1 (size_el _ hz) (by rw [hz]; rfl) (Us_one _) ?_))
     refine bodyPost_ret (results_cell_row rfl _ _ (w.heap.size + 1) 77 (Us (whs a u0 5)).toArray (0,0) _ rfl (h1.row _) Tryd.underlying77 rfl (size_el _ hz)) rfl ⟨rfl,?_⟩;exact below_setRow hbel (by omega) _
end Go.Proofs.YtminmeljonbogaaDoor
/-
  THE FIELD'S NUMBERS: Mul's sums.
-/
namespace Go.Proofs.YtminmeljonbogaaDoor
open Go.RowKit Go.IntWalk Nums

def W2 (s : Nat) : Array Value:=(Us [s / 18446744073709551616,s % 18446744073709551616]).toArray
theorem W2_size (s : Nat) : (W2 s).size = 2:=rfl
theorem W2_one (s : Nat) : ∀ u ∈ (W2 s).toList,u.oneCell' = true:=Us_one _

theorem plus_f (s a b : Nat) (ha : a < 18446744073709551616) (hb : b < 18446744073709551616) (hs : s + a * b < 340282366920938463463374607431768211456) (w : World) :
  Calls Tryd.prog 113 #[.agg (W2 s),.int .u64 a,.int .u64 b] w fun e w'=>e = .returned (.agg (W2 (s + a * b))) ∧ Below w.heap.size w w':=by
 refine (plus_any (s / 18446744073709551616) (s % 18446744073709551616) a b (by omega) (by omega) ha hb w).mono ?_
 rintro e w' ⟨rfl,hw⟩
 refine ⟨?_,hw⟩
 unfold W2
 generalize a * b = m at *
 have e1 : (s / 18446744073709551616 + m / 18446744073709551616 + (s % 18446744073709551616 + m % 18446744073709551616) / 18446744073709551616) % 18446744073709551616 = (s + m) / 18446744073709551616:=by omega
 have e2 : (s % 18446744073709551616 + m % 18446744073709551616) % 18446744073709551616 = (s + m) % 18446744073709551616:=by omega
 rw [e1,e2]
theorem low_f (s : Nat) (w : World) :
  Calls Tryd.prog 114 #[.agg (W2 s)] w fun e w'=>e = .returned (.int .u64 ((s % 2251799813685248 : Nat) : Int)) ∧ Below w.heap.size w w':=by
 refine (low_any (s / 18446744073709551616) (s % 18446744073709551616) (by omega) w).mono ?_
 rintro e w' ⟨rfl,hw⟩
 refine ⟨?_,hw⟩
 have e1 : s % 18446744073709551616 % 2251799813685248 = s % 2251799813685248:=by omega
 rw [e1]
theorem high_f (s : Nat) (hs : s < 41538374868278621028243970633760768) (w : World) :
  Calls Tryd.prog 115 #[.agg (W2 s)] w fun e w'=>e = .returned (.int .u64 ((s / 2251799813685248 : Nat) : Int)) ∧ Below w.heap.size w w':=by
 refine (high_any (s / 18446744073709551616) (s % 18446744073709551616) (by omega) (by omega) w).mono ?_
 rintro e w' ⟨rfl,hw⟩
 refine ⟨?_,hw⟩
 have e1 : s / 18446744073709551616 * 8192 + s % 18446744073709551616 / 2251799813685248 = s / 2251799813685248:=by omega
 rw [e1]

theorem lv_take : ∀ (l : List Nat) {k : Nat},k < l.length → lv (l.take (k + 1)) = lv (l.take k) + 2251799813685248 ^ k * l[k]!
 | d :: ds,0,_=>by simp [lv]
 | d :: ds,k + 1,h=>by
  have ih:=lv_take ds (k:=k) (by simpa using h)
  show d + 2251799813685248 * lv (ds.take (k + 1)) = d + 2251799813685248 * lv (ds.take k) + 2251799813685248 ^ (k + 1) * ds[k]!
  rw [ih,Nat.pow_succ]
  grind only

structure MM (a : List Nat) (y : F) (k c0 c1 c2 c3 c4 s0 s1 s2 s3 s4 : Nat) : Prop where
  cv : fof (lv [c0,c1,c2,c3,c4]) = fof (2251799813685248 ^ k) * y
  sv : fof (lv [s0,s1,s2,s3,s4]) = fof (lv (a.take k)) * y
  c0b : c0 < 42784196465000448
  c1b : c1 < 42784196465000448
  c2b : c2 < 42784196465000448
  c3b : c3 < 42784196465000448
  c4b : c4 < 42784196465000448
  c0u : k ≤ 0 → c0 < 2251799813947392
  c1u : k ≤ 1 → c1 < 2251799813947392
  c2u : k ≤ 2 → c2 < 2251799813947392
  c3u : k ≤ 3 → c3 < 2251799813947392
  c4u : k ≤ 4 → c4 < 2251799813947392
  s0b : s0 ≤ k * 96341445640026967064998646153216
  s1b : s1 ≤ k * 96341445640026967064998646153216
  s2b : s2 ≤ k * 96341445640026967064998646153216
  s3b : s3 ≤ k * 96341445640026967064998646153216
  s4b : s4 ≤ k * 96341445640026967064998646153216

theorem prod_le {v c : Nat} (hv : v < 2251799813947392) (hc : c < 42784196465000448) : v * c ≤ 96341445640026967064998646153216 :=
 Nat.le_trans (Nat.mul_le_mul (Nat.le_of_lt hv) (Nat.le_of_lt hc)) (by decide)

theorem MM.next {a : List Nat} {x y : F} {k c0 c1 c2 c3 c4 s0 s1 s2 s3 s4 : Nat} (h : MM a y k c0 c1 c2 c3 c4 s0 s1 s2 s3 s4) (ha : EB a x) (hk : k < 5) :
  MM a y (k + 1) (19 * c4) c0 c1 c2 c3 (s0 + a[k]! * c0) (s1 + a[k]! * c1) (s2 + a[k]! * c2) (s3 + a[k]! * c3) (s4 + a[k]! * c4):=by
 obtain ⟨cv,sv,g0,g1,g2,g3,g4,u0,u1,u2,u3,u4,t0,t1,t2,t3,t4⟩:=h;have hv:=eb_get ha hk;have p0:=prod_le hv g0;have p1:=prod_le hv g1;have p2:=prod_le hv g2;have p3:=prod_le hv g3;have p4:=prod_le hv g4
 have hm : (k + 1) * 96341445640026967064998646153216 = k * 96341445640026967064998646153216 + 96341445640026967064998646153216:=by omega
 have:=u4 (by omega);refine ⟨?_,?_,by omega,g0,g1,g2,g3,by omega,by omega,by omega,by omega,by omega,by omega,by omega,by omega,by omega,by omega⟩
 ·rw [turn_lv,cv,Nat.pow_succ,fof_mul]
  generalize fof (2251799813685248 ^ k) = u;generalize fof 2251799813685248 = v
  grind only
 ·rw [more_lv,fof_add,sv,fof_mul,cv,lv_take a (by rw [ha.len]; exact hk),fof_add,fof_mul]
  generalize fof (lv (a.take k)) = u;generalize fof (2251799813685248 ^ k) = v;generalize fof (a[k]!) = z
  grind only

theorem MM.start {a : List Nat} {b0 b1 b2 b3 b4 : Nat} {y : F} (h0 : b0 < 2251799813947392) (h1 : b1 < 2251799813947392) (h2 : b2 < 2251799813947392) (h3 : b3 < 2251799813947392) (h4 : b4 < 2251799813947392) (hb : fof (lv [b0,b1,b2,b3,b4]) = y) :
  MM a y 0 b0 b1 b2 b3 b4 0 0 0 0 0:=by
 refine ⟨?_,?_,by omega,by omega,by omega,by omega,by omega,fun _=>h0,fun _=>h1,fun _=>h2,fun _=>h3,fun _=>h4,by omega,by omega,by omega,by omega,by omega⟩
 ·rw [hb,Nat.pow_zero,fof_one]
  grind only
 ·have e1 : fof (lv [0,0,0,0,0]) = 0:=fof_zero
  have e2 : fof (lv (a.take 0)) = 0:=fof_zero;rw [e1,e2]
  grind only

theorem MM.fin {a : List Nat} {x y : F} {c0 c1 c2 c3 c4 s0 s1 s2 s3 s4 : Nat} (h : MM a y 5 c0 c1 c2 c3 c4 s0 s1 s2 s3 s4) (ha : EB a x) :
  fof (lv (crd s0 s1 s2 s3 s4)) = x * y ∧ s0 < 41538374868278621028243970633760768 ∧ s1 < 41538374868278621028243970633760768 ∧ s2 < 41538374868278621028243970633760768 ∧ s3 < 41538374868278621028243970633760768 ∧ s4 < 41538374868278621028243970633760768 ∧
   s0 / 2251799813685248 < 400000000000000000 ∧ s1 / 2251799813685248 < 400000000000000000 ∧ s2 / 2251799813685248 < 400000000000000000 ∧ s3 / 2251799813685248 < 400000000000000000 ∧ s4 / 2251799813685248 < 400000000000000000:=by
 have e : a.take 5 = a:=List.take_of_length_le (by rw [ha.len]; omega);obtain ⟨cv,sv,g0,g1,g2,g3,g4,u0,u1,u2,u3,u4,t0,t1,t2,t3,t4⟩:=h;rw [e,ha.val] at sv;exact ⟨by rw [crd_lv,sv],by omega,by omega,by omega,by omega,by omega,by omega,by omega,by omega,by omega,by omega⟩

structure MSt (w wr : World) (a : List Nat) (s0 s1 s2 s3 s4 : Nat) : Prop where
  ba : Blk wr w.heap.size 77 (Us a).toArray
  br : Blk wr (w.heap.size + 1 + 1) 77 z5
  k0 : Blk wr (w.heap.size + 1 + 1 + 1) 158 (W2 s0)
  k1 : Blk wr (w.heap.size + 1 + 1 + 1 + 1) 158 (W2 s1)
  k2 : Blk wr (w.heap.size + 1 + 1 + 1 + 1 + 1) 158 (W2 s2)
  k3 : Blk wr (w.heap.size + 1 + 1 + 1 + 1 + 1 + 1) 158 (W2 s3)
  k4 : Blk wr (w.heap.size + 1 + 1 + 1 + 1 + 1 + 1 + 1) 158 (W2 s4)
  be : Below w.heap.size w wr

section
variable {w wr w1 : World} {a : List Nat} {s0 s1 s2 s3 s4 : Nat}
theorem MSt.step (h : MSt w wr a s0 s1 s2 s3 s4) (hw : Below wr.heap.size wr w1) : MSt w w1 a s0 s1 s2 s3 s4 :=
 ⟨h.ba.below hw h.ba.lt,h.br.below hw h.br.lt,h.k0.below hw h.k0.lt,h.k1.below hw h.k1.lt,h.k2.below hw h.k2.lt,h.k3.below hw h.k3.lt,h.k4.below hw h.k4.lt,h.be.trans (hw.mono h.be.size)⟩
theorem MSt.set0 (h : MSt w wr a s0 s1 s2 s3 s4) (s : Nat) : MSt w (wr.setRow (w.heap.size + 1 + 1 + 1) (W2 s)) a s s1 s2 s3 s4 :=
 ⟨h.ba.rowFar (by omega) _,h.br.rowFar (by omega) _,h.k0.row _,h.k1.rowFar (by omega) _,h.k2.rowFar (by omega) _,h.k3.rowFar (by omega) _,h.k4.rowFar (by omega) _,below_setRow h.be (by omega) _⟩
theorem MSt.set1 (h : MSt w wr a s0 s1 s2 s3 s4) (s : Nat) : MSt w (wr.setRow (w.heap.size + 1 + 1 + 1 + 1) (W2 s)) a s0 s s2 s3 s4 :=
 ⟨h.ba.rowFar (by omega) _,h.br.rowFar (by omega) _,h.k0.rowFar (by omega) _,h.k1.row _,h.k2.rowFar (by omega) _,h.k3.rowFar (by omega) _,h.k4.rowFar (by omega) _,below_setRow h.be (by omega) _⟩
theorem MSt.set2 (h : MSt w wr a s0 s1 s2 s3 s4) (s : Nat) : MSt w (wr.setRow (w.heap.size + 1 + 1 + 1 + 1 + 1) (W2 s)) a s0 s1 s s3 s4 :=
 ⟨h.ba.rowFar (by omega) _,h.br.rowFar (by omega) _,h.k0.rowFar (by omega) _,h.k1.rowFar (by omega) _,h.k2.row _,h.k3.rowFar (by omega) _,h.k4.rowFar (by omega) _,below_setRow h.be (by omega) _⟩
theorem MSt.set3 (h : MSt w wr a s0 s1 s2 s3 s4) (s : Nat) : MSt w (wr.setRow (w.heap.size + 1 + 1 + 1 + 1 + 1 + 1) (W2 s)) a s0 s1 s2 s s4 :=
 ⟨h.ba.rowFar (by omega) _,h.br.rowFar (by omega) _,h.k0.rowFar (by omega) _,h.k1.rowFar (by omega) _,h.k2.rowFar (by omega) _,h.k3.row _,h.k4.rowFar (by omega) _,below_setRow h.be (by omega) _⟩
theorem MSt.set4 (h : MSt w wr a s0 s1 s2 s3 s4) (s : Nat) : MSt w (wr.setRow (w.heap.size + 1 + 1 + 1 + 1 + 1 + 1 + 1) (W2 s)) a s0 s1 s2 s3 s :=
 ⟨h.ba.rowFar (by omega) _,h.br.rowFar (by omega) _,h.k0.rowFar (by omega) _,h.k1.rowFar (by omega) _,h.k2.rowFar (by omega) _,h.k3.rowFar (by omega) _,h.k4.row _,below_setRow h.be (by omega) _⟩
end

theorem mst_start (w : World) (a : List Nat) (o : Obj) :
  MSt w ((((((((w.alloc (.cells (Us a).toArray 77)).alloc o).alloc (.cells z5 77)).alloc (.cells (W2 0) 158)).alloc (.cells (W2 0) 158)).alloc (.cells (W2 0) 158)).alloc (.cells (W2 0) 158)).alloc (.cells (W2 0) 158)).drew a 0 0 0 0 0 where
 ba:=(((((((Blk.new w _ _).alloc _).alloc _).alloc _).alloc _).alloc _).alloc _).alloc _
 br:=by
  have h:=(((((Blk.new ((w.alloc (.cells (Us a).toArray 77)).alloc o) 77 z5).alloc (.cells (W2 0) 158)).alloc (.cells (W2 0) 158)).alloc (.cells (W2 0) 158)).alloc (.cells (W2 0) 158)).alloc (.cells (W2 0) 158);rw [World.size_alloc,World.size_alloc] at h;exact h
 k0:=by
  have h:=((((Blk.new (((w.alloc (.cells (Us a).toArray 77)).alloc o).alloc (.cells z5 77)) 158 (W2 0)).alloc (.cells (W2 0) 158)).alloc (.cells (W2 0) 158)).alloc (.cells (W2 0) 158)).alloc (.cells (W2 0) 158);rw [World.size_alloc,World.size_alloc,World.size_alloc] at h;exact h
 k1:=by
  have h:=(((Blk.new ((((w.alloc (.cells (Us a).toArray 77)).alloc o).alloc (.cells z5 77)).alloc (.cells (W2 0) 158)) 158 (W2 0)).alloc (.cells (W2 0) 158)).alloc (.cells (W2 0) 158)).alloc (.cells (W2 0) 158);rw [World.size_alloc,World.size_alloc,World.size_alloc,World.size_alloc] at h;exact h
 k2:=by
  have h:=((Blk.new (((((w.alloc (.cells (Us a).toArray 77)).alloc o).alloc (.cells z5 77)).alloc (.cells (W2 0) 158)).alloc (.cells (W2 0) 158)) 158 (W2 0)).alloc (.cells (W2 0) 158)).alloc (.cells (W2 0) 158);rw [World.size_alloc,World.size_alloc,World.size_alloc,World.size_alloc,World.size_alloc] at h;exact h
 k3:=by
  have h:=(Blk.new ((((((w.alloc (.cells (Us a).toArray 77)).alloc o).alloc (.cells z5 77)).alloc (.cells (W2 0) 158)).alloc (.cells (W2 0) 158)).alloc (.cells (W2 0) 158)) 158 (W2 0)).alloc (.cells (W2 0) 158);rw [World.size_alloc,World.size_alloc,World.size_alloc,World.size_alloc,World.size_alloc,World.size_alloc] at h;exact h
 k4:=by
  have h:=Blk.new (((((((w.alloc (.cells (Us a).toArray 77)).alloc o).alloc (.cells z5 77)).alloc (.cells (W2 0) 158)).alloc (.cells (W2 0) 158)).alloc (.cells (W2 0) 158)).alloc (.cells (W2 0) 158)) 158 (W2 0);rw [World.size_alloc,World.size_alloc,World.size_alloc,World.size_alloc,World.size_alloc,World.size_alloc,World.size_alloc] at h;exact h
 be:=(((((((((Below.refl _ _).alloc (Nat.le_refl _) _).alloc (by simp) _).alloc (by simp; omega) _).alloc (by simp; omega) _).alloc (by simp; omega) _).alloc (by simp; omega) _).alloc (by simp; omega) _).alloc (by simp; omega) _).drew
end Go.Proofs.YtminmeljonbogaaDoor
/-
  STEPS OF WALKS OVER WORDS AND THE FIELD'S NUMBERS, in regions that draw their order too.
-/
namespace Go.Proofs.YtminmeljonbogaaDoor
open Go.RowKit Go.IntWalk Nums

theorem own_low : Own 114:=fun _ _=>by go_simp
theorem own_high : Own 115:=fun _ _=>by go_simp
theorem own_carried : Own 116:=fun _ _=>by go_simp
theorem own_whole : Own 119:=fun _ _=>by go_simp
theorem own_elmul : Own 79:=fun _ _=>by go_simp
theorem own_eladd : Own 83:=fun _ _=>by go_simp
theorem own_elsub : Own 81:=fun _ _=>by go_simp
theorem own_hash : Own 87:=fun _ _=>by go_simp
theorem own_small : Own 78:=fun _ _=>by go_simp

section
variable {ops : Array Oper} {C0 : World → Prop} {Q : Act → Prop} {a : Act} {o : Oper} {rest : List Oper}
theorem b_mulu {x y : Operand} {t : TypeId} (p q : Nat) (hg : Region.wanted o (yielded ops a.tmps) = true) (ho : o.op = .binOp .mul 56 x y t) (hx : a.eval x = .int .u64 (p : Int)) (hy : a.eval y = .int .u64 (q : Int)) (hb : p * q < 18446744073709551616)
  (hk : wpB Tryd.prog ops C0 Q rest (a.put o.dst (.int .u64 ((p * q : Nat) : Int)))) : wpB Tryd.prog ops C0 Q (o :: rest) a :=
 b_val hg (fun w _=>by
  have e : IntKind.u64.wrap ((p : Int) * (q : Int)) = ((p * q : Nat) : Int):=by rw [IntKind.wrap_u64,← Int.natCast_mul]; omega
  unfold execOp
  simp only [ho,hx,hy]
  go_simp) hk
theorem b_addu {x y : Operand} {t : TypeId} (p q : Nat) (hg : Region.wanted o (yielded ops a.tmps) = true) (ho : o.op = .binOp .add 56 x y t) (hx : a.eval x = .int .u64 (p : Int)) (hy : a.eval y = .int .u64 (q : Int)) (hb : p + q < 18446744073709551616)
  (hk : wpB Tryd.prog ops C0 Q rest (a.put o.dst (.int .u64 ((p + q : Nat) : Int)))) : wpB Tryd.prog ops C0 Q (o :: rest) a :=
 b_val hg (fun w _=>by
  have e : IntKind.u64.wrap ((p : Int) + (q : Int)) = ((p + q : Nat) : Int):=by rw [IntKind.wrap_u64]; omega
  unfold execOp
  simp only [ho,hx,hy]
  go_simp) hk
theorem b_el {l : List Nat} (g : Nat) (hl : l.length = 5) (x : Operand) (hg : Region.wanted o (yielded ops a.tmps) = true) (ho : o.op = .load 77 x) (hx : a.eval x = .pointer (some ⟨g,0,none⟩))
  (hc : ∀ w,C0 w → Blk w g 77 (Us l).toArray) (hk : wpB Tryd.prog ops C0 Q rest (a.put o.dst (.agg (Us l).toArray))) : wpB Tryd.prog ops C0 Q (o :: rest) a :=
 b_mid hg 77 x ho g 0 hx (Us l) _ (fun w h=>(hc w h).range) Tryd.underlying77 rfl (size_el (Us l).toArray (by rw [List.size_toArray,Us_len,hl])) hk
theorem b_sum {s : Nat} (g : Nat) (x : Operand) (hg : Region.wanted o (yielded ops a.tmps) = true) (ho : o.op = .load 158 x) (hx : a.eval x = .pointer (some ⟨g,0,none⟩))
  (hc : ∀ w,C0 w → Blk w g 158 (W2 s)) (hk : wpB Tryd.prog ops C0 Q rest (a.put o.dst (.agg (W2 s)))) : wpB Tryd.prog ops C0 Q (o :: rest) a :=
 b_mid hg 158 x ho g 0 hx (Us [s / 18446744073709551616,s % 18446744073709551616]) _ (fun w h=>Blk.range (hc w h)) Tryd.underlying158 rfl (size_sum _ rfl) hk
theorem b_fe {f : FuncId} {xs : Array Operand} {ats : Array TypeId} {args : Array Value} {x : F} (hg : Region.wanted o (yielded ops a.tmps) = true)
  (hf : Own f) (hc : ∀ w,C0 w → Calls Tryd.prog f args w (fun e w'=>∃ r,EB r x ∧ e = .returned (.agg (Us r).toArray) ∧ Below w.heap.size w w'))
  (ho : o.op = .call { callee:=.value (.func f),args:=xs,argTypes:=ats }) (hx : xs.toList.map a.eval = args.toList) (hk : ∀ r,EB r x → wpB Tryd.prog ops C0 Q rest (a.put o.dst (.agg (Us r).toArray))) : wpB Tryd.prog ops C0 Q (o :: rest) a:=by
 refine b_call (f:=f) (args:=args) (fun v=>∃ r,EB r x ∧ v = .agg (Us r).toArray) hg (by rw [ho]; rfl) (fun w hw=>(hc w hw).mono ?_) (fun w=>by rw [run_call_fn hf ho,map_eval hx]) ?_
 ·rintro e w2 ⟨r,hr,rfl,hw2⟩
  exact ⟨_,rfl,⟨r,hr,rfl⟩,hw2⟩
 ·rintro _ ⟨r,hr,rfl⟩
  exact hk r hr
end

/-! ### Five words put together -/
theorem built_u5 (v0 v1 v2 v3 v4 : Int) : Tryd.prog.built 75 [(0,.int .u64 v0),(1,.int .u64 v1),(2,.int .u64 v2),(3,.int .u64 v3),(4,.int .u64 v4)] = some #[.int .u64 v0,.int .u64 v1,.int .u64 v2,.int .u64 v3,.int .u64 v4]:=by kernel_rfl
theorem built_el (v0 v1 v2 v3 v4 : Int) : Tryd.prog.built 77 [(0,.agg #[.int .u64 v0,.int .u64 v1,.int .u64 v2,.int .u64 v3,.int .u64 v4])] = some #[.int .u64 v0,.int .u64 v1,.int .u64 v2,.int .u64 v3,.int .u64 v4]:=by kernel_rfl
theorem built_zero : Tryd.prog.built 77 [] = some z5:=by kernel_rfl
end Go.Proofs.YtminmeljonbogaaDoor
/-
  THE FIELD'S NUMBERS: Mul.
-/
namespace Go.Proofs.YtminmeljonbogaaDoor
open Go.RowKit Go.IntWalk Nums

set_option maxRecDepth 100000 in
set_option maxHeartbeats 2000000 in
theorem elmul_f {a b : List Nat} {x y : F} (ha : EB a x) (hb : EB b y) (w : World) :
  Calls Tryd.prog 79 #[.agg (Us a).toArray,.agg (Us b).toArray] w fun e w'=>∃ r,EB r (x * y) ∧ e = .returned (.agg (Us r).toArray) ∧ Below w.heap.size w w':=by
 obtain ⟨b0,b1,b2,b3,b4,rfl,r0,r1,r2,r3,r4,rv⟩:=hb.five;have e0 : (Us [b0,b1,b2,b3,b4]).toArray = #[.int .u64 (b0 : Int),.int .u64 (b1 : Int),.int .u64 (b2 : Int),.int .u64 (b3 : Int),.int .u64 (b4 : Int)]:=rfl;rw [e0]
 go_enter Tryd.func79,Tryd.ntmps79
 go_wp2
 go_region
 go_wp2
 go_loopw [32,5,6,7,8,9] (fun i v5 v6 v7 v8 v9 wr=>∃ k : Nat,k ≤ 5 ∧ i = .int .i64 k ∧ ∃ c0 c1 c2 c3 c4 s0 s1 s2 s3 s4 : Nat,v5 = .int .u64 c0 ∧ v6 = .int .u64 c1 ∧ v7 = .int .u64 c2 ∧ v8 = .int .u64 c3 ∧ v9 = .int .u64 c4 ∧ MM a y k c0 c1 c2 c3 c4 s0 s1 s2 s3 s4 ∧ MSt w wr a s0 s1 s2 s3 s4) (fun i _ _ _ _ _ _=>5 - (intOf i).toNat)
 case atStart =>
  exact ⟨0,by omega,rfl,b0,b1,b2,b3,b4,0,0,0,0,0,rfl,rfl,rfl,rfl,rfl,MM.start r0 r1 r2 r3 r4 rv,mst_start w a _⟩
 case round =>
  obtain ⟨k,hk,rfl,c0,c1,c2,c3,c4,s0,s1,s2,s3,s4,rfl,rfl,rfl,rfl,rfl,hM,hS⟩:=hrel
  by_cases hlt : k < 5
  ·have hN:=hM.next ha hlt
   have hd:=(hS.ba.cell k).trans (Us_at (by rw [ha.len]; exact hlt));have hv:=eb_get ha hlt
   obtain ⟨g0,g1,g2,g3,g4,u4,t0,t1,t2,t3,t4⟩ : c0 < 42784196465000448 ∧ c1 < 42784196465000448 ∧ c2 < 42784196465000448 ∧ c3 < 42784196465000448 ∧ c4 < 42784196465000448 ∧ c4 < 2251799813947392 ∧ s0 < 41538374868278621028243970633760768 ∧ s1 < 41538374868278621028243970633760768 ∧ s2 < 41538374868278621028243970633760768 ∧ s3 < 41538374868278621028243970633760768 ∧ s4 < 41538374868278621028243970633760768:=by
    obtain ⟨_,_,g0,g1,g2,g3,g4,u0,u1,u2,u3,u4,t0,t1,t2,t3,t4⟩:=hM;exact ⟨g0,g1,g2,g3,g4,u4 (by omega),by omega,by omega,by omega,by omega,by omega⟩
   have p0:=prod_le hv g0;have p1:=prod_le hv g1;have p2:=prod_le hv g2;have p3:=prod_le hv g3;have p4:=prod_le hv g4;generalize a[k]! = v at *;have HP0:=fun w1=>Lib.hid (plus_f s0 v c0 (by omega) (by omega) (by omega) w1);have HP1:=fun w1=>Lib.hid (plus_f s1 v c1 (by omega) (by omega) (by omega) w1);have HP2:=fun w1=>Lib.hid (plus_f s2 v c2 (by omega) (by omega) (by omega) w1);have HP3:=fun w1=>Lib.hid (plus_f s3 v c3 (by omega) (by omega) (by omega) w1);have HP4:=fun w1=>Lib.hid (plus_f s4 v c4 (by omega) (by omega) (by omega) w1);have HN:=Lib.hid hN
   have q1 : IntKind.u64.wrap (19 * (c4 : Int)) = ((19 * c4 : Nat) : Int):=by rw [IntKind.wrap_u64]; omega
   have q2 : (0 : Int) ≤ (k : Int):=by omega
   clear hN hM p0 p1 p2 p3 p4 g0 g1 g2 g3 g4 u4 t0 t1 t2 t3 t4 hv rv r0 r1 r2 r3 r4 hb;generalize s0 + v * c0 = n0 at *;generalize s1 + v * c1 = n1 at *;generalize s2 + v * c2 = n2 at *;generalize s3 + v * c3 = n3 at *;generalize s4 + v * c4 = n4 at *;generalize 19 * c4 = d at *;have hk0:=hS.k0;have HS:=Lib.hid hS;clear hS
   go_wp2_with (refine wpList_load_row rfl 158 _ rfl (w.heap.size + 1 + 1 + 1) rfl 158 (W2 s0) (0,0) _ hk0 Tryd.underlying158 rfl (size_sum _ (W2_size _)) ?_)
   refine (HP0 _).out.mono ?_
   rintro e w1 ⟨rfl,hw⟩
   have hS:=HS.out.step hw;have hk:=hS.k0;have hS2:=hS.set0 n0;have hk2:=hS2.k1;clear HS hw hS;have HS:=Lib.hid hS2;clear hS2
   go_wp2_with (first
    | (refine wpList_store_row rfl 158 _ _ rfl (w.heap.size + 1 + 1 + 1) rfl (W2 n0) rfl 158 _ hk (size_sum _ (W2_size _)) rfl (W2_one _) ?_)
    | (refine wpList_load_row rfl 158 _ rfl (w.heap.size + 1 + 1 + 1 + 1) rfl 158 (W2 s1) (0,0) _ hk2 Tryd.underlying158 rfl (size_sum _ (W2_size _)) ?_))
   clear hk hk2;refine (HP1 _).out.mono ?_
   rintro e w2 ⟨rfl,hw⟩
   have hS:=HS.out.step hw;have hk:=hS.k1;have hS2:=hS.set1 n1;have hk2:=hS2.k2;clear HS hw hS;have HS:=Lib.hid hS2;clear hS2
   go_wp2_with (first
    | (refine wpList_store_row rfl 158 _ _ rfl (w.heap.size + 1 + 1 + 1 + 1) rfl (W2 n1) rfl 158 _ hk (size_sum _ (W2_size _)) rfl (W2_one _) ?_)
    | (refine wpList_load_row rfl 158 _ rfl (w.heap.size + 1 + 1 + 1 + 1 + 1) rfl 158 (W2 s2) (0,0) _ hk2 Tryd.underlying158 rfl (size_sum _ (W2_size _)) ?_))
   clear hk hk2;refine (HP2 _).out.mono ?_
   rintro e w3 ⟨rfl,hw⟩
   have hS:=HS.out.step hw;have hk:=hS.k2;have hS2:=hS.set2 n2;have hk2:=hS2.k3;clear HS hw hS;have HS:=Lib.hid hS2;clear hS2
   go_wp2_with (first
    | (refine wpList_store_row rfl 158 _ _ rfl (w.heap.size + 1 + 1 + 1 + 1 + 1) rfl (W2 n2) rfl 158 _ hk (size_sum _ (W2_size _)) rfl (W2_one _) ?_)
    | (refine wpList_load_row rfl 158 _ rfl (w.heap.size + 1 + 1 + 1 + 1 + 1 + 1) rfl 158 (W2 s3) (0,0) _ hk2 Tryd.underlying158 rfl (size_sum _ (W2_size _)) ?_))
   clear hk hk2;refine (HP3 _).out.mono ?_
   rintro e w4 ⟨rfl,hw⟩
   have hS:=HS.out.step hw;have hk:=hS.k3;have hS2:=hS.set3 n3;have hk2:=hS2.k4;clear HS hw hS;have HS:=Lib.hid hS2;clear hS2
   go_wp2_with (first
    | (refine wpList_store_row rfl 158 _ _ rfl (w.heap.size + 1 + 1 + 1 + 1 + 1 + 1) rfl (W2 n3) rfl 158 _ hk (size_sum _ (W2_size _)) rfl (W2_one _) ?_)
    | (refine wpList_load_row rfl 158 _ rfl (w.heap.size + 1 + 1 + 1 + 1 + 1 + 1 + 1) rfl 158 (W2 s4) (0,0) _ hk2 Tryd.underlying158 rfl (size_sum _ (W2_size _)) ?_))
   clear hk hk2;refine (HP4 _).out.mono ?_
   rintro e w5 ⟨rfl,hw⟩
   have hS:=HS.out.step hw;have hk:=hS.k4;have hS2:=hS.set4 n4;clear HS hw hS;have HS:=Lib.hid hS2;clear hS2
   go_wp2_with (refine wpList_store_row rfl 158 _ _ rfl (w.heap.size + 1 + 1 + 1 + 1 + 1 + 1 + 1) rfl (W2 n4) rfl 158 _ hk (size_sum _ (W2_size _)) rfl (W2_one _) ?_)
   clear hk
   go_roundw
   case rel =>
    exact ⟨k + 1,by omega,by go_num,d,c0,c1,c2,c3,n0,n1,n2,n3,n4,rfl,rfl,rfl,rfl,rfl,HN.out,HS.out⟩
   case measure=>simp [intOf]; omega
  ·obtain rfl : k = 5:=by omega
   obtain ⟨hv,m0,m1,m2,m3,m4,d0,d1,d2,d3,d4⟩:=hM.fin ha;obtain ⟨hba,hbr,k0,k1,k2,k3,k4,hbe⟩:=hS;have hE:=crd_eb (a0:=s0 % 2251799813685248 + 19 * (s4 / 2251799813685248)) (a1:=s1 % 2251799813685248 + s0 / 2251799813685248) (a2:=s2 % 2251799813685248 + s1 / 2251799813685248) (a3:=s3 % 2251799813685248 + s2 / 2251799813685248) (a4:=s4 % 2251799813685248 + s3 / 2251799813685248) (by omega) (by omega) (by omega) (by omega) (by omega)
   have hE2 : EB (crd (s0 % 2251799813685248 + 19 * (s4 / 2251799813685248)) (s1 % 2251799813685248 + s0 / 2251799813685248) (s2 % 2251799813685248 + s1 / 2251799813685248) (s3 % 2251799813685248 + s2 / 2251799813685248) (s4 % 2251799813685248 + s3 / 2251799813685248)) (x * y):=by
    have h : fof (lv (crd s0 s1 s2 s3 s4)) = x * y:=hv
    unfold crd at h
    rw [h] at hE;exact hE
   have HC:=fun w1=>carried_f (s0 % 2251799813685248 + 19 * (s4 / 2251799813685248)) (s1 % 2251799813685248 + s0 / 2251799813685248) (s2 % 2251799813685248 + s1 / 2251799813685248) (s3 % 2251799813685248 + s2 / 2251799813685248) (s4 % 2251799813685248 + s3 / 2251799813685248) (by omega) (by omega) (by omega) (by omega) (by omega) w1;generalize crd (s0 % 2251799813685248 + 19 * (s4 / 2251799813685248)) (s1 % 2251799813685248 + s0 / 2251799813685248) (s2 % 2251799813685248 + s1 / 2251799813685248) (s3 % 2251799813685248 + s2 / 2251799813685248) (s4 % 2251799813685248 + s3 / 2251799813685248) = r at *;clear hE hv hM hba rv r0 r1 r2 r3 r4 hb;have HC2:=Lib.hid HC;have HE:=Lib.hid hE2;clear HC hE2
   go_wp2
   refine reg_set 29 (.tmp 4) 77 (.tmp 94) rfl rfl rfl rfl (by kernel_rfl) (tail_ok (by kernel_rfl)) (fun _ _ d _ _ h=>by cases d <;> exact h) ?_;simp only [List.take_succ_cons,List.take_zero];refine b_sum (w.heap.size + 1 + 1 + 1) _ rfl rfl rfl (fun _ h=>h.blk k0) ?_; simp only [Act.put,List.setIfInBounds_toArray,List.set_cons_zero,List.set_cons_succ];refine b_one rfl own_low (fun w1=>low_f s0 w1) rfl rfl ?_; simp only [Act.put,List.setIfInBounds_toArray,List.set_cons_zero,List.set_cons_succ];refine b_sum (w.heap.size + 1 + 1 + 1 + 1 + 1 + 1 + 1) _ rfl rfl rfl (fun _ h=>h.blk k4) ?_; simp only [Act.put,List.setIfInBounds_toArray,List.set_cons_zero,List.set_cons_succ];refine b_one rfl own_high (fun w1=>high_f s4 m4 w1) rfl rfl ?_; simp only [Act.put,List.setIfInBounds_toArray,List.set_cons_zero,List.set_cons_succ];refine b_mulu 19 (s4 / 2251799813685248) rfl rfl rfl rfl (by omega) ?_; simp only [Act.put,List.setIfInBounds_toArray,List.set_cons_zero,List.set_cons_succ];refine b_addu (s0 % 2251799813685248) (19 * (s4 / 2251799813685248)) rfl rfl rfl rfl (by omega) ?_; simp only [Act.put,List.setIfInBounds_toArray,List.set_cons_zero,List.set_cons_succ];refine b_sum (w.heap.size + 1 + 1 + 1 + 1) _ rfl rfl rfl (fun _ h=>h.blk k1) ?_; simp only [Act.put,List.setIfInBounds_toArray,List.set_cons_zero,List.set_cons_succ];refine b_one rfl own_low (fun w1=>low_f s1 w1) rfl rfl ?_; simp only [Act.put,List.setIfInBounds_toArray,List.set_cons_zero,List.set_cons_succ];refine b_sum (w.heap.size + 1 + 1 + 1) _ rfl rfl rfl (fun _ h=>h.blk k0) ?_; simp only [Act.put,List.setIfInBounds_toArray,List.set_cons_zero,List.set_cons_succ];refine b_one rfl own_high (fun w1=>high_f s0 m0 w1) rfl rfl ?_; simp only [Act.put,List.setIfInBounds_toArray,List.set_cons_zero,List.set_cons_succ];refine b_addu (s1 % 2251799813685248) (s0 / 2251799813685248) rfl rfl rfl rfl (by omega) ?_; simp only [Act.put,List.setIfInBounds_toArray,List.set_cons_zero,List.set_cons_succ];refine b_sum (w.heap.size + 1 + 1 + 1 + 1 + 1) _ rfl rfl rfl (fun _ h=>h.blk k2) ?_; simp only [Act.put,List.setIfInBounds_toArray,List.set_cons_zero,List.set_cons_succ];refine b_one rfl own_low (fun w1=>low_f s2 w1) rfl rfl ?_; simp only [Act.put,List.setIfInBounds_toArray,List.set_cons_zero,List.set_cons_succ];refine b_sum (w.heap.size + 1 + 1 + 1 + 1) _ rfl rfl rfl (fun _ h=>h.blk k1) ?_; simp only [Act.put,List.setIfInBounds_toArray,List.set_cons_zero,List.set_cons_succ];refine b_one rfl own_high (fun w1=>high_f s1 m1 w1) rfl rfl ?_; simp only [Act.put,List.setIfInBounds_toArray,List.set_cons_zero,List.set_cons_succ];refine b_addu (s2 % 2251799813685248) (s1 / 2251799813685248) rfl rfl rfl rfl (by omega) ?_; simp only [Act.put,List.setIfInBounds_toArray,List.set_cons_zero,List.set_cons_succ];refine b_sum (w.heap.size + 1 + 1 + 1 + 1 + 1 + 1) _ rfl rfl rfl (fun _ h=>h.blk k3) ?_; simp only [Act.put,List.setIfInBounds_toArray,List.set_cons_zero,List.set_cons_succ]
   refine b_one rfl own_low (fun w1=>low_f s3 w1) rfl rfl ?_; simp only [Act.put,List.setIfInBounds_toArray,List.set_cons_zero,List.set_cons_succ];refine b_sum (w.heap.size + 1 + 1 + 1 + 1 + 1) _ rfl rfl rfl (fun _ h=>h.blk k2) ?_; simp only [Act.put,List.setIfInBounds_toArray,List.set_cons_zero,List.set_cons_succ];refine b_one rfl own_high (fun w1=>high_f s2 m2 w1) rfl rfl ?_; simp only [Act.put,List.setIfInBounds_toArray,List.set_cons_zero,List.set_cons_succ];refine b_addu (s3 % 2251799813685248) (s2 / 2251799813685248) rfl rfl rfl rfl (by omega) ?_; simp only [Act.put,List.setIfInBounds_toArray,List.set_cons_zero,List.set_cons_succ];refine b_sum (w.heap.size + 1 + 1 + 1 + 1 + 1 + 1 + 1) _ rfl rfl rfl (fun _ h=>h.blk k4) ?_; simp only [Act.put,List.setIfInBounds_toArray,List.set_cons_zero,List.set_cons_succ];refine b_one rfl own_low (fun w1=>low_f s4 w1) rfl rfl ?_; simp only [Act.put,List.setIfInBounds_toArray,List.set_cons_zero,List.set_cons_succ];refine b_sum (w.heap.size + 1 + 1 + 1 + 1 + 1 + 1) _ rfl rfl rfl (fun _ h=>h.blk k3) ?_; simp only [Act.put,List.setIfInBounds_toArray,List.set_cons_zero,List.set_cons_succ];refine b_one rfl own_high (fun w1=>high_f s3 m3 w1) rfl rfl ?_; simp only [Act.put,List.setIfInBounds_toArray,List.set_cons_zero,List.set_cons_succ];refine b_addu (s4 % 2251799813685248) (s3 / 2251799813685248) rfl rfl rfl rfl (by omega) ?_; simp only [Act.put,List.setIfInBounds_toArray,List.set_cons_zero,List.set_cons_succ];refine b_build _ _ rfl rfl rfl (built_u5 _ _ _ _ _) ?_; simp only [Act.put,List.setIfInBounds_toArray,List.set_cons_zero,List.set_cons_succ];refine b_build _ _ rfl rfl rfl (built_el _ _ _ _ _) ?_; simp only [Act.put,List.setIfInBounds_toArray,List.set_cons_zero,List.set_cons_succ];refine b_one rfl own_carried (fun w1=>HC2.out w1) rfl rfl ?_; simp only [Act.put,List.setIfInBounds_toArray,List.set_cons_zero,List.set_cons_succ];have hzr:=len_us HE.out.len;refine wpB_nil ⟨_,z5,(Us r).toArray,rfl,rfl,hbr,by rw [hzr]; rfl,size_el _ hzr,Us_one _,fun w1 hw1=>?_⟩;have hfin:=hw1.blk hbr;have hbe2:=below_up hbe hw1
   go_wp2
   refine bodyPost_ret (results_cell_row rfl _ _ (w.heap.size + 1 + 1) 77 (Us r).toArray (0,0) _ rfl (hfin.row _) Tryd.underlying77 rfl (size_el _ hzr)) rfl ⟨r,HE.out,rfl,?_⟩;exact below_setRow hbe2 (by omega) _
end Go.Proofs.YtminmeljonbogaaDoor
/-
  THE FIELD'S NUMBERS: squared, ones, eighth, Inv.
-/
namespace Go.Proofs.YtminmeljonbogaaDoor
open Go.RowKit Go.IntWalk Nums

theorem own_squared : Own 123:=fun _ _=>by go_simp
theorem own_ones : Own 124:=fun _ _=>by go_simp
theorem own_eighth : Own 118:=fun _ _=>by go_simp

theorem elmul_p {a b : List Nat} {x : F} {d e : Nat} (ha : EB a (fpow x d)) (hb : EB b (fpow x e)) (w : World) :
  Calls Tryd.prog 79 #[.agg (Us a).toArray,.agg (Us b).toArray] w fun e' w'=>∃ r,EB r (fpow x (d + e)) ∧ e' = .returned (.agg (Us r).toArray) ∧ Below w.heap.size w w':=by
 rw [fpow_add];exact elmul_f ha hb w

set_option maxRecDepth 100000 in
set_option maxHeartbeats 1000000 in
theorem squared_f {a : List Nat} {x : F} (ha : EB a x) (n : Nat) (hn : n < 300) (w : World) :
  Calls Tryd.prog 123 #[.agg (Us a).toArray,.int .i64 n] w fun e w'=>∃ r,EB r (fpow x (2 ^ n)) ∧ e = .returned (.agg (Us r).toArray) ∧ Below w.heap.size w w':=by
 have hs : ∀ k,fpow x (2 ^ (k + 1)) = fpow x (2 ^ k) * fpow x (2 ^ k):=fun k=>by rw [← fpow_add,Nat.pow_succ]; congr 1; omega
 have HS:=Lib.hid hs;clear hs
 go_enter Tryd.func123,Tryd.ntmps123
 go_wp2
 go_loopw [6] (fun i wr=>∃ k : Nat,k ≤ n ∧ i = .int .i64 k ∧ ∃ r,EB r (fpow x (2 ^ k)) ∧ Blk wr w.heap.size 77 (Us r).toArray ∧ Blk wr (w.heap.size + 1) 77 z5 ∧ Below w.heap.size w wr) (fun i _=>n - (intOf i).toNat)
 case atStart =>
  refine ⟨0,by omega,rfl,a,?_,heap_alloc2_old w _ _,heap_alloc2_new w _ _,((Below.refl _ _).alloc (Nat.le_refl _) _).alloc (by simp) _⟩;rw [Nat.pow_zero,fpow_one];exact ha
 case round =>
  obtain ⟨k,hk,rfl,r,hr,h0,h1,hbel⟩:=hrel
  by_cases hlt : k < n
  ·have HM:=fun w1=>Lib.hid (elmul_f hr hr w1)
   rw [← HS.out k] at HM;have hzr:=len_us hr.len;have HK:=Lib.hid (And.intro h0 (And.intro h1 hbel))
   have q0 : (k : Int) < (n : Int):=by omega
   clear h1 hbel
   go_wp2_with (refine wpList_load_row rfl 77 _ rfl w.heap.size rfl 77 (Us r).toArray (0,0) _ h0 Tryd.underlying77 rfl (size_el _ hzr) ?_)
   refine (HM _).out.mono ?_
   rintro e w2 ⟨r1,hr1,rfl,hw2⟩
   have hz1:=len_us hr1.len;obtain ⟨h0,h1,hbel⟩:=HK.out;have k0:=h0.below hw2 h0.lt;have k1:=h1.below hw2 h1.lt;have kb:=hbel.trans (hw2.mono hbel.size)
   have HR:=Lib.hid (show Blk (w2.setRow w.heap.size (Us r1).toArray) w.heap.size 77 (Us r1).toArray ∧ Blk (w2.setRow w.heap.size (Us r1).toArray) (w.heap.size + 1) 77 z5 ∧ Below w.heap.size w (w2.setRow w.heap.size (Us r1).toArray) from
    ⟨k0.row _,k1.rowFar (by omega) _,below_setRow kb (Nat.le_refl _) _⟩)
   clear HM HK h0 h1 hbel k1 kb hw2
   go_wp2_with (refine wpList_store_row rfl 77 _ _ rfl w.heap.size rfl (Us r1).toArray rfl 77 _ k0 (size_el _ hz1) (by rw [hz1,hzr]) (Us_one _) ?_)
   go_roundw
   case rel=>exact ⟨k + 1,by omega,by go_num,r1,hr1,HR.out⟩
   case measure=>simp [intOf]; omega
  ·obtain rfl : k = n:=by omega
   have hzr:=len_us hr.len
   go_wp2_with (first
    | (refine wpList_load_row rfl 77 _ rfl w.heap.size rfl 77 (Us r).toArray (0,0) _ h0 Tryd.underlying77 rfl (size_el _ hzr) ?_)
    | (refine wpList_store_row rfl 77 _ _ rfl (w.heap.size + 1) rfl (Us r).toArray rfl 77 _ h1 (size_el _ hzr) (by rw [hzr]; rfl) (Us_one _) ?_))
   refine bodyPost_ret (results_cell_row rfl _ _ (w.heap.size + 1) 77 (Us r).toArray (0,0) _ rfl (h1.row _) Tryd.underlying77 rfl (size_el _ hzr)) rfl ⟨r,hr,rfl,?_⟩;exact below_setRow hbel (by omega) _

theorem squared_p {a : List Nat} {x : F} {d : Nat} (ha : EB a (fpow x d)) (n : Nat) (hn : n < 300) (w : World) :
  Calls Tryd.prog 123 #[.agg (Us a).toArray,.int .i64 n] w fun e w'=>∃ r,EB r (fpow x (d * 2 ^ n)) ∧ e = .returned (.agg (Us r).toArray) ∧ Below w.heap.size w w':=by
 rw [fpow_mul];exact squared_f ha n hn w

theorem ones_end {r : List Nat} {x : F} (h : EB r (fpow x ((1267650600228229401496703205375 * 2 ^ 100 + 1267650600228229401496703205375) * 2 ^ 50 + 1125899906842623))) : EB r (fpow x (2 ^ 250 - 1)):=by
 rw [show (2 : Nat) ^ 250 - 1 = ((1267650600228229401496703205375 * 2 ^ 100 + 1267650600228229401496703205375) * 2 ^ 50 + 1125899906842623) from by decide];exact h
theorem eighth_end {r : List Nat} {x : F} (h : EB r (fpow (fpow x (2 ^ 250 - 1)) (2 ^ 2) * x)) : EB r (fpow x (2 ^ 252 - 3)):=by
 rw [show (2 : Nat) ^ 252 - 3 = (2 ^ 250 - 1) * 2 ^ 2 + 1 from by decide,fpow_succ,fpow_mul];exact h

set_option maxRecDepth 100000 in
set_option maxHeartbeats 1000000 in
theorem ones_f {a : List Nat} {x : F} (hA1 : EB a x) (w : World) :
  Calls Tryd.prog 124 #[.agg (Us a).toArray] w fun e w'=>∃ r,EB r (fpow x (2 ^ 250 - 1)) ∧ e = .returned (.agg (Us r).toArray) ∧ Below w.heap.size w w':=by
 have hA : EB a (fpow x 1):=by rw [fpow_one]; exact hA1
 go_enter Tryd.func124,Tryd.ntmps124
 refine wp_seq_k fun K hK=>?_;refine wp_region_lit ?_;refine wpl_box (Us a).toArray rfl rfl rfl ?_;refine wpl_alloc (zs:=z5) rfl rfl (by kernel_rfl) ?_;refine wpl_nil ?_
 go_simp
 refine hK _ _ ?_;clear hK K
 refine wp_at (fun W=>Blk W w.heap.size 77 (Us a).toArray ∧ Blk W (w.heap.size + 1) 77 z5 ∧ Below w.heap.size w W)
  ⟨heap_alloc2_old w _ _,heap_alloc2_new w _ _,((Below.refl _ _).alloc (Nat.le_refl _) _).alloc (by simp) _⟩ ?_
 rintro W ⟨ha,ho,hbe⟩
 -- walk ones
 refine wp_seq_k fun K hK=>?_;refine reg_var 4 3 77 (.tmp 14) z5 rfl rfl rfl rfl rfl rfl rfl (by kernel_rfl) (tail_ok (by kernel_rfl)) (by kernel_rfl) (fun _ _ d _ _ h=>by cases d <;> exact h) (exec_alloc rfl (by kernel_rfl)) ?_;simp only [List.take_succ_cons,List.take_zero];refine b_el w.heap.size hA.len _ rfl rfl rfl (fun _ h=>h.blk ha) ?_;simp only [Act.put,List.setIfInBounds_toArray,List.set_cons_zero,List.set_cons_succ];refine b_fe rfl own_squared (fun w1 _=>squared_p hA 1 (by omega) w1) rfl rfl ?_
 intro r1 v1
 simp only [Act.put,List.setIfInBounds_toArray,List.set_cons_zero,List.set_cons_succ];refine b_el w.heap.size hA.len _ rfl rfl rfl (fun _ h=>h.blk ha) ?_;simp only [Act.put,List.setIfInBounds_toArray,List.set_cons_zero,List.set_cons_succ];refine b_fe rfl own_elmul (fun w1 _=>elmul_p v1 hA w1) rfl rfl ?_
 intro r2 v2
 simp only [Act.put,List.setIfInBounds_toArray,List.set_cons_zero,List.set_cons_succ];refine wpB_nil ⟨(Us r2).toArray,fun _=>rfl,fun _=>rfl,(len_us v2.len).symm,size_el _ (len_us v2.len),Us_one _,fun gtwo W1 hgtwo hw1 hbtwo=>?_⟩;simp only [Exit.then,Act.put,List.setIfInBounds_toArray,List.set_cons_zero,List.set_cons_succ];refine hK _ _ ?_;clear hK K;have ha:=hw1.blk ha;have ho:=hw1.blk ho;have hbe:=below_up hbe hw1;clear hw1;have v2 : EB r2 (fpow x 3):=v2;refine wp_seq_k fun K hK=>?_;refine reg_var 4 4 77 (.tmp 18) z5 rfl rfl rfl rfl rfl rfl rfl (by kernel_rfl) (tail_ok (by kernel_rfl)) (by kernel_rfl) (fun _ _ d _ _ h=>by cases d <;> exact h) (exec_alloc rfl (by kernel_rfl)) ?_;simp only [List.take_succ_cons,List.take_zero];refine b_el gtwo v2.len _ rfl rfl rfl (fun _ h=>h.blk hbtwo) ?_;simp only [Act.put,List.setIfInBounds_toArray,List.set_cons_zero,List.set_cons_succ];refine b_fe rfl own_squared (fun w1 _=>squared_p v2 2 (by omega) w1) rfl rfl ?_
 intro r3 v3
 simp only [Act.put,List.setIfInBounds_toArray,List.set_cons_zero,List.set_cons_succ];refine b_el gtwo v2.len _ rfl rfl rfl (fun _ h=>h.blk hbtwo) ?_;simp only [Act.put,List.setIfInBounds_toArray,List.set_cons_zero,List.set_cons_succ];refine b_fe rfl own_elmul (fun w1 _=>elmul_p v3 v2 w1) rfl rfl ?_
 intro r4 v4
 simp only [Act.put,List.setIfInBounds_toArray,List.set_cons_zero,List.set_cons_succ];refine wpB_nil ⟨(Us r4).toArray,fun _=>rfl,fun _=>rfl,(len_us v4.len).symm,size_el _ (len_us v4.len),Us_one _,fun gfour W1 hgfour hw1 hbfour=>?_⟩;simp only [Exit.then,Act.put,List.setIfInBounds_toArray,List.set_cons_zero,List.set_cons_succ];refine hK _ _ ?_;clear hK K;have ha:=hw1.blk ha;have hbtwo:=hw1.blk hbtwo;have ho:=hw1.blk ho;have hbe:=below_up hbe hw1;clear hw1;have v4 : EB r4 (fpow x 15):=v4;refine wp_seq_k fun K hK=>?_;refine reg_var 4 5 77 (.tmp 22) z5 rfl rfl rfl rfl rfl rfl rfl (by kernel_rfl) (tail_ok (by kernel_rfl)) (by kernel_rfl) (fun _ _ d _ _ h=>by cases d <;> exact h) (exec_alloc rfl (by kernel_rfl)) ?_;simp only [List.take_succ_cons,List.take_zero];refine b_el gfour v4.len _ rfl rfl rfl (fun _ h=>h.blk hbfour) ?_;simp only [Act.put,List.setIfInBounds_toArray,List.set_cons_zero,List.set_cons_succ];refine b_fe rfl own_squared (fun w1 _=>squared_p v4 1 (by omega) w1) rfl rfl ?_
 intro r5 v5
 simp only [Act.put,List.setIfInBounds_toArray,List.set_cons_zero,List.set_cons_succ];refine b_el w.heap.size hA.len _ rfl rfl rfl (fun _ h=>h.blk ha) ?_;simp only [Act.put,List.setIfInBounds_toArray,List.set_cons_zero,List.set_cons_succ];refine b_fe rfl own_elmul (fun w1 _=>elmul_p v5 hA w1) rfl rfl ?_
 intro r6 v6
 simp only [Act.put,List.setIfInBounds_toArray,List.set_cons_zero,List.set_cons_succ];refine wpB_nil ⟨(Us r6).toArray,fun _=>rfl,fun _=>rfl,(len_us v6.len).symm,size_el _ (len_us v6.len),Us_one _,fun gfive W1 hgfive hw1 hbfive=>?_⟩;simp only [Exit.then,Act.put,List.setIfInBounds_toArray,List.set_cons_zero,List.set_cons_succ];refine hK _ _ ?_;clear hK K;have ha:=hw1.blk ha;have hbtwo:=hw1.blk hbtwo;have hbfour:=hw1.blk hbfour;have ho:=hw1.blk ho;have hbe:=below_up hbe hw1;clear hw1;have v6 : EB r6 (fpow x 31):=v6;refine wp_seq_k fun K hK=>?_;refine reg_var 4 6 77 (.tmp 26) z5 rfl rfl rfl rfl rfl rfl rfl (by kernel_rfl) (tail_ok (by kernel_rfl)) (by kernel_rfl) (fun _ _ d _ _ h=>by cases d <;> exact h) (exec_alloc rfl (by kernel_rfl)) ?_;simp only [List.take_succ_cons,List.take_zero];refine b_el gfive v6.len _ rfl rfl rfl (fun _ h=>h.blk hbfive) ?_;simp only [Act.put,List.setIfInBounds_toArray,List.set_cons_zero,List.set_cons_succ];refine b_fe rfl own_squared (fun w1 _=>squared_p v6 5 (by omega) w1) rfl rfl ?_
 intro r7 v7
 simp only [Act.put,List.setIfInBounds_toArray,List.set_cons_zero,List.set_cons_succ];refine b_el gfive v6.len _ rfl rfl rfl (fun _ h=>h.blk hbfive) ?_;simp only [Act.put,List.setIfInBounds_toArray,List.set_cons_zero,List.set_cons_succ];refine b_fe rfl own_elmul (fun w1 _=>elmul_p v7 v6 w1) rfl rfl ?_
 intro r8 v8
 simp only [Act.put,List.setIfInBounds_toArray,List.set_cons_zero,List.set_cons_succ];refine wpB_nil ⟨(Us r8).toArray,fun _=>rfl,fun _=>rfl,(len_us v8.len).symm,size_el _ (len_us v8.len),Us_one _,fun gten W1 hgten hw1 hbten=>?_⟩;simp only [Exit.then,Act.put,List.setIfInBounds_toArray,List.set_cons_zero,List.set_cons_succ];refine hK _ _ ?_;clear hK K;have ha:=hw1.blk ha;have hbtwo:=hw1.blk hbtwo;have hbfour:=hw1.blk hbfour;have hbfive:=hw1.blk hbfive;have ho:=hw1.blk ho;have hbe:=below_up hbe hw1;clear hw1;have v8 : EB r8 (fpow x 1023):=v8;refine wp_seq_k fun K hK=>?_;refine reg_var 4 7 77 (.tmp 30) z5 rfl rfl rfl rfl rfl rfl rfl (by kernel_rfl) (tail_ok (by kernel_rfl)) (by kernel_rfl) (fun _ _ d _ _ h=>by cases d <;> exact h) (exec_alloc rfl (by kernel_rfl)) ?_;simp only [List.take_succ_cons,List.take_zero];refine b_el gten v8.len _ rfl rfl rfl (fun _ h=>h.blk hbten) ?_;simp only [Act.put,List.setIfInBounds_toArray,List.set_cons_zero,List.set_cons_succ];refine b_fe rfl own_squared (fun w1 _=>squared_p v8 10 (by omega) w1) rfl rfl ?_
 intro r9 v9
 simp only [Act.put,List.setIfInBounds_toArray,List.set_cons_zero,List.set_cons_succ];refine b_el gten v8.len _ rfl rfl rfl (fun _ h=>h.blk hbten) ?_;simp only [Act.put,List.setIfInBounds_toArray,List.set_cons_zero,List.set_cons_succ];refine b_fe rfl own_elmul (fun w1 _=>elmul_p v9 v8 w1) rfl rfl ?_
 intro r10 v10
 simp only [Act.put,List.setIfInBounds_toArray,List.set_cons_zero,List.set_cons_succ];refine wpB_nil ⟨(Us r10).toArray,fun _=>rfl,fun _=>rfl,(len_us v10.len).symm,size_el _ (len_us v10.len),Us_one _,fun gtwenty W1 hgtwenty hw1 hbtwenty=>?_⟩;simp only [Exit.then,Act.put,List.setIfInBounds_toArray,List.set_cons_zero,List.set_cons_succ];refine hK _ _ ?_;clear hK K;have ha:=hw1.blk ha;have hbtwo:=hw1.blk hbtwo;have hbfour:=hw1.blk hbfour;have hbfive:=hw1.blk hbfive;have hbten:=hw1.blk hbten;have ho:=hw1.blk ho;have hbe:=below_up hbe hw1;clear hw1;have v10 : EB r10 (fpow x 1048575):=v10;refine wp_seq_k fun K hK=>?_;refine reg_var 4 8 77 (.tmp 34) z5 rfl rfl rfl rfl rfl rfl rfl (by kernel_rfl) (tail_ok (by kernel_rfl)) (by kernel_rfl) (fun _ _ d _ _ h=>by cases d <;> exact h) (exec_alloc rfl (by kernel_rfl)) ?_;simp only [List.take_succ_cons,List.take_zero];refine b_el gtwenty v10.len _ rfl rfl rfl (fun _ h=>h.blk hbtwenty) ?_;simp only [Act.put,List.setIfInBounds_toArray,List.set_cons_zero,List.set_cons_succ];refine b_fe rfl own_squared (fun w1 _=>squared_p v10 20 (by omega) w1) rfl rfl ?_
 intro r11 v11
 simp only [Act.put,List.setIfInBounds_toArray,List.set_cons_zero,List.set_cons_succ];refine b_el gtwenty v10.len _ rfl rfl rfl (fun _ h=>h.blk hbtwenty) ?_;simp only [Act.put,List.setIfInBounds_toArray,List.set_cons_zero,List.set_cons_succ];refine b_fe rfl own_elmul (fun w1 _=>elmul_p v11 v10 w1) rfl rfl ?_
 intro r12 v12
 simp only [Act.put,List.setIfInBounds_toArray,List.set_cons_zero,List.set_cons_succ];refine wpB_nil ⟨(Us r12).toArray,fun _=>rfl,fun _=>rfl,(len_us v12.len).symm,size_el _ (len_us v12.len),Us_one _,fun gforty W1 hgforty hw1 hbforty=>?_⟩;simp only [Exit.then,Act.put,List.setIfInBounds_toArray,List.set_cons_zero,List.set_cons_succ];refine hK _ _ ?_;clear hK K;have ha:=hw1.blk ha;have hbtwo:=hw1.blk hbtwo;have hbfour:=hw1.blk hbfour;have hbfive:=hw1.blk hbfive;have hbten:=hw1.blk hbten;have hbtwenty:=hw1.blk hbtwenty;have ho:=hw1.blk ho;have hbe:=below_up hbe hw1;clear hw1;have v12 : EB r12 (fpow x 1099511627775):=v12;refine wp_seq_k fun K hK=>?_;refine reg_var 4 9 77 (.tmp 38) z5 rfl rfl rfl rfl rfl rfl rfl (by kernel_rfl) (tail_ok (by kernel_rfl)) (by kernel_rfl) (fun _ _ d _ _ h=>by cases d <;> exact h) (exec_alloc rfl (by kernel_rfl)) ?_;simp only [List.take_succ_cons,List.take_zero];refine b_el gforty v12.len _ rfl rfl rfl (fun _ h=>h.blk hbforty) ?_;simp only [Act.put,List.setIfInBounds_toArray,List.set_cons_zero,List.set_cons_succ];refine b_fe rfl own_squared (fun w1 _=>squared_p v12 10 (by omega) w1) rfl rfl ?_
 intro r13 v13
 simp only [Act.put,List.setIfInBounds_toArray,List.set_cons_zero,List.set_cons_succ];refine b_el gten v8.len _ rfl rfl rfl (fun _ h=>h.blk hbten) ?_;simp only [Act.put,List.setIfInBounds_toArray,List.set_cons_zero,List.set_cons_succ];refine b_fe rfl own_elmul (fun w1 _=>elmul_p v13 v8 w1) rfl rfl ?_
 intro r14 v14
 simp only [Act.put,List.setIfInBounds_toArray,List.set_cons_zero,List.set_cons_succ];refine wpB_nil ⟨(Us r14).toArray,fun _=>rfl,fun _=>rfl,(len_us v14.len).symm,size_el _ (len_us v14.len),Us_one _,fun gfifty W1 hgfifty hw1 hbfifty=>?_⟩;simp only [Exit.then,Act.put,List.setIfInBounds_toArray,List.set_cons_zero,List.set_cons_succ];refine hK _ _ ?_;clear hK K;have ha:=hw1.blk ha;have hbtwo:=hw1.blk hbtwo;have hbfour:=hw1.blk hbfour;have hbfive:=hw1.blk hbfive;have hbten:=hw1.blk hbten;have hbtwenty:=hw1.blk hbtwenty;have hbforty:=hw1.blk hbforty;have ho:=hw1.blk ho;have hbe:=below_up hbe hw1;clear hw1;have v14 : EB r14 (fpow x 1125899906842623):=v14;refine wp_seq_k fun K hK=>?_;refine reg_var 4 10 77 (.tmp 42) z5 rfl rfl rfl rfl rfl rfl rfl (by kernel_rfl) (tail_ok (by kernel_rfl)) (by kernel_rfl) (fun _ _ d _ _ h=>by cases d <;> exact h) (exec_alloc rfl (by kernel_rfl)) ?_;simp only [List.take_succ_cons,List.take_zero];refine b_el gfifty v14.len _ rfl rfl rfl (fun _ h=>h.blk hbfifty) ?_;simp only [Act.put,List.setIfInBounds_toArray,List.set_cons_zero,List.set_cons_succ];refine b_fe rfl own_squared (fun w1 _=>squared_p v14 50 (by omega) w1) rfl rfl ?_
 intro r15 v15
 simp only [Act.put,List.setIfInBounds_toArray,List.set_cons_zero,List.set_cons_succ];refine b_el gfifty v14.len _ rfl rfl rfl (fun _ h=>h.blk hbfifty) ?_;simp only [Act.put,List.setIfInBounds_toArray,List.set_cons_zero,List.set_cons_succ];refine b_fe rfl own_elmul (fun w1 _=>elmul_p v15 v14 w1) rfl rfl ?_
 intro r16 v16
 simp only [Act.put,List.setIfInBounds_toArray,List.set_cons_zero,List.set_cons_succ];refine wpB_nil ⟨(Us r16).toArray,fun _=>rfl,fun _=>rfl,(len_us v16.len).symm,size_el _ (len_us v16.len),Us_one _,fun ghundred W1 hghundred hw1 hbhundred=>?_⟩;simp only [Exit.then,Act.put,List.setIfInBounds_toArray,List.set_cons_zero,List.set_cons_succ];refine hK _ _ ?_;clear hK K;have ha:=hw1.blk ha;have hbtwo:=hw1.blk hbtwo;have hbfour:=hw1.blk hbfour;have hbfive:=hw1.blk hbfive;have hbten:=hw1.blk hbten;have hbtwenty:=hw1.blk hbtwenty;have hbforty:=hw1.blk hbforty;have hbfifty:=hw1.blk hbfifty;have ho:=hw1.blk ho;have hbe:=below_up hbe hw1;clear hw1;have v16 : EB r16 (fpow x 1267650600228229401496703205375):=v16;refine wp_seq_k fun K hK=>?_;refine reg_set 7 (.tmp 2) 77 (.tmp 49) rfl rfl rfl rfl (by kernel_rfl) (tail_ok (by kernel_rfl)) (fun _ _ d _ _ h=>by cases d <;> exact h) ?_;simp only [List.take_succ_cons,List.take_zero];refine b_el ghundred v16.len _ rfl rfl rfl (fun _ h=>h.blk hbhundred) ?_;simp only [Act.put,List.setIfInBounds_toArray,List.set_cons_zero,List.set_cons_succ];refine b_fe rfl own_squared (fun w1 _=>squared_p v16 100 (by omega) w1) rfl rfl ?_
 intro r17 v17
 simp only [Act.put,List.setIfInBounds_toArray,List.set_cons_zero,List.set_cons_succ];refine b_el ghundred v16.len _ rfl rfl rfl (fun _ h=>h.blk hbhundred) ?_;simp only [Act.put,List.setIfInBounds_toArray,List.set_cons_zero,List.set_cons_succ];refine b_fe rfl own_elmul (fun w1 _=>elmul_p v17 v16 w1) rfl rfl ?_
 intro r18 v18
 simp only [Act.put,List.setIfInBounds_toArray,List.set_cons_zero,List.set_cons_succ];refine b_fe rfl own_squared (fun w1 _=>squared_p v18 50 (by omega) w1) rfl rfl ?_
 intro r19 v19
 simp only [Act.put,List.setIfInBounds_toArray,List.set_cons_zero,List.set_cons_succ];refine b_el gfifty v14.len _ rfl rfl rfl (fun _ h=>h.blk hbfifty) ?_;simp only [Act.put,List.setIfInBounds_toArray,List.set_cons_zero,List.set_cons_succ];refine b_fe rfl own_elmul (fun w1 _=>elmul_p v19 v14 w1) rfl rfl ?_
 intro r20 v20
 simp only [Act.put,List.setIfInBounds_toArray,List.set_cons_zero,List.set_cons_succ];refine wpB_nil ⟨(w.heap.size + 1),_,_,rfl,rfl,ho,(len_us v20.len).symm,size_el _ (len_us v20.len),Us_one _,fun W1 hw1=>?_⟩;simp only [Exit.then];refine hK _ _ ?_;clear hK K;have ho:=hw1.blk ho;have hbe:=below_up hbe hw1;refine wp_ret ?_;refine bodyPost_ret (results_cell_row rfl _ _ (w.heap.size + 1) 77 (Us r20).toArray (0,0) _ rfl (ho.row _) Tryd.underlying77 rfl (size_el _ (len_us v20.len))) rfl ⟨r20,ones_end v20,rfl,?_⟩;exact below_setRow hbe (by omega) _
 -- end ones

set_option maxRecDepth 100000 in
set_option maxHeartbeats 1000000 in
theorem eighth_f {a : List Nat} {x : F} (hA : EB a x) (w : World) :
  Calls Tryd.prog 118 #[.agg (Us a).toArray] w fun e w'=>∃ r,EB r (fpow x (2 ^ 252 - 3)) ∧ e = .returned (.agg (Us r).toArray) ∧ Below w.heap.size w w':=by
 go_enter Tryd.func118,Tryd.ntmps118
 refine wp_seq_k fun K hK=>?_;refine wp_region_lit ?_;refine wpl_box (Us a).toArray rfl rfl rfl ?_;refine wpl_alloc (zs:=z5) rfl rfl (by kernel_rfl) ?_;refine wpl_nil ?_
 go_simp
 refine hK _ _ ?_;clear hK K
 refine wp_at (fun W=>Blk W w.heap.size 77 (Us a).toArray ∧ Blk W (w.heap.size + 1) 77 z5 ∧ Below w.heap.size w W)
  ⟨heap_alloc2_old w _ _,heap_alloc2_new w _ _,((Below.refl _ _).alloc (Nat.le_refl _) _).alloc (by simp) _⟩ ?_
 rintro W ⟨ha,ho,hbe⟩
 -- walk eighth
 refine wp_seq_k fun K hK=>?_;refine reg_set 5 (.tmp 2) 77 (.tmp 7) rfl rfl rfl rfl (by kernel_rfl) (tail_ok (by kernel_rfl)) (fun _ _ d _ _ h=>by cases d <;> exact h) ?_;simp only [List.take_succ_cons,List.take_zero];refine b_el w.heap.size hA.len _ rfl rfl rfl (fun _ h=>h.blk ha) ?_;simp only [Act.put,List.setIfInBounds_toArray,List.set_cons_zero,List.set_cons_succ];refine b_fe rfl own_ones (fun w1 _=>ones_f hA w1) rfl rfl ?_
 intro r1 v1
 simp only [Act.put,List.setIfInBounds_toArray,List.set_cons_zero,List.set_cons_succ];refine b_fe rfl own_squared (fun w1 _=>squared_f v1 2 (by omega) w1) rfl rfl ?_
 intro r2 v2
 simp only [Act.put,List.setIfInBounds_toArray,List.set_cons_zero,List.set_cons_succ];refine b_el w.heap.size hA.len _ rfl rfl rfl (fun _ h=>h.blk ha) ?_;simp only [Act.put,List.setIfInBounds_toArray,List.set_cons_zero,List.set_cons_succ];refine b_fe rfl own_elmul (fun w1 _=>elmul_f v2 hA w1) rfl rfl ?_
 intro r3 v3
 simp only [Act.put,List.setIfInBounds_toArray,List.set_cons_zero,List.set_cons_succ];refine wpB_nil ⟨(w.heap.size + 1),_,_,rfl,rfl,ho,(len_us v3.len).symm,size_el _ (len_us v3.len),Us_one _,fun W1 hw1=>?_⟩;simp only [Exit.then];refine hK _ _ ?_;clear hK K;have ho:=hw1.blk ho;have hbe:=below_up hbe hw1;refine wp_ret ?_;refine bodyPost_ret (results_cell_row rfl _ _ (w.heap.size + 1) 77 (Us r3).toArray (0,0) _ rfl (ho.row _) Tryd.underlying77 rfl (size_el _ (len_us v3.len))) rfl ⟨r3,eighth_end v3,rfl,?_⟩;exact below_setRow hbe (by omega) _
 -- end eighth

theorem inv_end {r : List Nat} {x : F} (h : EB r (fpow x ((2 ^ 250 - 1) * 2 ^ 5 + ((1 + 1) * 2 ^ 2 + (1 + 1) + 1)))) : EB r (finv x):=by
 unfold finv
 rw [show p - 2 = (2 ^ 250 - 1) * 2 ^ 5 + ((1 + 1) * 2 ^ 2 + (1 + 1) + 1) from by decide];exact h

set_option maxRecDepth 100000 in
set_option maxHeartbeats 1000000 in
theorem elinv_f {a : List Nat} {x : F} (hA1 : EB a x) (w : World) :
  Calls Tryd.prog 91 #[.agg (Us a).toArray] w fun e w'=>∃ r,EB r (finv x) ∧ e = .returned (.agg (Us r).toArray) ∧ Below w.heap.size w w':=by
 have hA : EB a (fpow x 1):=by rw [fpow_one]; exact hA1
 go_enter Tryd.func91,Tryd.ntmps91
 refine wp_seq_k fun K hK=>?_;refine wp_region_lit ?_;refine wpl_box (Us a).toArray rfl rfl rfl ?_;refine wpl_alloc (zs:=z5) rfl rfl (by kernel_rfl) ?_;refine wpl_nil ?_
 go_simp
 refine hK _ _ ?_;clear hK K
 refine wp_at (fun W=>Blk W w.heap.size 77 (Us a).toArray ∧ Blk W (w.heap.size + 1) 77 z5 ∧ Below w.heap.size w W)
  ⟨heap_alloc2_old w _ _,heap_alloc2_new w _ _,((Below.refl _ _).alloc (Nat.le_refl _) _).alloc (by simp) _⟩ ?_
 rintro W ⟨ha,ho,hbe⟩
 -- walk inv
 refine wp_seq_k fun K hK=>?_;refine reg_varF 3 3 77 (.tmp 7) z5 rfl rfl rfl rfl rfl rfl rfl (exec_alloc rfl (by kernel_rfl)) ?_;simp only [List.take_succ_cons,List.take_zero];refine b_el w.heap.size hA.len _ rfl rfl rfl (fun _ h=>h.blk ha) ?_;simp only [Act.put,List.setIfInBounds_toArray,List.set_cons_zero,List.set_cons_succ];refine b_el w.heap.size hA.len _ rfl rfl rfl (fun _ h=>h.blk ha) ?_;simp only [Act.put,List.setIfInBounds_toArray,List.set_cons_zero,List.set_cons_succ];refine b_fe rfl own_elmul (fun w1 _=>elmul_p hA hA w1) rfl rfl ?_
 intro r1 v1
 simp only [Act.put,List.setIfInBounds_toArray,List.set_cons_zero,List.set_cons_succ];refine wpB_nil ⟨(Us r1).toArray,fun _=>rfl,fun _=>rfl,(len_us v1.len).symm,size_el _ (len_us v1.len),Us_one _,fun gtwo W1 hgtwo hw1 hbtwo=>?_⟩;simp only [Exit.then,Act.put,List.setIfInBounds_toArray,List.set_cons_zero,List.set_cons_succ];refine hK _ _ ?_;clear hK K;have ha:=hw1.blk ha;have ho:=hw1.blk ho;have hbe:=below_up hbe hw1;clear hw1;refine wp_seq_k fun K hK=>?_;refine reg_var 6 4 77 (.tmp 13) z5 rfl rfl rfl rfl rfl rfl rfl (by kernel_rfl) (tail_ok (by kernel_rfl)) (by kernel_rfl) (fun _ _ d _ _ h=>by cases d <;> exact h) (exec_alloc rfl (by kernel_rfl)) ?_;simp only [List.take_succ_cons,List.take_zero];refine b_el gtwo v1.len _ rfl rfl rfl (fun _ h=>h.blk hbtwo) ?_;simp only [Act.put,List.setIfInBounds_toArray,List.set_cons_zero,List.set_cons_succ];refine b_fe rfl own_squared (fun w1 _=>squared_p v1 2 (by omega) w1) rfl rfl ?_
 intro r2 v2
 simp only [Act.put,List.setIfInBounds_toArray,List.set_cons_zero,List.set_cons_succ];refine b_el gtwo v1.len _ rfl rfl rfl (fun _ h=>h.blk hbtwo) ?_;simp only [Act.put,List.setIfInBounds_toArray,List.set_cons_zero,List.set_cons_succ];refine b_fe rfl own_elmul (fun w1 _=>elmul_p v2 v1 w1) rfl rfl ?_
 intro r3 v3
 simp only [Act.put,List.setIfInBounds_toArray,List.set_cons_zero,List.set_cons_succ];refine b_el w.heap.size hA.len _ rfl rfl rfl (fun _ h=>h.blk ha) ?_;simp only [Act.put,List.setIfInBounds_toArray,List.set_cons_zero,List.set_cons_succ];refine b_fe rfl own_elmul (fun w1 _=>elmul_p v3 hA w1) rfl rfl ?_
 intro r4 v4
 simp only [Act.put,List.setIfInBounds_toArray,List.set_cons_zero,List.set_cons_succ];refine wpB_nil ⟨(Us r4).toArray,fun _=>rfl,fun _=>rfl,(len_us v4.len).symm,size_el _ (len_us v4.len),Us_one _,fun geleven W1 hgeleven hw1 hbeleven=>?_⟩;simp only [Exit.then,Act.put,List.setIfInBounds_toArray,List.set_cons_zero,List.set_cons_succ];refine hK _ _ ?_;clear hK K;have ha:=hw1.blk ha;have hbtwo:=hw1.blk hbtwo;have ho:=hw1.blk ho;have hbe:=below_up hbe hw1;clear hw1;refine wp_seq_k fun K hK=>?_;refine reg_set 5 (.tmp 2) 77 (.tmp 18) rfl rfl rfl rfl (by kernel_rfl) (tail_ok (by kernel_rfl)) (fun _ _ d _ _ h=>by cases d <;> exact h) ?_;simp only [List.take_succ_cons,List.take_zero];refine b_el w.heap.size hA.len _ rfl rfl rfl (fun _ h=>h.blk ha) ?_;simp only [Act.put,List.setIfInBounds_toArray,List.set_cons_zero,List.set_cons_succ];refine b_fe rfl own_ones (fun w1 _=>ones_f hA1 w1) rfl rfl ?_
 intro r90 v90
 simp only [Act.put,List.setIfInBounds_toArray,List.set_cons_zero,List.set_cons_succ];refine b_fe rfl own_squared (fun w1 _=>squared_p v90 5 (by omega) w1) rfl rfl ?_
 intro r91 v91
 simp only [Act.put,List.setIfInBounds_toArray,List.set_cons_zero,List.set_cons_succ];refine b_el geleven v4.len _ rfl rfl rfl (fun _ h=>h.blk hbeleven) ?_;simp only [Act.put,List.setIfInBounds_toArray,List.set_cons_zero,List.set_cons_succ];refine b_fe rfl own_elmul (fun w1 _=>elmul_p v91 v4 w1) rfl rfl ?_
 intro r92 v92
 simp only [Act.put,List.setIfInBounds_toArray,List.set_cons_zero,List.set_cons_succ];refine wpB_nil ⟨(w.heap.size + 1),_,_,rfl,rfl,ho,(len_us v92.len).symm,size_el _ (len_us v92.len),Us_one _,fun W1 hw1=>?_⟩;simp only [Exit.then];refine hK _ _ ?_;clear hK K;have ho:=hw1.blk ho;have hbe:=below_up hbe hw1;refine wp_ret ?_;refine bodyPost_ret (results_cell_row rfl _ _ (w.heap.size + 1) 77 (Us r92).toArray (0,0) _ rfl (ho.row _) Tryd.underlying77 rfl (size_el _ (len_us v92.len))) rfl ⟨r92,inv_end v92,rfl,?_⟩;exact below_setRow hbe (by omega) _
 -- end inv
end Go.Proofs.YtminmeljonbogaaDoor
