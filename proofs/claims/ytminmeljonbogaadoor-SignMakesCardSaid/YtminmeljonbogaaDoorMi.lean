/-
  SEVERAL TEXTS IN ONE: ElNew, CpAt, CpAdd, CpDbl, NumSteps, Pts.
-/
import Derived.Test.YtminmeljonbogaaDoorMh
import Derived.Test.YtminmeljonbogaaDoorMa
import Derived.Test.YtminmeljonbogaaDoorMf
import Derived.Test.YtminmeljonbogaaDoorMg
import Derived.Test.YtminmeljonbogaaDoorMb
/-
  THE FIELD'S NUMBERS: New: which bytes are a number.
-/
namespace Go.Proofs.YtminmeljonbogaaDoor
open Go.RowKit Go.IntWalk Nums

/-! ### Eight words of bytes -/
theorem wd_more (T y q r : Nat) (hr : r < 8) (hT : T < 256 ^ (8 * q + r)) (hy : y < 256) (j : Nat) :
  wd (T + 256 ^ (8 * q + r) * y) j = if j = q then wd T j + 256 ^ r * y else wd T j:=by
 have hp : (256 : Nat) ^ (8 * q + r) = 18446744073709551616 ^ q * 256 ^ r:=by rw [Nat.pow_add,Nat.pow_mul]
 have hr8 : (256 : Nat) ^ (r + 1) ≤ 18446744073709551616:=Nat.pow_le_pow_right (by omega) (show r + 1 ≤ 8 by omega);have hr9 : (256 : Nat) ^ (r + 1) = 256 ^ r * 256:=Nat.pow_succ ..;have hm : (256 : Nat) ^ r * y ≤ 256 ^ r * 255:=Nat.mul_le_mul (Nat.le_refl _) (by omega);rw [hp] at hT ⊢;have hPq : 0 < (18446744073709551616 : Nat) ^ q:=Nat.pow_pos (by omega)
 unfold wd
 by_cases hjq : j = q
 ·subst hjq
  rw [if_pos rfl,Nat.mul_assoc,Nat.add_mul_div_left _ _ hPq];have hz : T / 18446744073709551616 ^ j < 256 ^ r:=Nat.div_lt_of_lt_mul hT;rw [Nat.mod_eq_of_lt (by omega),Nat.mod_eq_of_lt (by omega)]
 ·rw [if_neg hjq]
  rcases Nat.lt_or_gt_of_ne hjq with hlt | hgt
  ·obtain ⟨d,rfl⟩ : ∃ d,q = j + 1 + d:=⟨q - j - 1,by omega⟩
   have e : (18446744073709551616 : Nat) ^ (j + 1 + d) * 256 ^ r * y = 18446744073709551616 ^ j * (18446744073709551616 * (18446744073709551616 ^ d * 256 ^ r * y)):=by
    rw [Nat.pow_add,Nat.pow_succ];simp only [Nat.mul_assoc]
   rw [e,Nat.add_mul_div_left _ _ (Nat.pow_pos (by omega)),Nat.add_mul_mod_self_left]
  ·obtain ⟨d,rfl⟩ : ∃ d,j = q + 1 + d:=⟨j - q - 1,by omega⟩
   have e : (18446744073709551616 : Nat) ^ (q + 1 + d) = 18446744073709551616 ^ q * 18446744073709551616 * 18446744073709551616 ^ d:=by rw [Nat.pow_add,Nat.pow_succ]
   have hd : 0 < (18446744073709551616 : Nat) ^ d:=Nat.pow_pos (by omega)
   have hb : 18446744073709551616 ^ q * 18446744073709551616 ≤ (18446744073709551616 : Nat) ^ (q + 1 + d):=by
    rw [e];exact Nat.le_mul_of_pos_right _ hd
   have h1 : 18446744073709551616 ^ q * 256 ^ r + 18446744073709551616 ^ q * 256 ^ r * y ≤ 18446744073709551616 ^ q * 18446744073709551616:=by
    rw [Nat.mul_assoc,← Nat.mul_add];exact Nat.mul_le_mul (Nat.le_refl _) (by omega)
   rw [Nat.div_eq_of_lt (by omega),Nat.div_eq_of_lt (by omega)]

theorem le_take {b : List UInt8} {n : Nat} (h : n < b.length) : le (b.take (n + 1)) = le (b.take n) + 256 ^ n * (b[n]!).toNat:=by
 rw [List.take_succ_eq_append_getElem h,le_append,List.length_take,Nat.min_eq_left (by omega),getElem!_pos b n h]
 show le (b.take n) + 256 ^ n * ((b[n]).toNat + 256 * 0) = _
 rw [Nat.mul_zero,Nat.add_zero]

def wds (b : List UInt8) (n : Nat) : List Nat:=(List.range 5).map fun j=>wd (le (b.take n)) j
theorem wds_len (b : List UInt8) (n : Nat) : (wds b n).length = 5:=by simp [wds]
theorem wds_get (b : List UInt8) (n : Nat) {j : Nat} (h : j < 5) : (wds b n)[j]! = wd (le (b.take n)) j:=by
 rw [getElem!_pos _ j (by rw [wds_len]; exact h)]
 simp [wds]
theorem wds_zero (b : List UInt8) : wds b 0 = [0,0,0,0,0]:=by
 have e : ∀ j,wd (le (b.take 0)) j = 0:=fun j=>by
  show 0 / _ % _ = 0
  rw [Nat.zero_div]
 simp only [wds,e]
 rfl
theorem wd_small {T n : Nat} (hT : T < 256 ^ n) : wd T (n / 8) < 2 ^ (8 * (n % 8)):=by
 have e : (256 : Nat) ^ n = 18446744073709551616 ^ (n / 8) * 2 ^ (8 * (n % 8)):=by
  have h : (256 : Nat) ^ n = 256 ^ (8 * (n / 8) + n % 8):=by congr 1; omega
  rw [h,Nat.pow_add,Nat.pow_mul,Nat.pow_mul]
 rw [e] at hT;have hz:=Nat.div_lt_of_lt_mul hT;exact Nat.lt_of_le_of_lt (Nat.mod_le _ _) hz
theorem wds_set {b : List UInt8} {n : Nat} (h : n < b.length) : (wds b n).set (n / 8) (wd (le (b.take n)) (n / 8) + 2 ^ (8 * (n % 8)) * (b[n]!).toNat) = wds b (n + 1):=by
 have hT:=le_lt (b.take n);rw [List.length_take,Nat.min_eq_left (by omega)] at hT
 have e2 : (256 : Nat) ^ n = 256 ^ (8 * (n / 8) + n % 8):=by congr 1; omega
 have e3 : (2 : Nat) ^ (8 * (n % 8)) = 256 ^ (n % 8):=by rw [Nat.pow_mul]
 have hy:=(b[n]!).toNat_lt
 apply List.ext_getElem (by simp [wds])
 intro j h1 h2
 have hj : j < 5:=by simpa [wds] using h2
 rw [List.getElem_set];simp only [wds,List.getElem_map,List.getElem_range];rw [le_take h,e2,wd_more _ _ _ _ (by omega) (by rw [← e2]; exact hT) hy]
 by_cases hjq : n / 8 = j
 ·subst hjq
  rw [if_pos rfl,if_pos rfl,e3]
 ·rw [if_neg hjq,if_neg (fun e=>hjq e.symm)]

theorem or_byte {old y m : Nat} (hm : m ≤ 56) (hold : old < 2 ^ m) (hy : y < 256) :
  bits .or .u64 (old : Int) (IntKind.u64.wrap ((y : Int) * 2 ^ m)) = ((old + 2 ^ m * y : Nat) : Int):=by
 have hp : (2 : Nat) ^ m ≤ 2 ^ 56:=Nat.pow_le_pow_right (by omega) hm
 have h56 : (2 : Nat) ^ 56 = 72057594037927936:=by decide
 have hx : y * 2 ^ m ≤ 255 * 2 ^ 56:=Nat.mul_le_mul (by omega) hp
 have f2 : IntKind.u64.wrap ((y : Int) * 2 ^ m) = ((y * 2 ^ m : Nat) : Int):=by
  have : ((y : Int) * 2 ^ m) = ((y * 2 ^ m : Nat) : Int):=by simp
  rw [this,wrapN _ (by omega)]
 rw [f2,u64_or_nat _ _ (by omega) (by omega),Nat.or_comm,nat_join m _ _ (Nat.mul_mod_left ..) hold,Nat.add_comm,Nat.mul_comm]

/-! ### Five limbs of words -/
def lbs (L : Nat) : List Nat:=(List.range 5).map fun i=>L / 2251799813685248 ^ i % 2251799813685248
theorem lbs_mx (L : Nat) : lbs L = mx (fun i=>L / 2251799813685248 ^ i % 2251799813685248) [0,0,0,0,0] 5:=rfl
theorem lbs_eb (L : Nat) : EB (lbs L) (fof (L % 57896044618658097711785492504343953926634992332820282019728792003956564819968)):=by
 refine EB.mk5 (a0:=L / 2251799813685248 ^ 0 % 2251799813685248) (a1:=L / 2251799813685248 ^ 1 % 2251799813685248) (a2:=L / 2251799813685248 ^ 2 % 2251799813685248) (a3:=L / 2251799813685248 ^ 3 % 2251799813685248) (a4:=L / 2251799813685248 ^ 4 % 2251799813685248) (by omega) (by omega) (by omega) (by omega) (by omega) ?_
 congr 1
 rw [lv5];simp only [Nat.reducePow]
 omega

theorem lb_words {L : Nat} (hL : L < 115792089237316195423570985008687907853269984665640564039457584007913129639936) {i : Nat} (hi : i < 5) :
  bits .and .u64 (bits .or .u64 ((wd L (51 * i / 64) : Nat) / 2 ^ (51 * i % 64) : Int) (IntKind.u64.wrap ((wd L (51 * i / 64 + 1) : Nat) * 2 ^ (64 - 51 * i % 64) : Int))) 2251799813685247 = ((L / 2251799813685248 ^ i % 2251799813685248 : Nat) : Int):=by
 have key : ∀ (k x y r t R : Nat),y * 2 ^ t % 18446744073709551616 % 2 ^ k = 0 → x / 2 ^ r < 2 ^ k → x / 2 ^ r < 18446744073709551616 → y * 2 ^ t % 18446744073709551616 + x / 2 ^ r < 18446744073709551616 → (y * 2 ^ t % 18446744073709551616 + x / 2 ^ r) % 2251799813685248 = R →
   bits .and .u64 (bits .or .u64 ((x : Nat) / 2 ^ r : Int) (IntKind.u64.wrap ((y : Nat) * 2 ^ t : Int))) 2251799813685247 = (R : Int):=by
  intro k x y r t R e1 e2 e3 e5 e4
  have f1 : ((x : Int) / 2 ^ r) = ((x / 2 ^ r : Nat) : Int):=by simp
  have f2 : IntKind.u64.wrap ((y : Int) * 2 ^ t) = ((y * 2 ^ t % 18446744073709551616 : Nat) : Int):=by
   rw [IntKind.wrap_u64]
   simp
  rw [f1,f2,u64_or_nat _ _ e3 (by omega),Nat.or_comm,nat_join k _ _ e1 e2,maskW _ e5,e4]
 have h5 : i = 0 ∨ i = 1 ∨ i = 2 ∨ i = 3 ∨ i = 4:=by omega
 unfold wd
 rcases h5 with rfl | rfl | rfl | rfl | rfl
 ·exact key 64 (L / 18446744073709551616 ^ 0 % 18446744073709551616) (L / 18446744073709551616 ^ 1 % 18446744073709551616) 0 64 _ (by omega) (by omega) (by omega) (by omega) (by simp only [Nat.reducePow]; omega)
 ·exact key 13 (L / 18446744073709551616 ^ 0 % 18446744073709551616) (L / 18446744073709551616 ^ 1 % 18446744073709551616) 51 13 _ (by omega) (by omega) (by omega) (by omega) (by simp only [Nat.reducePow]; omega)
 ·exact key 26 (L / 18446744073709551616 ^ 1 % 18446744073709551616) (L / 18446744073709551616 ^ 2 % 18446744073709551616) 38 26 _ (by omega) (by omega) (by omega) (by omega) (by simp only [Nat.reducePow]; omega)
 ·exact key 39 (L / 18446744073709551616 ^ 2 % 18446744073709551616) (L / 18446744073709551616 ^ 3 % 18446744073709551616) 25 39 _ (by omega) (by omega) (by omega) (by omega) (by simp only [Nat.reducePow]; omega)
 ·exact key 52 (L / 18446744073709551616 ^ 3 % 18446744073709551616) (L / 18446744073709551616 ^ 4 % 18446744073709551616) 12 52 _ (by omega) (by omega) (by omega) (by omega) (by simp only [Nat.reducePow]; omega)

structure NSt (w wr : World) (b : List UInt8) (n : Nat) : Prop where
  b0 : Blk wr w.heap.size 22 (By b).toArray
  b1 : Blk wr (w.heap.size + 1) 77 z5
  b2 : Blk wr (w.heap.size + 1 + 1) 75 (Us (wds b n)).toArray
  be : Below w.heap.size w wr
set_option maxRecDepth 100000 in
set_option maxHeartbeats 2000000 in
theorem new_f {b : List UInt8} (hbl : b.length = 32) (w : World) :
  Calls Tryd.prog 77 #[.agg (By b).toArray] w fun e w' =>
   ((isGood b = true ∧ ∃ r,EB r (fof (le b % 57896044618658097711785492504343953926634992332820282019728792003956564819968)) ∧ e = .returned (.tuple #[.agg (Us r).toArray,.bool true])) ∨ (isGood b = false ∧ e = .returned (.tuple #[.agg z5,.bool false]))) ∧ Below w.heap.size w w':=by
 have hG : isGood b = decide (enc (fof (le b % 57896044618658097711785492504343953926634992332820282019728792003956564819968)) = b):=by
  unfold isGood
  by_cases he : enc (fof (le b % 57896044618658097711785492504343953926634992332820282019728792003956564819968)) = b
  ·have h128 : (b[31]!).toNat < 128:=by
    have:=enc_top (fof (le b % 57896044618658097711785492504343953926634992332820282019728792003956564819968))
    rwa [he] at this
   rw [decide_eq_true h128,Bool.true_and]
  ·rw [decide_eq_false he,Bool.and_false]
 rw [hG];clear hG;have hE:=lbs_eb (le b);generalize fof (le b % 57896044618658097711785492504343953926634992332820282019728792003956564819968) = z at *;have hq:=fun w1=>equal32 (enc z) b (enc_len _) hbl w1;generalize decide (enc z = b) = ok at *;have HH:=fun w1=>hash_f hE w1;have hez:=enc_len z;generalize enc z = ez at *;have HE:=Lib.hid (And.intro hE (And.intro hq HH));clear hE hq HH
 go_enter Tryd.func77,Tryd.ntmps77
 go_wp2
 go_loopw [9] (fun i wr=>∃ n : Nat,n ≤ 32 ∧ i = .int .i64 n ∧ NSt w wr b n) (fun i _=>32 - (intOf i).toNat)
 case atStart =>
  refine ⟨0,by omega,rfl,blk3_0 w _ _ _ _,blk3_1 w _ _ _ _,?_,(((Below.refl _ _).alloc (Nat.le_refl _) _).alloc (by simp) _).alloc (by simp; omega) _⟩;rw [wds_zero];exact blk3_2 w _ _ _ _
 case round =>
  obtain ⟨n,hn,rfl,h0,h1,h2,hbel⟩:=hrel
  by_cases hlt : n < 32
  ·have hT:=le_lt (b.take n)
   rw [List.length_take,Nat.min_eq_left (by omega)] at hT;have hsm:=wd_small hT;have hN:=wds_set (b:=b) (n:=n) (by omega);have c0:=(h2.drew.cell (n / 8)).trans (Us_at (by rw [wds_len]; omega));rw [wds_get b n (by omega)] at c0;have c1:=(h0.drew.cell n).trans (By_get (by omega));have hf:=h2.drew.free (n / 8);have hy:=(b[n]!).toNat_lt;have hor:=or_byte (m:=8 * (n % 8)) (by omega) hsm hy;generalize (b[n]!).toNat = y at *;generalize wd (le (b.take n)) (n / 8) = old at *;have q1 : ((n : Nat) : Int).tdiv 8 = ((n / 8 : Nat) : Int):=rfl;have q2 : ((n : Nat) : Int).tmod 8 = ((n % 8 : Nat) : Int):=rfl
   have q3 : IntKind.i64.wrap (((n % 8 : Nat) : Int) * 8) = ((8 * (n % 8) : Nat) : Int):=by rw [i64_left,wrap64_in _ (by omega)]; omega
   have q4 : IntKind.u64.wrap (y : Int) = (y : Int):=wrapN y (by omega)
   have q5 : IntKind.i64.wrap ((n / 8 : Nat) : Int) = ((n / 8 : Nat) : Int):=by rw [i64_left,wrap64_in _ (by omega)]
   have q6 : IntKind.i64.wrap ((n % 8 : Nat) : Int) = ((n % 8 : Nat) : Int):=by rw [i64_left,wrap64_in _ (by omega)]
   have g1 : ((n / 8 : Nat) : Int) < 5:=by omega
   have g2 : ((8 * (n % 8) : Nat) : Int) ≤ 64:=by omega
   have g3 : (0 : Int) ≤ (n : Int):=by omega
   generalize old + 2 ^ (8 * (n % 8)) * y = nw at *;generalize 8 * (n % 8) = m at *;generalize hq : n / 8 = q at *;generalize n % 8 = r at *;have HK:=Lib.hid (And.intro h0 (And.intro h1 (And.intro h2 (And.intro hbel hN))));clear h0 h1 h2 hbel hN hT hsm hq hy
   go_wp2
   go_still_tail 14,(by kernel_rfl)
   go_wp2
   go_roundw
   case rel =>
    obtain ⟨h0,h1,h2,hbel,hN⟩:=HK.out;have h4:=h2.set q (.int .u64 (nw : Int));rw [Us_set,hN] at h4;exact ⟨n + 1,by omega,by go_num,h0.far (by simp; omega) _,h1.far (by simp) _,h4,(hbel.setCell (by simp; omega) _).drew⟩
   case measure=>simp [intOf]; omega
  ·obtain rfl : n = 32:=by omega
   have hT : b.take 32 = b:=List.take_of_length_le (by omega);have hL:=le_lt b;rw [hbl] at hL
   have hW : ∀ j,j < 5 → (wds b 32)[j]! = wd (le b) j:=fun j hj=>by rw [wds_get b 32 hj,hT]
   have hwl:=wds_len b 32;have hbn:=fun o=>Blk.new wr 77 o;have k0 : ∀ o,Blk (wr.alloc o) w.heap.size 22 (By b).toArray:=fun o=>h0.alloc o;have k1 : ∀ o,Blk (wr.alloc o) (w.heap.size + 1) 77 z5:=fun o=>h1.alloc o;have k2 : ∀ o,Blk (wr.alloc o) (w.heap.size + 1 + 1) 75 (Us (wds b 32)).toArray:=fun o=>h2.alloc o;have kb : ∀ o,Below w.heap.size w (wr.alloc o):=fun o=>hbel.alloc hbel.size o;have hlt2:=h2.lt;have HK:=Lib.hid (And.intro k0 (And.intro k1 (And.intro k2 (And.intro kb hbn))));clear h0 h1 h2 hbel k0 k1 k2 kb hbn hlt hn;generalize hg : wr.heap.size = g at *;generalize wds b 32 = W at *
   go_wp2
   generalize ((32 : Nat) : Int) = s32
   go_loopw [27] (fun i wq=>∃ k : Nat,k ≤ 5 ∧ i = .int .i64 k ∧ Blk wq w.heap.size 22 (By b).toArray ∧ Blk wq (w.heap.size + 1) 77 z5 ∧ Blk wq (w.heap.size + 1 + 1) 75 (Us W).toArray ∧ Blk wq g 77 (Us (mx (fun i=>le b / 2251799813685248 ^ i % 2251799813685248) [0,0,0,0,0] k)).toArray ∧ Below w.heap.size w wq) (fun i _=>5 - (intOf i).toNat)
   case atStart =>
    obtain ⟨k0,k1,k2,kb,hbn⟩:=HK.out;exact ⟨0,by omega,rfl,k0 _,k1 _,k2 _,hbn _,kb _⟩
   case round =>
    clear HK hg;obtain ⟨k,hk,rfl,h0,h1,h2,h3,hbel⟩:=hrel
    by_cases hlt : k < 5
    ·have hN:=mx_set (fun i=>le b / 2251799813685248 ^ i % 2251799813685248) [0,0,0,0,0] (k:=k)
     have hlb:=lb_words hL hlt;have c0:=(h2.drew.cell (51 * k / 64)).trans (Us_at (by omega));have c1:=(h2.drew.cell (51 * k / 64 + 1)).trans (Us_at (by omega));rw [hW _ (by omega)] at c0 c1;have hc:=(h3.drew.cell k).trans (Us_at (by rw [mx_len]; omega));have hf:=h3.drew.free k
     have qA : IntKind.i64.wrap (51 * (k : Int)) = ((51 * k : Nat) : Int):=by rw [i64_left,wrap64_in _ (by omega)]; omega
     have qd : ((51 * k : Nat) : Int).tdiv 64 = ((51 * k / 64 : Nat) : Int):=rfl;have qm : ((51 * k : Nat) : Int).tmod 64 = ((51 * k % 64 : Nat) : Int):=rfl
     have qs : IntKind.i64.wrap (((51 * k / 64 : Nat) : Int) + 1) = ((51 * k / 64 + 1 : Nat) : Int):=by rw [i64_left,wrap64_in _ (by omega)]; omega
     have qt : IntKind.i64.wrap (64 - ((51 * k % 64 : Nat) : Int)) = ((64 - 51 * k % 64 : Nat) : Int):=by rw [i64_left,wrap64_in _ (by omega)]; omega
     have q5 : IntKind.i64.wrap ((51 * k / 64 : Nat) : Int) = ((51 * k / 64 : Nat) : Int):=by rw [i64_left,wrap64_in _ (by omega)]
     have q6 : IntKind.i64.wrap ((51 * k % 64 : Nat) : Int) = ((51 * k % 64 : Nat) : Int):=by rw [i64_left,wrap64_in _ (by omega)]
     have g1 : ((51 * k / 64 + 1 : Nat) : Int) < 5:=by omega
     have g2 : ((51 * k / 64 : Nat) : Int) < 5:=by omega
     have g3 : ((51 * k % 64 : Nat) : Int) ≤ 64:=by omega
     have g4 : ((64 - 51 * k % 64 : Nat) : Int) ≤ 64:=by omega
     have g5 : (0 : Int) ≤ (k : Int):=by omega
     have HK:=Lib.hid (And.intro h0 (And.intro h1 (And.intro h2 (And.intro h3 (And.intro hbel (And.intro hN hL))))));have HW:=Lib.hid hW;clear h0 h1 h2 h3 hbel hN hL hW;generalize le b / 2251799813685248 ^ k % 2251799813685248 = nw at *;generalize wd (le b) (51 * k / 64) = u at *;generalize wd (le b) (51 * k / 64 + 1) = v at *;generalize 64 - 51 * k % 64 = t at *;generalize 51 * k % 64 = r at *;generalize 51 * k / 64 + 1 = q1 at *;generalize 51 * k / 64 = q at *;generalize 51 * k = A at *
     go_wp2
     go_still_tail 21,(by kernel_rfl)
     go_wp2
     go_roundw
     case rel =>
      obtain ⟨h0,h1,h2,h3,hbel,hN,hL⟩:=HK.out;have h4:=h3.set k (.int .u64 (nw : Int));rw [Us_set,hN] at h4;exact ⟨k + 1,by omega,by go_num,h0.far (by simp; omega) _,h1.far (by simp; omega) _,h2.far (by simp; omega) _,h4,(hbel.setCell (by simp; omega) _).drew⟩
     case measure=>simp [intOf]; omega
    ·obtain rfl : k = 5:=by omega
     rw [← lbs_mx] at h3;obtain ⟨hE,hq,HH⟩:=HE.out
     have hzb : (By b).toArray.size = 32:=by rw [List.size_toArray,By_len,hbl]
     have hzl:=len_us hE.len;clear hW hwl hT hL HE h2;generalize lbs (le b) = l at *;have HK2:=Lib.hid (And.intro hE hbel);clear hE hbel
     go_wp2
     refine reg_q (by kernel_rfl) (tail_ok (by kernel_rfl)) (fun _ _ d _ _ h=>by cases d <;> exact h) ?_;refine b_el g (by simpa [Us_len] using hzl) _ rfl rfl rfl (fun _ h=>h.blk h3) ?_; simp only [Act.put,List.setIfInBounds_toArray,List.set_cons_zero,List.set_cons_succ];refine b_one rfl own_hash (fun w1=>HH w1) rfl rfl ?_; simp only [Act.put,List.setIfInBounds_toArray,List.set_cons_zero,List.set_cons_succ];refine b_mid rfl 22 _ rfl w.heap.size 0 rfl (By b) _ (fun _ h=>(h.blk h0).range) Tryd.underlying22 rfl (size_hash (By b).toArray hzb) ?_; simp only [Act.put,List.setIfInBounds_toArray,List.set_cons_zero,List.set_cons_succ];refine b_neq (By ez).toArray (By b).toArray rfl rfl rfl rfl (by kernel_rfl) hq ?_; simp only [Act.put,List.setIfInBounds_toArray,List.set_cons_zero,List.set_cons_succ];refine wpB_nil ?_
     intro w1 hw1
     have j1:=hw1.blk h1;have j3:=hw1.blk h3;have hsz:=hw1.size;have HU:=Lib.hid hw1;clear h0 h1 h3 HH hq hw1
     cases ok with
     | true =>
      go_wp2_with (first
       | (refine wpList_load_row rfl 77 _ rfl g rfl 77 (Us l).toArray (0,0) _ j3 Tryd.underlying77 rfl (size_el _ hzl) ?_)
       | (refine wpList_store_row rfl 77 _ _ rfl (w.heap.size + 1) rfl (Us l).toArray rfl 77 _ j1 (size_el _ hzl) (by rw [hzl]; rfl) (Us_one _) ?_))
      obtain ⟨hE,hbel⟩:=HK2.out;refine bodyPost_ret (results_cell_tmp rfl _ _ (w.heap.size + 1) 77 (Us l).toArray (0,0) _ (.bool true) rfl rfl (j1.row _) Tryd.underlying77 rfl (size_el _ hzl)) rfl ⟨⟨l,hE,rfl⟩,?_⟩;exact below_setRow (below_up hbel HU.out) (by omega) _
     | false =>
      go_wp2_with (first
       | (refine wpl_build [] z5 rfl rfl rfl built_zero ?_)
       | (refine wpList_store_row rfl 77 _ _ rfl (w.heap.size + 1) rfl z5 rfl 77 _ j1 (size_el _ rfl) rfl (Us_one _) ?_))
      obtain ⟨hE,hbel⟩:=HK2.out;refine bodyPost_ret (results_cell_tmp rfl _ _ (w.heap.size + 1) 77 z5 (0,0) _ (.bool false) rfl rfl (j1.row _) Tryd.underlying77 rfl (size_el _ rfl)) rfl ⟨rfl,?_⟩;exact below_setRow (below_up hbel HU.out) (by omega) _
end Go.Proofs.YtminmeljonbogaaDoor
/-
  THE PROGRAM'S POINTS: at, factor, Base.
-/
namespace Go.Proofs.YtminmeljonbogaaDoor
open Go.RowKit Go.IntWalk Nums

theorem small1_f (w : World) : Calls Tryd.prog 78 #[.int .u64 1] w fun e w'=>∃ r,EB r 1 ∧ e = .returned (.agg (Us r).toArray) ∧ Below w.heap.size w w':=by
 have h:=small_f 1 (by omega) w;rw [fof_one] at h;exact h
def facB : List UInt8:=[163,120,89,19,202,77,235,117,171,216,65,65,77,10,112,0,152,232,121,119,121,64,199,140,115,254,111,43,238,108,3,82]
def bxB : List UInt8:=[26,213,37,143,96,45,86,201,178,167,37,149,96,199,44,105,92,220,214,253,49,226,164,192,254,83,110,205,211,54,105,33]
def byB : List UInt8:=[88,102,102,102,102,102,102,102,102,102,102,102,102,102,102,102,102,102,102,102,102,102,102,102,102,102,102,102,102,102,102,102]
theorem new_const {b : List UInt8} {x : F} (hb : b.length = 32) (hg : isGood b = true) (hx : fof (le b % 57896044618658097711785492504343953926634992332820282019728792003956564819968) = x) (w : World) :
  Calls Tryd.prog 77 #[.agg (By b).toArray] w fun e w'=>∃ r,EB r x ∧ e = .returned (.tuple #[.agg (Us r).toArray,.bool true]) ∧ Below w.heap.size w w' :=
 (new_f hb w).mono fun e w' ⟨h,hw⟩=>by
  rcases h with ⟨_,r,hr,he⟩ | ⟨h,_⟩
  ·exact ⟨r,hx ▸ hr,he,hw⟩
  ·rw [hg] at h
   cases h
theorem good_fac : isGood facB = true:=by decide +kernel
theorem good_bx : isGood bxB = true:=by decide +kernel
theorem good_by : isGood byB = true:=by decide +kernel
theorem le_fac : fof (le facB % 57896044618658097711785492504343953926634992332820282019728792003956564819968) = dd:=fof_eq (by decide +kernel)
theorem le_bx : fof (le bxB % 57896044618658097711785492504343953926634992332820282019728792003956564819968) = fof bx:=fof_eq (by decide +kernel)
theorem le_by : fof (le byB % 57896044618658097711785492504343953926634992332820282019728792003956564819968) = fof bY:=fof_eq (by decide +kernel)

set_option maxRecDepth 100000 in
set_option maxHeartbeats 1000000 in
theorem at_f {X Y : List Nat} {x y : F} (hX : EB X x) (hY : EB Y y) (hon : Ed.On dd ⟨x,y⟩) (w : World) :
  Calls Tryd.prog 85 #[.agg (Us X).toArray,.agg (Us Y).toArray] w fun e w'=>∃ r,QB r ⟨x,y⟩ ∧ e = .returned (.agg (Us r).toArray) ∧ Below w.heap.size w w':=by
 refine calls_F (vs:=[.agg (Us X).toArray,.agg (Us Y).toArray]) 12 Tryd.func85 rfl (by rw [Tryd.ntmps85]; rfl) ?_;refine c_seq fun K hK=>?_;refine c_lit ?_;refine l_boxA ((Us X).toArray) rfl rfl rfl rfl rfl fun W1 g1 hw1 hg1 b1=>?_;clear hg1;have hU : Up w _:=hw1;refine l_boxA ((Us Y).toArray) rfl rfl rfl rfl rfl fun W2 g2 hw2 hg2 b2=>?_;clear hg2;replace b1:=b1.later hw2;replace hU:=hU.step hw2;refine l_allocA ((Us pz).toArray) rfl rfl rfl rfl (by kernel_rfl) fun W3 g3 hw3 hg3 b3=>?_
 have q3 : w.heap.size ≤ g3:=by rw [hg3]; exact hU.size
 clear hg3;replace b1:=b1.later hw3;replace b2:=b2.later hw3;replace hU:=hU.step hw3;refine l_nil ?_;refine hK _ _ ?_;clear hK K;refine c_seq fun K hK=>?_;refine c_t 7 (by decide) (by kernel_rfl) (tail_ok (by kernel_rfl)) (fun _ _ d _ _ h=>by cases d <;> exact h) ?_;refine f_el g1 0 hX.len rfl rfl rfl rfl rfl (fun _ h1=>(h1.blk b1).range) ?_;refine f_el g2 0 hY.len rfl rfl rfl rfl rfl (fun _ h1=>(h1.blk b2).range) ?_;refine f_us #[.int .u64 1] (EB · 1) rfl rfl rfl own_small (fun w1 _=>small1_f w1) rfl rfl fun r7 v7=>?_;refine f_el g1 0 hX.len rfl rfl rfl rfl rfl (fun _ h1=>(h1.blk b1).range) ?_;refine f_el g2 0 hY.len rfl rfl rfl rfl rfl (fun _ h1=>(h1.blk b2).range) ?_;refine f_us #[.agg (Us X).toArray,.agg (Us Y).toArray] (EB · (x * y)) rfl rfl rfl own_elmul (fun w1 h1=>elmul_f hX hY w1) rfl rfl fun r10 v10=>?_;refine f_build [(0,.agg (Us X).toArray),(1,.agg (Us Y).toArray),(2,.agg (Us r7).toArray),(3,.agg (Us r10).toArray)] (Us (pc X Y r7 r10)).toArray rfl rfl rfl rfl rfl (builtP4 hX.len hY.len v7.len v10.len) ?_;refine f_set g3 _ ((Us (pc X Y r7 r10)).toArray) rfl rfl rfl rfl rfl b3 (size_P (pc_len hX.len hY.len v7.len v10.len)) ((us_size pz_len).trans (us_size (pc_len hX.len hY.len v7.len v10.len)).symm) (Us_oneA _) fun w4 hw4 c4=>?_;replace b3:=c4;replace hU:=up_row (hU.step hw4) q3 ((Us (pc X Y r7 r10)).toArray);clear hw4 c4;generalize w4.setRow g3 ((Us (pc X Y r7 r10)).toArray) = W4 at *;refine l_nil ?_;refine hK _ _ ?_;clear hK K;refine c_ret (k_ret_row g3 _ rfl rfl b3 Tryd.underlying79 rfl (size_P (pc_len hX.len hY.len v7.len v10.len)) ⟨_,⟨⟨X,Y,r7,r10,x,y,1,x * y,rfl,hX,hY,v7,v10,Ed.Rep.one prime_p x y,by grind only⟩,hon⟩,rfl,hU⟩)
set_option maxRecDepth 100000 in
set_option maxHeartbeats 1000000 in
theorem factor_f  (w : World) :
  Calls Tryd.prog 82 #[] w fun e w'=>∃ r,EB r dd ∧ e = .returned (.agg (Us r).toArray) ∧ Below w.heap.size w w':=by
 refine calls_F (vs:=[]) 9 Tryd.func82 rfl (by rw [Tryd.ntmps82]; rfl) ?_;refine c_seq fun K hK=>?_;refine c_lit ?_;refine l_allocA z5 rfl rfl rfl rfl (by kernel_rfl) fun W1 g1 hw1 hg1 b1=>?_
 have q1 : w.heap.size ≤ g1:=by rw [hg1]; exact Nat.le_refl _
 clear hg1;have hU : Up w _:=hw1;refine l_nil ?_;refine hK _ _ ?_;clear hK K;refine c_seq fun K hK=>?_;refine c_newF 5 [nvE 1] (by decide) ⟨⟨rfl,rfl,rfl,rfl,by kernel_rfl⟩,trivial⟩ ?_;refine f_build [(0,.int .u8 163),(1,.int .u8 120),(2,.int .u8 89),(3,.int .u8 19),(4,.int .u8 202),(5,.int .u8 77),(6,.int .u8 235),(7,.int .u8 117),(8,.int .u8 171),(9,.int .u8 216),(10,.int .u8 65),(11,.int .u8 65),(12,.int .u8 77),(13,.int .u8 10),(14,.int .u8 112),(15,.int .u8 0),(16,.int .u8 152),(17,.int .u8 232),(18,.int .u8 121),(19,.int .u8 119),(20,.int .u8 121),(21,.int .u8 64),(22,.int .u8 199),(23,.int .u8 140),(24,.int .u8 115),(25,.int .u8 254),(26,.int .u8 111),(27,.int .u8 43),(28,.int .u8 238),(29,.int .u8 108),(30,.int .u8 3),(31,.int .u8 82)] (By facB).toArray rfl rfl rfl rfl rfl (by kernel_rfl) ?_;refine f_tup #[.agg (By facB).toArray] dd rfl rfl rfl own_elnew (fun w1 _=>new_const rfl good_fac le_fac w1) rfl rfl fun r5 v5=>?_;refine f_move (.tuple #[.agg (Us r5).toArray,.bool true]) rfl rfl rfl rfl rfl ?_;refine f_extract (.agg (Us r5).toArray) rfl rfl rfl rfl rfl rfl ?_;refine f_extract (.bool true) rfl rfl rfl rfl rfl rfl ?_;refine f_new [.tmp 6] [(Us r5).toArray] ⟨rfl,trivial⟩ (by decide) ⟨⟨rfl,rfl,rfl⟩,rfl⟩ ⟨⟨rfl,(us_size zl_len).trans (us_size v5.len).symm,size_E v5.len,Us_oneA _⟩,trivial⟩ fun f2 W2 hg2 hd2 hw2 hb2=>?_;have b200 : Blk W2 (f2 0) 77 ((Us r5).toArray):=hb2.1;clear hb2;replace b1:=b1.later hw2;replace hU:=hU.step hw2;clear hg2 hd2 hw2;generalize hf200 : f2 0 = g200 at *;simp only [ptrs,hf200];clear hf200 f2;refine l_assign (.bool true) rfl rfl rfl rfl rfl ?_;refine l_nil ?_;refine k_sub (E':=[(0,.pointer (some ⟨g1,0,none⟩)),(1,.pointer (some ⟨g200,0,none⟩))]) ⟨rfl,rfl,trivial⟩ ?_;refine hK _ _ ?_;clear hK K;refine c_seq fun K hK=>?_;refine c_tF 1 ?_;refine f_el g200 0 v5.len rfl rfl rfl rfl rfl (fun _ h1=>(h1.blk b200).range) ?_;refine f_set g1 _ ((Us r5).toArray) rfl rfl rfl rfl rfl b1 (size_E v5.len) ((us_size zl_len).trans (us_size v5.len).symm) (Us_oneA _) fun w3 hw3 c3=>?_;replace b1:=c3;replace hU:=up_row (hU.step hw3) q1 ((Us r5).toArray);clear hw3 c3;generalize w3.setRow g1 ((Us r5).toArray) = W3 at *;refine l_nil ?_;refine hK _ _ ?_;clear hK K;refine c_ret (k_ret_row g1 _ rfl rfl b1 Tryd.underlying77 rfl (size_E v5.len) ⟨_,v5,rfl,hU⟩)
set_option maxRecDepth 100000 in
set_option maxHeartbeats 1000000 in
theorem cbase_f  (w : World) :
  Calls Tryd.prog 65 #[] w fun e w'=>∃ r,QB r base ∧ e = .returned (.agg (Us r).toArray) ∧ Below w.heap.size w w':=by
 refine calls_F (vs:=[]) 18 Tryd.func65 rfl (by rw [Tryd.ntmps65]; rfl) ?_;refine c_seq fun K hK=>?_;refine c_lit ?_;refine l_allocA ((Us pz).toArray) rfl rfl rfl rfl (by kernel_rfl) fun W1 g1 hw1 hg1 b1=>?_
 have q1 : w.heap.size ≤ g1:=by rw [hg1]; exact Nat.le_refl _
 clear hg1;have hU : Up w _:=hw1;refine l_nil ?_;refine hK _ _ ?_;clear hK K;refine c_seq fun K hK=>?_;refine c_newF 5 [nvE 1] (by decide) ⟨⟨rfl,rfl,rfl,rfl,by kernel_rfl⟩,trivial⟩ ?_;refine f_build [(0,.int .u8 26),(1,.int .u8 213),(2,.int .u8 37),(3,.int .u8 143),(4,.int .u8 96),(5,.int .u8 45),(6,.int .u8 86),(7,.int .u8 201),(8,.int .u8 178),(9,.int .u8 167),(10,.int .u8 37),(11,.int .u8 149),(12,.int .u8 96),(13,.int .u8 199),(14,.int .u8 44),(15,.int .u8 105),(16,.int .u8 92),(17,.int .u8 220),(18,.int .u8 214),(19,.int .u8 253),(20,.int .u8 49),(21,.int .u8 226),(22,.int .u8 164),(23,.int .u8 192),(24,.int .u8 254),(25,.int .u8 83),(26,.int .u8 110),(27,.int .u8 205),(28,.int .u8 211),(29,.int .u8 54),(30,.int .u8 105),(31,.int .u8 33)] (By bxB).toArray rfl rfl rfl rfl rfl (by kernel_rfl) ?_;refine f_tup #[.agg (By bxB).toArray] (fof bx) rfl rfl rfl own_elnew (fun w1 _=>new_const rfl good_bx le_bx w1) rfl rfl fun r7 v7=>?_;refine f_move (.tuple #[.agg (Us r7).toArray,.bool true]) rfl rfl rfl rfl rfl ?_;refine f_extract (.agg (Us r7).toArray) rfl rfl rfl rfl rfl rfl ?_;refine f_extract (.bool true) rfl rfl rfl rfl rfl rfl ?_;refine f_new [.tmp 8] [(Us r7).toArray] ⟨rfl,trivial⟩ (by decide) ⟨⟨rfl,rfl,rfl⟩,rfl⟩ ⟨⟨rfl,(us_size zl_len).trans (us_size v7.len).symm,size_E v7.len,Us_oneA _⟩,trivial⟩ fun f2 W2 hg2 hd2 hw2 hb2=>?_;have b200 : Blk W2 (f2 0) 77 ((Us r7).toArray):=hb2.1;clear hb2;replace b1:=b1.later hw2;replace hU:=hU.step hw2;clear hg2 hd2 hw2;generalize hf200 : f2 0 = g200 at *;simp only [ptrs,hf200];clear hf200 f2;refine l_assign (.bool true) rfl rfl rfl rfl rfl ?_;refine l_nil ?_;refine k_sub (E':=[(0,.pointer (some ⟨g1,0,none⟩)),(1,.pointer (some ⟨g200,0,none⟩))]) ⟨rfl,rfl,trivial⟩ ?_;refine hK _ _ ?_;clear hK K;refine c_seq fun K hK=>?_;refine c_newF 5 [nvE 3] (by decide) ⟨⟨rfl,rfl,rfl,rfl,by kernel_rfl⟩,trivial⟩ ?_;refine f_build [(0,.int .u8 88),(1,.int .u8 102),(2,.int .u8 102),(3,.int .u8 102),(4,.int .u8 102),(5,.int .u8 102),(6,.int .u8 102),(7,.int .u8 102),(8,.int .u8 102),(9,.int .u8 102),(10,.int .u8 102),(11,.int .u8 102),(12,.int .u8 102),(13,.int .u8 102),(14,.int .u8 102),(15,.int .u8 102),(16,.int .u8 102),(17,.int .u8 102),(18,.int .u8 102),(19,.int .u8 102),(20,.int .u8 102),(21,.int .u8 102),(22,.int .u8 102),(23,.int .u8 102),(24,.int .u8 102),(25,.int .u8 102),(26,.int .u8 102),(27,.int .u8 102),(28,.int .u8 102),(29,.int .u8 102),(30,.int .u8 102),(31,.int .u8 102)] (By byB).toArray rfl rfl rfl rfl rfl (by kernel_rfl) ?_;refine f_tup #[.agg (By byB).toArray] (fof bY) rfl rfl rfl own_elnew (fun w1 _=>new_const rfl good_by le_by w1) rfl rfl fun r12 v12=>?_;refine f_move (.tuple #[.agg (Us r12).toArray,.bool true]) rfl rfl rfl rfl rfl ?_;refine f_extract (.agg (Us r12).toArray) rfl rfl rfl rfl rfl rfl ?_;refine f_extract (.bool true) rfl rfl rfl rfl rfl rfl ?_
 refine f_new [.tmp 13] [(Us r12).toArray] ⟨rfl,trivial⟩ (by decide) ⟨⟨rfl,rfl,rfl⟩,rfl⟩ ⟨⟨rfl,(us_size zl_len).trans (us_size v12.len).symm,size_E v12.len,Us_oneA _⟩,trivial⟩ fun f3 W3 hg3 hd3 hw3 hb3=>?_;have b300 : Blk W3 (f3 0) 77 ((Us r12).toArray):=hb3.1;clear hb3;replace b1:=b1.later hw3;replace b200:=b200.later hw3;replace hU:=hU.step hw3;clear hg3 hd3 hw3;generalize hf300 : f3 0 = g300 at *;simp only [ptrs,hf300];clear hf300 f3;refine l_assign (.bool true) rfl rfl rfl rfl rfl ?_;refine l_nil ?_;refine k_sub (E':=[(0,.pointer (some ⟨g1,0,none⟩)),(1,.pointer (some ⟨g200,0,none⟩)),(3,.pointer (some ⟨g300,0,none⟩))]) ⟨rfl,rfl,rfl,trivial⟩ ?_;refine hK _ _ ?_;clear hK K;refine c_seq fun K hK=>?_;refine c_tF 3 ?_;refine f_el g200 0 v7.len rfl rfl rfl rfl rfl (fun _ h1=>(h1.blk b200).range) ?_;refine f_el g300 0 v12.len rfl rfl rfl rfl rfl (fun _ h1=>(h1.blk b300).range) ?_;refine f_us #[.agg (Us r7).toArray,.agg (Us r12).toArray] (QB · ⟨fof bx,fof bY⟩) rfl rfl rfl own_at (fun w1 h1=>at_f v7 v12 on_base w1) rfl rfl fun r17 v17=>?_;refine f_set g1 _ ((Us r17).toArray) rfl rfl rfl rfl rfl b1 (size_P v17.len) ((us_size pz_len).trans (us_size v17.len).symm) (Us_oneA _) fun w4 hw4 c4=>?_;replace b1:=c4;replace hU:=up_row (hU.step hw4) q1 ((Us r17).toArray);clear hw4 c4;generalize w4.setRow g1 ((Us r17).toArray) = W4 at *;refine l_nil ?_;refine hK _ _ ?_;clear hK K;refine c_ret (k_ret_row g1 _ rfl rfl b1 Tryd.underlying79 rfl (size_P v17.len) ⟨_,v17,rfl,hU⟩)
end Go.Proofs.YtminmeljonbogaaDoor
/-
  THE PROGRAM'S POINTS: whole, addend, plus, Neg, Add.
-/
namespace Go.Proofs.YtminmeljonbogaaDoor
open Go.RowKit Go.IntWalk Nums

theorem neg_mul1 {n : Nat} [NeZero n] (t z : Fin n) : (0 - t) * z = 0 - t * z:=by grind only
theorem neg_mul2 {n : Nat} [NeZero n] (x y : Fin n) : (0 - x) * y = 0 - x * y:=neg_mul1 x y
theorem _root_.Nums.Ed.Rep.neg0 {n : Nat} [NeZero n] {X Y Z : Fin n} {P : Ed.Pt n} (r : Ed.Rep X Y Z P) : Ed.Rep (0 - X) Y Z (Ed.neg P):=by
 have h:=r.neg
 have e : -X = 0 - X:=by grind only
 rwa [e] at h

set_option maxRecDepth 100000 in
set_option maxHeartbeats 1000000 in
theorem pwhole_f {l : List Nat} {A : Ed.Pt p} (hP : PB l A) (w : World) :
  Calls Tryd.prog 90 #[.agg (Us l).toArray] w fun e w'=>∃ r,QB r A ∧ e = .returned (.agg (Us r).toArray) ∧ Below w.heap.size w w':=by
 refine calls_F (vs:=[.agg (Us l).toArray]) 10 Tryd.func90 rfl (by rw [Tryd.ntmps90]; rfl) ?_;have hl:=hP.len;refine c_seq fun K hK=>?_;refine c_lit ?_;refine l_boxA ((Us l).toArray) rfl rfl rfl rfl rfl fun W1 g1 hw1 hg1 b1=>?_;clear hg1;have hU : Up w _:=hw1;refine l_allocA ((Us pz).toArray) rfl rfl rfl rfl (by kernel_rfl) fun W2 g2 hw2 hg2 b2=>?_
 have q2 : w.heap.size ≤ g2:=by rw [hg2]; exact hU.size
 have n1_2 : g1 ≠ g2:=by have:=b1.lt; omega
 clear hg2;replace b1:=b1.later hw2;replace hU:=hU.step hw2;refine l_nil ?_;refine hK _ _ ?_;clear hK K;refine c_seq fun K0 hK0=>?_;refine c_seq fun K hK=>?_
 rcases hP with ⟨rfl,rfl⟩ | hQ
 ·refine c_qF ?_
  refine f_pt g1 0 hl rfl rfl rfl rfl rfl (fun _ h1=>(h1.blk b1).range) ?_;refine f_build [] (Us pz).toArray rfl rfl rfl rfl rfl builtP0 ?_;refine f_eq (Us pz).toArray (Us pz).toArray rfl rfl rfl rfl rfl rfl (by kernel_rfl) eq_pz ?_;refine f_end fun w9 hw9=>hK _ _ ?_;clear hK K;replace b1:=b1.later hw9;replace b2:=b2.later hw9;replace hU:=hU.step hw9;refine c_cond true rfl ?_;rw [if_pos rfl];refine c_seq fun K2 hK2=>?_;refine c_tF 3 ?_;refine f_build [] (Us zl).toArray rfl rfl rfl rfl rfl built_zero ?_;refine f_us #[.int .u64 1] (EB · 1) rfl rfl rfl own_small (fun w1 _=>small1_f w1) rfl rfl fun r7 v7=>?_;refine f_us #[.agg (Us zl).toArray,.agg (Us r7).toArray] (QB · ⟨0,1⟩) rfl rfl rfl own_at (fun w1 h1=>at_f eb_zero v7 Ed.on_zero w1) rfl rfl fun r8 v8=>?_;refine f_set g2 _ ((Us r8).toArray) rfl rfl rfl rfl rfl b2 (size_P v8.len) ((us_size pz_len).trans (us_size v8.len).symm) (Us_oneA _) fun w3 hw3 c3=>?_;replace b1:=(b1.later hw3).rowFar n1_2 ((Us r8).toArray);replace b2:=c3;replace hU:=up_row (hU.step hw3) q2 ((Us r8).toArray);clear hw3 c3;generalize w3.setRow g2 ((Us r8).toArray) = W3 at *;refine l_nil ?_;refine hK2 _ _ ?_;clear hK2 K2;refine c_ret (k_then_ret (k_ret_row g2 _ rfl rfl b2 Tryd.underlying79 rfl (size_P v8.len) ⟨_,v8,rfl,hU⟩))
 ·refine c_qF ?_
  refine f_pt g1 0 hl rfl rfl rfl rfl rfl (fun _ h1=>(h1.blk b1).range) ?_;refine f_build [] (Us pz).toArray rfl rfl rfl rfl rfl builtP0 ?_;refine f_eq (Us l).toArray (Us pz).toArray rfl rfl rfl rfl rfl rfl (by kernel_rfl) (ne_pz hQ) ?_;refine f_end fun w9 hw9=>hK _ _ ?_;clear hK K;replace b1:=b1.later hw9;replace b2:=b2.later hw9;replace hU:=hU.step hw9;refine c_cond false rfl ?_;rw [if_neg (by decide)];refine c_skip ?_;refine hK0 _ _ ?_;clear hK0 K0;refine c_seq fun K hK=>?_;refine c_tF 1 ?_;refine f_pt g1 0 hl rfl rfl rfl rfl rfl (fun _ h1=>(h1.blk b1).range) ?_;refine f_set g2 _ ((Us l).toArray) rfl rfl rfl rfl rfl b2 (size_P hl) ((us_size pz_len).trans (us_size hl).symm) (Us_oneA _) fun w3 hw3 c3=>?_;replace b2:=c3;replace hU:=up_row (hU.step hw3) q2 ((Us l).toArray);clear hw3 c3;generalize w3.setRow g2 ((Us l).toArray) = W3 at *;refine l_nil ?_;refine hK _ _ ?_;clear hK K;refine c_ret (k_ret_row g2 _ rfl rfl b2 Tryd.underlying79 rfl (size_P hl) ⟨_,hQ,rfl,hU⟩)

set_option maxRecDepth 100000 in
set_option maxHeartbeats 1000000 in
theorem addend_f {l : List Nat} {A : Ed.Pt p} (hP : PB l A) (w : World) (hT : Tw w) :
  Calls Tryd.prog 122 #[.agg (Us l).toArray] w fun e w'=>∃ r,AB r A ∧ e = .returned (.agg (Us r).toArray) ∧ Below w.heap.size w w':=by
 refine calls_F (vs:=[.agg (Us l).toArray]) 28 Tryd.func122 rfl (by rw [Tryd.ntmps122]; rfl) ?_;have hw0:=hT.lt;refine c_seq fun K hK=>?_;refine c_lit ?_;refine l_boxA ((Us l).toArray) rfl rfl rfl rfl rfl fun W1 g1 hw1 hg1 b1=>?_
 have q1 : w.heap.size ≤ g1:=by rw [hg1]; exact Nat.le_refl _
 clear hg1;replace hT:=hT.below hw1;have hU : Up w _:=hw1;refine l_allocA ((Us pz).toArray) rfl rfl rfl rfl (by kernel_rfl) fun W2 g2 hw2 hg2 b2=>?_
 have q2 : w.heap.size ≤ g2:=by rw [hg2]; exact hU.size
 have n1_2 : g1 ≠ g2:=by have:=b1.lt; omega
 clear hg2;replace b1:=b1.later hw2;replace hT:=hT.below hw2;replace hU:=hU.step hw2;refine l_nil ?_;refine hK _ _ ?_;clear hK K;refine c_seq fun K hK=>?_;refine c_tF 2 ?_;refine f_pt g1 0 hP.len rfl rfl rfl rfl rfl (fun _ h1=>(h1.blk b1).range) ?_;refine f_us #[.agg (Us l).toArray] (QB · A) rfl rfl rfl own_pwhole (fun w1 h1=>pwhole_f hP w1) rfl rfl fun r4 v4=>?_;refine f_set g1 _ ((Us r4).toArray) rfl rfl rfl rfl rfl b1 (size_P v4.len) ((us_size hP.len).trans (us_size v4.len).symm) (Us_oneA _) fun w3 hw3 c3=>?_;replace b2:=(b2.later hw3).rowFar (Ne.symm n1_2) ((Us r4).toArray);replace b1:=c3;replace hT:=(hT.below hw3).row (g:=g1) (by have:=hw0; omega) ((Us r4).toArray);replace hU:=up_row (hU.step hw3) q1 ((Us r4).toArray);clear hw3 c3;generalize w3.setRow g1 ((Us r4).toArray) = W3 at *;obtain ⟨⟨X1,Y1,Z1,T1,x1,y1,z1,t1,rfl,hX1,hY1,hZ1,hT1,hR1,ht1⟩,hon1⟩:=v4;refine l_nil ?_;refine hK _ _ ?_;clear hK K;refine c_seq fun K hK=>?_;refine c_t 23 (by decide) (by kernel_rfl) (tail_ok (by kernel_rfl)) (fun _ _ d _ _ h=>by cases d <;> exact h) ?_;refine f_fld g1 0 5 rfl rfl rfl rfl rfl (fun w1=>cpf1 _ w1) ?_;refine f_el g1 5 hY1.len rfl rfl rfl rfl rfl (fun _ h1=>(h1.blk b1).cy hX1.len) ?_;refine f_fld g1 0 0 rfl rfl rfl rfl rfl (fun w1=>cpf0 _ w1) ?_;refine f_el g1 0 hX1.len rfl rfl rfl rfl rfl (fun _ h1=>(h1.blk b1).cx) ?_;refine f_us #[.agg (Us Y1).toArray,.agg (Us X1).toArray] (EB · (y1 + x1)) rfl rfl rfl own_eladd (fun w1 h1=>eladd_f hY1 hX1 w1) rfl rfl fun r9 v9=>?_;refine f_fld g1 0 5 rfl rfl rfl rfl rfl (fun w1=>cpf1 _ w1) ?_;refine f_el g1 5 hY1.len rfl rfl rfl rfl rfl (fun _ h1=>(h1.blk b1).cy hX1.len) ?_;refine f_fld g1 0 0 rfl rfl rfl rfl rfl (fun w1=>cpf0 _ w1) ?_;refine f_el g1 0 hX1.len rfl rfl rfl rfl rfl (fun _ h1=>(h1.blk b1).cx) ?_;refine f_us #[.agg (Us Y1).toArray,.agg (Us X1).toArray] (EB · (y1 - x1)) rfl rfl rfl own_elsub (fun w1 h1=>elsub_f hY1 hX1 w1 (hT.below h1)) rfl rfl fun r14 v14=>?_;refine f_fld g1 0 10 rfl rfl rfl rfl rfl (fun w1=>cpf2 _ w1) ?_;refine f_el g1 10 hZ1.len rfl rfl rfl rfl rfl (fun _ h1=>(h1.blk b1).cz hX1.len hY1.len) ?_;refine f_fld g1 0 10 rfl rfl rfl rfl rfl (fun w1=>cpf2 _ w1) ?_;refine f_el g1 10 hZ1.len rfl rfl rfl rfl rfl (fun _ h1=>(h1.blk b1).cz hX1.len hY1.len) ?_;refine f_us #[.agg (Us Z1).toArray,.agg (Us Z1).toArray] (EB · (z1 + z1)) rfl rfl rfl own_eladd (fun w1 h1=>eladd_f hZ1 hZ1 w1) rfl rfl fun r19 v19=>?_;refine f_fld g1 0 15 rfl rfl rfl rfl rfl (fun w1=>cpf3 _ w1) ?_;refine f_el g1 15 hT1.len rfl rfl rfl rfl rfl (fun _ h1=>(h1.blk b1).ct hX1.len hY1.len hZ1.len) ?_;refine f_fld g1 0 15 rfl rfl rfl rfl rfl (fun w1=>cpf3 _ w1) ?_;refine f_el g1 15 hT1.len rfl rfl rfl rfl rfl (fun _ h1=>(h1.blk b1).ct hX1.len hY1.len hZ1.len) ?_;refine f_us #[.agg (Us T1).toArray,.agg (Us T1).toArray] (EB · (t1 + t1)) rfl rfl rfl own_eladd (fun w1 h1=>eladd_f hT1 hT1 w1) rfl rfl fun r24 v24=>?_;refine f_us #[] (EB · dd) rfl rfl rfl own_factor (fun w1 h1=>factor_f w1) rfl rfl fun r25 v25=>?_
 refine f_us #[.agg (Us r24).toArray,.agg (Us r25).toArray] (EB · ((t1 + t1) * dd)) rfl rfl rfl own_elmul (fun w1 h1=>elmul_f v24 v25 w1) rfl rfl fun r26 v26=>?_;refine f_build [(0,.agg (Us r9).toArray),(1,.agg (Us r14).toArray),(2,.agg (Us r19).toArray),(3,.agg (Us r26).toArray)] (Us (pc r9 r14 r19 r26)).toArray rfl rfl rfl rfl rfl (builtA4 v9.len v14.len v19.len v26.len) ?_;refine f_set g2 _ ((Us (pc r9 r14 r19 r26)).toArray) rfl rfl rfl rfl rfl b2 (size_A (pc_len v9.len v14.len v19.len v26.len)) ((us_size pz_len).trans (us_size (pc_len v9.len v14.len v19.len v26.len)).symm) (Us_oneA _) fun w4 hw4 c4=>?_;replace b2:=c4;replace hT:=(hT.below hw4).row (g:=g2) (by have:=hw0; omega) ((Us (pc r9 r14 r19 r26)).toArray);replace hU:=up_row (hU.step hw4) q2 ((Us (pc r9 r14 r19 r26)).toArray);clear hw4 c4;generalize w4.setRow g2 ((Us (pc r9 r14 r19 r26)).toArray) = W4 at *;refine l_nil ?_;refine hK _ _ ?_;clear hK K;refine c_ret (k_ret_row g2 _ rfl rfl b2 Tryd.underlying130 rfl (size_A (pc_len v9.len v14.len v19.len v26.len)) ⟨_,⟨⟨_,_,_,_,x1,y1,z1,t1,rfl,v9,v14,v19,v26,hR1,ht1⟩,hon1⟩,rfl,hU⟩)

set_option maxRecDepth 100000 in
set_option maxHeartbeats 1000000 in
theorem cplus_f {l m : List Nat} {A B : Ed.Pt p} (hP : PB l A) (hM : AB m B) (w : World) (hT : Tw w) :
  Calls Tryd.prog 120 #[.agg (Us l).toArray,.agg (Us m).toArray] w fun e w'=>∃ r,QB r (Ed.add dd A B) ∧ e = .returned (.agg (Us r).toArray) ∧ Below w.heap.size w w':=by
 refine calls_F (vs:=[.agg (Us l).toArray,.agg (Us m).toArray]) 66 Tryd.func120 rfl (by rw [Tryd.ntmps120]; rfl) ?_;have hw0:=hT.lt;have hml:=hM.len;obtain ⟨⟨U,V,Z2,T2,x2,y2,z2,t2,rfl,hU2,hV2,hZ2,hT2,hR2,ht2⟩,hon2⟩:=hM;refine c_seq fun K hK=>?_;refine c_lit ?_;refine l_boxA ((Us l).toArray) rfl rfl rfl rfl rfl fun W1 g1 hw1 hg1 b1=>?_
 have q1 : w.heap.size ≤ g1:=by rw [hg1]; exact Nat.le_refl _
 clear hg1;replace hT:=hT.below hw1;have hU : Up w _:=hw1;refine l_boxA ((Us (pc U V Z2 T2)).toArray) rfl rfl rfl rfl rfl fun W2 g2 hw2 hg2 b2=>?_
 have n1_2 : g1 ≠ g2:=by have:=b1.lt; omega
 clear hg2;replace b1:=b1.later hw2;replace hT:=hT.below hw2;replace hU:=hU.step hw2;refine l_allocA ((Us pz).toArray) rfl rfl rfl rfl (by kernel_rfl) fun W3 g3 hw3 hg3 b3=>?_
 have q3 : w.heap.size ≤ g3:=by rw [hg3]; exact hU.size
 have n1_3 : g1 ≠ g3:=by have:=b1.lt; omega
 clear hg3;replace b1:=b1.later hw3;replace b2:=b2.later hw3;replace hT:=hT.below hw3;replace hU:=hU.step hw3;refine l_nil ?_;refine hK _ _ ?_;clear hK K;refine c_seq fun K hK=>?_;refine c_tF 2 ?_;refine f_pt g1 0 hP.len rfl rfl rfl rfl rfl (fun _ h1=>(h1.blk b1).range) ?_;refine f_us #[.agg (Us l).toArray] (QB · A) rfl rfl rfl own_pwhole (fun w1 h1=>pwhole_f hP w1) rfl rfl fun r14 v14=>?_;refine f_set g1 _ ((Us r14).toArray) rfl rfl rfl rfl rfl b1 (size_P v14.len) ((us_size hP.len).trans (us_size v14.len).symm) (Us_oneA _) fun w4 hw4 c4=>?_;replace b2:=(b2.later hw4).rowFar (Ne.symm n1_2) ((Us r14).toArray);replace b3:=(b3.later hw4).rowFar (Ne.symm n1_3) ((Us r14).toArray);replace b1:=c4;replace hT:=(hT.below hw4).row (g:=g1) (by have:=hw0; omega) ((Us r14).toArray);replace hU:=up_row (hU.step hw4) q1 ((Us r14).toArray);clear hw4 c4;generalize w4.setRow g1 ((Us r14).toArray) = W4 at *;obtain ⟨⟨X1,Y1,Z1,T1,x1,y1,z1,t1,rfl,hX1,hY1,hZ1,hT1,hR1,ht1⟩,hon1⟩:=v14;refine l_nil ?_;refine hK _ _ ?_;clear hK K;refine c_seq fun K hK=>?_;refine c_new 16 [nvE 5,nvE 6] (by decide) (by decide) ⟨⟨rfl,rfl,rfl,rfl,by kernel_rfl⟩,⟨rfl,rfl,rfl,rfl,by kernel_rfl⟩,trivial⟩ (by kernel_rfl) (tail_ok (by kernel_rfl)) (by kernel_rfl) (fun _ _ d _ _ h=>by cases d <;> exact h) ?_;refine f_fld g1 0 5 rfl rfl rfl rfl rfl (fun w1=>cpf1 _ w1) ?_;refine f_el g1 5 hY1.len rfl rfl rfl rfl rfl (fun _ h1=>(h1.blk b1).cy hX1.len) ?_;refine f_fld g1 0 0 rfl rfl rfl rfl rfl (fun w1=>cpf0 _ w1) ?_;refine f_el g1 0 hX1.len rfl rfl rfl rfl rfl (fun _ h1=>(h1.blk b1).cx) ?_;refine f_us #[.agg (Us Y1).toArray,.agg (Us X1).toArray] (EB · (y1 - x1)) rfl rfl rfl own_elsub (fun w1 h1=>elsub_f hY1 hX1 w1 (hT.below h1)) rfl rfl fun r19 v19=>?_;refine f_fld g2 0 5 rfl rfl rfl rfl rfl (fun w1=>caf1 _ w1) ?_;refine f_el g2 5 hV2.len rfl rfl rfl rfl rfl (fun _ h1=>(h1.blk b2).cy hU2.len) ?_;refine f_us #[.agg (Us r19).toArray,.agg (Us V).toArray] (EB · ((y1 - x1) * (y2 - x2))) rfl rfl rfl own_elmul (fun w1 h1=>elmul_f v19 hV2 w1) rfl rfl fun r22 v22=>?_;refine f_fld g1 0 5 rfl rfl rfl rfl rfl (fun w1=>cpf1 _ w1) ?_;refine f_el g1 5 hY1.len rfl rfl rfl rfl rfl (fun _ h1=>(h1.blk b1).cy hX1.len) ?_;refine f_fld g1 0 0 rfl rfl rfl rfl rfl (fun w1=>cpf0 _ w1) ?_;refine f_el g1 0 hX1.len rfl rfl rfl rfl rfl (fun _ h1=>(h1.blk b1).cx) ?_;refine f_us #[.agg (Us Y1).toArray,.agg (Us X1).toArray] (EB · (y1 + x1)) rfl rfl rfl own_eladd (fun w1 h1=>eladd_f hY1 hX1 w1) rfl rfl fun r27 v27=>?_;refine f_fld g2 0 0 rfl rfl rfl rfl rfl (fun w1=>caf0 _ w1) ?_;refine f_el g2 0 hU2.len rfl rfl rfl rfl rfl (fun _ h1=>(h1.blk b2).cx) ?_;refine f_us #[.agg (Us r27).toArray,.agg (Us U).toArray] (EB · ((y1 + x1) * (y2 + x2))) rfl rfl rfl own_elmul (fun w1 h1=>elmul_f v27 hU2 w1) rfl rfl fun r30 v30=>?_;refine f_new [.tmp 22,.tmp 30] [(Us r22).toArray,(Us r30).toArray] ⟨rfl,rfl,trivial⟩ (by decide) ⟨⟨rfl,rfl,rfl⟩,⟨rfl,rfl,rfl⟩,rfl⟩ ⟨⟨rfl,(us_size zl_len).trans (us_size v22.len).symm,size_E v22.len,Us_oneA _⟩,⟨rfl,(us_size zl_len).trans (us_size v30.len).symm,size_E v30.len,Us_oneA _⟩,trivial⟩ fun f5 W5 hg5 hd5 hw5 hb5=>?_
 have b500 : Blk W5 (f5 0) 77 ((Us r22).toArray):=hb5.1;have b501 : Blk W5 (f5 1) 77 ((Us r30).toArray):=hb5.2.1;clear hb5;replace b1:=b1.later hw5;replace b2:=b2.later hw5;replace b3:=b3.later hw5;replace hT:=hT.below hw5;replace hU:=hU.step hw5;clear hg5 hd5 hw5;generalize hf500 : f5 0 = g500 at *;generalize hf501 : f5 1 = g501 at *;simp only [ptrs,Nat.reduceAdd,hf500,hf501];clear hf500 hf501 f5;refine l_nil ?_;refine k_sub (E':=[(2,.pointer (some ⟨g1,0,none⟩)),(3,.pointer (some ⟨g2,0,none⟩)),(4,.pointer (some ⟨g3,0,none⟩)),(5,.pointer (some ⟨g500,0,none⟩)),(6,.pointer (some ⟨g501,0,none⟩))]) ⟨rfl,rfl,rfl,rfl,rfl,trivial⟩ ?_;refine hK _ _ ?_;clear hK K;refine c_seq fun K hK=>?_;refine c_new 10 [nvE 7,nvE 8] (by decide) (by decide) ⟨⟨rfl,rfl,rfl,rfl,by kernel_rfl⟩,⟨rfl,rfl,rfl,rfl,by kernel_rfl⟩,trivial⟩ (by kernel_rfl) (tail_ok (by kernel_rfl)) (by kernel_rfl) (fun _ _ d _ _ h=>by cases d <;> exact h) ?_;refine f_fld g1 0 10 rfl rfl rfl rfl rfl (fun w1=>cpf2 _ w1) ?_;refine f_el g1 10 hZ1.len rfl rfl rfl rfl rfl (fun _ h1=>(h1.blk b1).cz hX1.len hY1.len) ?_;refine f_fld g2 0 10 rfl rfl rfl rfl rfl (fun w1=>caf2 _ w1) ?_;refine f_el g2 10 hZ2.len rfl rfl rfl rfl rfl (fun _ h1=>(h1.blk b2).cz hU2.len hV2.len) ?_;refine f_us #[.agg (Us Z1).toArray,.agg (Us Z2).toArray] (EB · (z1 * (z2 + z2))) rfl rfl rfl own_elmul (fun w1 h1=>elmul_f hZ1 hZ2 w1) rfl rfl fun r35 v35=>?_;refine f_fld g1 0 15 rfl rfl rfl rfl rfl (fun w1=>cpf3 _ w1) ?_;refine f_el g1 15 hT1.len rfl rfl rfl rfl rfl (fun _ h1=>(h1.blk b1).ct hX1.len hY1.len hZ1.len) ?_;refine f_fld g2 0 15 rfl rfl rfl rfl rfl (fun w1=>caf3 _ w1) ?_;refine f_el g2 15 hT2.len rfl rfl rfl rfl rfl (fun _ h1=>(h1.blk b2).ct hU2.len hV2.len hZ2.len) ?_;refine f_us #[.agg (Us T1).toArray,.agg (Us T2).toArray] (EB · (t1 * ((t2 + t2) * dd))) rfl rfl rfl own_elmul (fun w1 h1=>elmul_f hT1 hT2 w1) rfl rfl fun r40 v40=>?_;refine f_new [.tmp 35,.tmp 40] [(Us r35).toArray,(Us r40).toArray] ⟨rfl,rfl,trivial⟩ (by decide) ⟨⟨rfl,rfl,rfl⟩,⟨rfl,rfl,rfl⟩,rfl⟩ ⟨⟨rfl,(us_size zl_len).trans (us_size v35.len).symm,size_E v35.len,Us_oneA _⟩,⟨rfl,(us_size zl_len).trans (us_size v40.len).symm,size_E v40.len,Us_oneA _⟩,trivial⟩ fun f6 W6 hg6 hd6 hw6 hb6=>?_;have b600 : Blk W6 (f6 0) 77 ((Us r35).toArray):=hb6.1;have b601 : Blk W6 (f6 1) 77 ((Us r40).toArray):=hb6.2.1;clear hb6;replace b3:=b3.later hw6;replace b500:=b500.later hw6;replace b501:=b501.later hw6;replace hT:=hT.below hw6;replace hU:=hU.step hw6;clear hg6 hd6 hw6;generalize hf600 : f6 0 = g600 at *;generalize hf601 : f6 1 = g601 at *;simp only [ptrs,Nat.reduceAdd,hf600,hf601];clear hf600 hf601 f6;refine l_nil ?_;refine k_sub (E':=[(4,.pointer (some ⟨g3,0,none⟩)),(5,.pointer (some ⟨g500,0,none⟩)),(6,.pointer (some ⟨g501,0,none⟩)),(7,.pointer (some ⟨g600,0,none⟩)),(8,.pointer (some ⟨g601,0,none⟩))]) ⟨rfl,rfl,rfl,rfl,rfl,trivial⟩ ?_
 refine hK _ _ ?_;clear hK K;refine c_seq fun K hK=>?_;refine c_new 12 [nvE 9,nvE 10,nvE 11,nvE 12] (by decide) (by decide) ⟨⟨rfl,rfl,rfl,rfl,by kernel_rfl⟩,⟨rfl,rfl,rfl,rfl,by kernel_rfl⟩,⟨rfl,rfl,rfl,rfl,by kernel_rfl⟩,⟨rfl,rfl,rfl,rfl,by kernel_rfl⟩,trivial⟩ (by kernel_rfl) (tail_ok (by kernel_rfl)) (by kernel_rfl) (fun _ _ d _ _ h=>by cases d <;> exact h) ?_;refine f_el g501 0 v30.len rfl rfl rfl rfl rfl (fun _ h1=>(h1.blk b501).range) ?_;refine f_el g500 0 v22.len rfl rfl rfl rfl rfl (fun _ h1=>(h1.blk b500).range) ?_;refine f_us #[.agg (Us r30).toArray,.agg (Us r22).toArray] (EB · (((y1 + x1) * (y2 + x2)) - ((y1 - x1) * (y2 - x2)))) rfl rfl rfl own_elsub (fun w1 h1=>elsub_f v30 v22 w1 (hT.below h1)) rfl rfl fun r43 v43=>?_;refine f_el g600 0 v35.len rfl rfl rfl rfl rfl (fun _ h1=>(h1.blk b600).range) ?_;refine f_el g601 0 v40.len rfl rfl rfl rfl rfl (fun _ h1=>(h1.blk b601).range) ?_;refine f_us #[.agg (Us r35).toArray,.agg (Us r40).toArray] (EB · ((z1 * (z2 + z2)) - (t1 * ((t2 + t2) * dd)))) rfl rfl rfl own_elsub (fun w1 h1=>elsub_f v35 v40 w1 (hT.below h1)) rfl rfl fun r46 v46=>?_;refine f_el g600 0 v35.len rfl rfl rfl rfl rfl (fun _ h1=>(h1.blk b600).range) ?_;refine f_el g601 0 v40.len rfl rfl rfl rfl rfl (fun _ h1=>(h1.blk b601).range) ?_;refine f_us #[.agg (Us r35).toArray,.agg (Us r40).toArray] (EB · ((z1 * (z2 + z2)) + (t1 * ((t2 + t2) * dd)))) rfl rfl rfl own_eladd (fun w1 h1=>eladd_f v35 v40 w1) rfl rfl fun r49 v49=>?_;refine f_el g501 0 v30.len rfl rfl rfl rfl rfl (fun _ h1=>(h1.blk b501).range) ?_;refine f_el g500 0 v22.len rfl rfl rfl rfl rfl (fun _ h1=>(h1.blk b500).range) ?_;refine f_us #[.agg (Us r30).toArray,.agg (Us r22).toArray] (EB · (((y1 + x1) * (y2 + x2)) + ((y1 - x1) * (y2 - x2)))) rfl rfl rfl own_eladd (fun w1 h1=>eladd_f v30 v22 w1) rfl rfl fun r52 v52=>?_;refine f_new [.tmp 43,.tmp 46,.tmp 49,.tmp 52] [(Us r43).toArray,(Us r46).toArray,(Us r49).toArray,(Us r52).toArray] ⟨rfl,rfl,rfl,rfl,trivial⟩ (by decide) ⟨⟨rfl,rfl,rfl⟩,⟨rfl,rfl,rfl⟩,⟨rfl,rfl,rfl⟩,⟨rfl,rfl,rfl⟩,rfl⟩ ⟨⟨rfl,(us_size zl_len).trans (us_size v43.len).symm,size_E v43.len,Us_oneA _⟩,⟨rfl,(us_size zl_len).trans (us_size v46.len).symm,size_E v46.len,Us_oneA _⟩,⟨rfl,(us_size zl_len).trans (us_size v49.len).symm,size_E v49.len,Us_oneA _⟩,⟨rfl,(us_size zl_len).trans (us_size v52.len).symm,size_E v52.len,Us_oneA _⟩,trivial⟩ fun f7 W7 hg7 hd7 hw7 hb7=>?_;have b700 : Blk W7 (f7 0) 77 ((Us r43).toArray):=hb7.1;have b701 : Blk W7 (f7 1) 77 ((Us r46).toArray):=hb7.2.1;have b702 : Blk W7 (f7 2) 77 ((Us r49).toArray):=hb7.2.2.1;have b703 : Blk W7 (f7 3) 77 ((Us r52).toArray):=hb7.2.2.2.1;clear hb7;replace b3:=b3.later hw7;replace hT:=hT.below hw7;replace hU:=hU.step hw7;clear hg7 hd7 hw7;generalize hf700 : f7 0 = g700 at *;generalize hf701 : f7 1 = g701 at *;generalize hf702 : f7 2 = g702 at *
 generalize hf703 : f7 3 = g703 at *;simp only [ptrs,Nat.reduceAdd,hf700,hf701,hf702,hf703];clear hf700 hf701 hf702 hf703 f7;refine l_nil ?_;refine k_sub (E':=[(4,.pointer (some ⟨g3,0,none⟩)),(9,.pointer (some ⟨g700,0,none⟩)),(10,.pointer (some ⟨g701,0,none⟩)),(11,.pointer (some ⟨g702,0,none⟩)),(12,.pointer (some ⟨g703,0,none⟩))]) ⟨rfl,rfl,rfl,rfl,rfl,trivial⟩ ?_;refine hK _ _ ?_;clear hK K;refine c_seq fun K hK=>?_;refine c_t 13 (by decide) (by kernel_rfl) (tail_ok (by kernel_rfl)) (fun _ _ d _ _ h=>by cases d <;> exact h) ?_;refine f_el g700 0 v43.len rfl rfl rfl rfl rfl (fun _ h1=>(h1.blk b700).range) ?_;refine f_el g701 0 v46.len rfl rfl rfl rfl rfl (fun _ h1=>(h1.blk b701).range) ?_;refine f_us #[.agg (Us r43).toArray,.agg (Us r46).toArray] (EB · ((((y1 + x1) * (y2 + x2)) - ((y1 - x1) * (y2 - x2))) * ((z1 * (z2 + z2)) - (t1 * ((t2 + t2) * dd))))) rfl rfl rfl own_elmul (fun w1 h1=>elmul_f v43 v46 w1) rfl rfl fun r55 v55=>?_;refine f_el g702 0 v49.len rfl rfl rfl rfl rfl (fun _ h1=>(h1.blk b702).range) ?_;refine f_el g703 0 v52.len rfl rfl rfl rfl rfl (fun _ h1=>(h1.blk b703).range) ?_;refine f_us #[.agg (Us r49).toArray,.agg (Us r52).toArray] (EB · (((z1 * (z2 + z2)) + (t1 * ((t2 + t2) * dd))) * (((y1 + x1) * (y2 + x2)) + ((y1 - x1) * (y2 - x2))))) rfl rfl rfl own_elmul (fun w1 h1=>elmul_f v49 v52 w1) rfl rfl fun r58 v58=>?_;refine f_el g701 0 v46.len rfl rfl rfl rfl rfl (fun _ h1=>(h1.blk b701).range) ?_;refine f_el g702 0 v49.len rfl rfl rfl rfl rfl (fun _ h1=>(h1.blk b702).range) ?_;refine f_us #[.agg (Us r46).toArray,.agg (Us r49).toArray] (EB · (((z1 * (z2 + z2)) - (t1 * ((t2 + t2) * dd))) * ((z1 * (z2 + z2)) + (t1 * ((t2 + t2) * dd))))) rfl rfl rfl own_elmul (fun w1 h1=>elmul_f v46 v49 w1) rfl rfl fun r61 v61=>?_;refine f_el g700 0 v43.len rfl rfl rfl rfl rfl (fun _ h1=>(h1.blk b700).range) ?_;refine f_el g703 0 v52.len rfl rfl rfl rfl rfl (fun _ h1=>(h1.blk b703).range) ?_;refine f_us #[.agg (Us r43).toArray,.agg (Us r52).toArray] (EB · ((((y1 + x1) * (y2 + x2)) - ((y1 - x1) * (y2 - x2))) * (((y1 + x1) * (y2 + x2)) + ((y1 - x1) * (y2 - x2))))) rfl rfl rfl own_elmul (fun w1 h1=>elmul_f v43 v52 w1) rfl rfl fun r64 v64=>?_;refine f_build [(0,.agg (Us r55).toArray),(1,.agg (Us r58).toArray),(2,.agg (Us r61).toArray),(3,.agg (Us r64).toArray)] (Us (pc r55 r58 r61 r64)).toArray rfl rfl rfl rfl rfl (builtP4 v55.len v58.len v61.len v64.len) ?_;refine f_set g3 _ ((Us (pc r55 r58 r61 r64)).toArray) rfl rfl rfl rfl rfl b3 (size_P (pc_len v55.len v58.len v61.len v64.len)) ((us_size pz_len).trans (us_size (pc_len v55.len v58.len v61.len v64.len)).symm) (Us_oneA _) fun w8 hw8 c8=>?_;replace b3:=c8;replace hT:=(hT.below hw8).row (g:=g3) (by have:=hw0; omega) ((Us (pc r55 r58 r61 r64)).toArray);replace hU:=up_row (hU.step hw8) q3 ((Us (pc r55 r58 r61 r64)).toArray);clear hw8 c8;generalize w8.setRow g3 ((Us (pc r55 r58 r61 r64)).toArray) = W8 at *;refine l_nil ?_
 refine hK _ _ ?_;clear hK K;have hE:=Ed.Rep.plus good hon1 hon2 hR1 ht1 hR2 ht2 rfl rfl rfl rfl rfl rfl rfl rfl;refine c_ret (k_ret_row g3 _ rfl rfl b3 Tryd.underlying79 rfl (size_P (pc_len v55.len v58.len v61.len v64.len)) ⟨_,⟨⟨_,_,_,_,_,_,_,_,rfl,v55,v58,v61,v64,hE.1,hE.2⟩,Ed.on_add good hon1 hon2⟩,rfl,hU⟩)

set_option maxRecDepth 100000 in
set_option maxHeartbeats 1000000 in
theorem cneg_f {l : List Nat} {A : Ed.Pt p} (hP : PB l A) (w : World) (hT : Tw w) :
  Calls Tryd.prog 45 #[.agg (Us l).toArray] w fun e w'=>∃ r,QB r (Ed.neg A) ∧ e = .returned (.agg (Us r).toArray) ∧ Below w.heap.size w w':=by
 refine calls_F (vs:=[.agg (Us l).toArray]) 18 Tryd.func45 rfl (by rw [Tryd.ntmps45]; rfl) ?_;have hw0:=hT.lt;refine c_seq fun K hK=>?_;refine c_lit ?_;refine l_boxA ((Us l).toArray) rfl rfl rfl rfl rfl fun W1 g1 hw1 hg1 b1=>?_
 have q1 : w.heap.size ≤ g1:=by rw [hg1]; exact Nat.le_refl _
 clear hg1;replace hT:=hT.below hw1;have hU : Up w _:=hw1;refine l_allocA ((Us pz).toArray) rfl rfl rfl rfl (by kernel_rfl) fun W2 g2 hw2 hg2 b2=>?_
 have q2 : w.heap.size ≤ g2:=by rw [hg2]; exact hU.size
 have n1_2 : g1 ≠ g2:=by have:=b1.lt; omega
 clear hg2;replace b1:=b1.later hw2;replace hT:=hT.below hw2;replace hU:=hU.step hw2;refine l_nil ?_;refine hK _ _ ?_;clear hK K;refine c_seq fun K hK=>?_;refine c_tF 2 ?_;refine f_pt g1 0 hP.len rfl rfl rfl rfl rfl (fun _ h1=>(h1.blk b1).range) ?_;refine f_us #[.agg (Us l).toArray] (QB · A) rfl rfl rfl own_pwhole (fun w1 h1=>pwhole_f hP w1) rfl rfl fun r4 v4=>?_;refine f_set g1 _ ((Us r4).toArray) rfl rfl rfl rfl rfl b1 (size_P v4.len) ((us_size hP.len).trans (us_size v4.len).symm) (Us_oneA _) fun w3 hw3 c3=>?_;replace b2:=(b2.later hw3).rowFar (Ne.symm n1_2) ((Us r4).toArray);replace b1:=c3;replace hT:=(hT.below hw3).row (g:=g1) (by have:=hw0; omega) ((Us r4).toArray);replace hU:=up_row (hU.step hw3) q1 ((Us r4).toArray);clear hw3 c3;generalize w3.setRow g1 ((Us r4).toArray) = W3 at *;obtain ⟨⟨X1,Y1,Z1,T1,x1,y1,z1,t1,rfl,hX1,hY1,hZ1,hT1,hR1,ht1⟩,hon1⟩:=v4;refine l_nil ?_;refine hK _ _ ?_;clear hK K;refine c_seq fun K hK=>?_;refine c_t 13 (by decide) (by kernel_rfl) (tail_ok (by kernel_rfl)) (fun _ _ d _ _ h=>by cases d <;> exact h) ?_;refine f_build [] (Us zl).toArray rfl rfl rfl rfl rfl built_zero ?_;refine f_fld g1 0 0 rfl rfl rfl rfl rfl (fun w1=>cpf0 _ w1) ?_;refine f_el g1 0 hX1.len rfl rfl rfl rfl rfl (fun _ h1=>(h1.blk b1).cx) ?_;refine f_us #[.agg (Us zl).toArray,.agg (Us X1).toArray] (EB · (0 - x1)) rfl rfl rfl own_elsub (fun w1 h1=>elsub_f eb_zero hX1 w1 (hT.below h1)) rfl rfl fun r8 v8=>?_;refine f_fld g1 0 5 rfl rfl rfl rfl rfl (fun w1=>cpf1 _ w1) ?_;refine f_el g1 5 hY1.len rfl rfl rfl rfl rfl (fun _ h1=>(h1.blk b1).cy hX1.len) ?_;refine f_fld g1 0 10 rfl rfl rfl rfl rfl (fun w1=>cpf2 _ w1) ?_;refine f_el g1 10 hZ1.len rfl rfl rfl rfl rfl (fun _ h1=>(h1.blk b1).cz hX1.len hY1.len) ?_;refine f_build [] (Us zl).toArray rfl rfl rfl rfl rfl built_zero ?_;refine f_fld g1 0 15 rfl rfl rfl rfl rfl (fun w1=>cpf3 _ w1) ?_;refine f_el g1 15 hT1.len rfl rfl rfl rfl rfl (fun _ h1=>(h1.blk b1).ct hX1.len hY1.len hZ1.len) ?_;refine f_us #[.agg (Us zl).toArray,.agg (Us T1).toArray] (EB · (0 - t1)) rfl rfl rfl own_elsub (fun w1 h1=>elsub_f eb_zero hT1 w1 (hT.below h1)) rfl rfl fun r16 v16=>?_;refine f_build [(0,.agg (Us r8).toArray),(1,.agg (Us Y1).toArray),(2,.agg (Us Z1).toArray),(3,.agg (Us r16).toArray)] (Us (pc r8 Y1 Z1 r16)).toArray rfl rfl rfl rfl rfl (builtP4 v8.len hY1.len hZ1.len v16.len) ?_;refine f_set g2 _ ((Us (pc r8 Y1 Z1 r16)).toArray) rfl rfl rfl rfl rfl b2 (size_P (pc_len v8.len hY1.len hZ1.len v16.len)) ((us_size pz_len).trans (us_size (pc_len v8.len hY1.len hZ1.len v16.len)).symm) (Us_oneA _) fun w4 hw4 c4=>?_;replace b2:=c4;replace hT:=(hT.below hw4).row (g:=g2) (by have:=hw0; omega) ((Us (pc r8 Y1 Z1 r16)).toArray);replace hU:=up_row (hU.step hw4) q2 ((Us (pc r8 Y1 Z1 r16)).toArray);clear hw4 c4;generalize w4.setRow g2 ((Us (pc r8 Y1 Z1 r16)).toArray) = W4 at *;refine l_nil ?_;refine hK _ _ ?_;clear hK K;refine c_ret (k_ret_row g2 _ rfl rfl b2 Tryd.underlying79 rfl (size_P (pc_len v8.len hY1.len hZ1.len v16.len)) ⟨_,⟨⟨_,_,_,_,_,_,_,_,rfl,v8,hY1,hZ1,v16,Ed.Rep.neg0 hR1,by rw [neg_mul1,neg_mul2,ht1]⟩,Ed.on_neg hon1⟩,rfl,hU⟩)

end Go.Proofs.YtminmeljonbogaaDoor
/-
  THE PROGRAM'S POINTS: doubled.
-/
namespace Go.Proofs.YtminmeljonbogaaDoor
open Go.RowKit Go.IntWalk Nums

theorem dbl_pow {A : Ed.Pt p} (hon : Ed.On dd A) {i : Nat} : Ed.mul dd (2 ^ (i + 1)) A = Ed.add dd (Ed.mul dd (2 ^ i) A) (Ed.mul dd (2 ^ i) A):=by
 rw [Nat.pow_succ,Nat.mul_two,Ed.mul_add good hon]
def DC (n : Nat) (A : Ed.Pt p) (i : Nat) (l : List Nat) : Prop:=∃ X Y Z T x y z t,l = pc X Y Z T ∧ EB X x ∧ EB Y y ∧ EB Z z ∧ EB T t ∧ Ed.Rep x y z (Ed.mul dd (2 ^ i) A) ∧ (i = 0 ∨ i = n → t * z = x * y)
theorem DC.start {n : Nat} {A : Ed.Pt p} {l : List Nat} (h : QB l A) : DC n A 0 l:=by
 obtain ⟨⟨X,Y,Z,T,x,y,z,t,e,hX,hY,hZ,hT,hR,ht⟩,_⟩:=h;exact ⟨X,Y,Z,T,x,y,z,t,e,hX,hY,hZ,hT,by rw [Nat.pow_zero,Ed.mul_1 good]; exact hR,fun _=>ht⟩
theorem DC.len {n i : Nat} {A : Ed.Pt p} {l : List Nat} (h : DC n A i l) : l.length = 20:=by
 obtain ⟨X,Y,Z,T,x,y,z,t,rfl,hX,hY,hZ,hT,_⟩:=h;exact pc_len hX.len hY.len hZ.len hT.len
theorem DC.fin {n : Nat} {A : Ed.Pt p} {l : List Nat} (h : DC n A n l) (hon : Ed.On dd A) : QB l (Ed.mul dd (2 ^ n) A):=by
 obtain ⟨X,Y,Z,T,x,y,z,t,e,hX,hY,hZ,hT,hR,ht⟩:=h;exact ⟨⟨X,Y,Z,T,x,y,z,t,e,hX,hY,hZ,hT,hR,ht (.inr rfl)⟩,Ed.on_mul good hon _⟩
def DF (n g1 g2 : Nat) (s : Nat × List Nat) : List (Nat × Value):=[(1,.int .i64 (n : Int)),(2,.pointer (some ⟨g1,0,none⟩)),(4,.pointer (some ⟨g2,0,none⟩)),(18,.int .i64 (n : Int)),(19,.int .i64 (s.1 : Int))]
def DR (w : World) (n g1 g2 : Nat) (A : Ed.Pt p) (s : Nat × List Nat) (W : World) : Prop:=s.1 ≤ n ∧ DC n A s.1 s.2 ∧ Up w W ∧ Tw W ∧ Blk W g1 79 (Us s.2).toArray ∧ Blk W g2 79 (Us pz).toArray

set_option maxRecDepth 100000 in
set_option maxHeartbeats 1000000 in
theorem doubled_f {l : List Nat} {A : Ed.Pt p} (hP : PB l A) (n : Nat) (hn : n < 4294967296) (w : World) (hT : Tw w) :
  Calls Tryd.prog 86 #[.agg (Us l).toArray,.int .i64 (n : Int)] w fun e w'=>∃ r,PB r (Ed.mul dd (2 ^ n) A) ∧ e = .returned (.agg (Us r).toArray) ∧ Below w.heap.size w w':=by
 refine calls_F (vs:=[.agg (Us l).toArray,.int .i64 (n : Int)]) 76 Tryd.func86 rfl (by rw [Tryd.ntmps86]; rfl) ?_;have hw0:=hT.lt;have hl:=hP.len;refine c_seq fun K hK=>?_;refine c_lit ?_;refine l_boxA ((Us l).toArray) rfl rfl rfl rfl rfl fun W1 g1 hw1 hg1 b1=>?_
 have q1 : w.heap.size ≤ g1:=by rw [hg1]; exact Nat.le_refl _
 clear hg1;replace hT:=hT.below hw1;have hU : Up w _:=hw1;refine l_allocA ((Us pz).toArray) rfl rfl rfl rfl (by kernel_rfl) fun W2 g2 hw2 hg2 b2=>?_
 have q2 : w.heap.size ≤ g2:=by rw [hg2]; exact hU.size
 have n1_2 : g1 ≠ g2:=by have:=b1.lt; omega
 clear hg2;replace b1:=b1.later hw2;replace hT:=hT.below hw2;replace hU:=hU.step hw2;refine l_nil ?_;refine hK _ _ ?_;clear hK K;refine c_seq fun K0 hK0=>?_;refine c_seq fun K hK=>?_
 rcases hP with ⟨rfl,rfl⟩ | hQ
 ·refine c_qF ?_
  refine f_pt g1 0 hl rfl rfl rfl rfl rfl (fun _ h1=>(h1.blk b1).range) ?_;refine f_build [] (Us pz).toArray rfl rfl rfl rfl rfl builtP0 ?_;refine f_eq (Us pz).toArray (Us pz).toArray rfl rfl rfl rfl rfl rfl (by kernel_rfl) eq_pz ?_;refine f_end fun w9 hw9=>hK _ _ ?_;clear hK K;replace b1:=b1.later hw9;replace b2:=b2.later hw9;replace hT:=hT.below hw9;replace hU:=hU.step hw9;refine c_cond true rfl ?_;rw [if_pos rfl];refine c_seq fun K2 hK2=>?_;refine c_tF 1 ?_;refine f_pt g1 0 hl rfl rfl rfl rfl rfl (fun _ h1=>(h1.blk b1).range) ?_;refine f_set g2 _ ((Us pz).toArray) rfl rfl rfl rfl rfl b2 (size_P pz_len) ((us_size pz_len).trans (us_size pz_len).symm) (Us_oneA _) fun w3 hw3 c3=>?_;replace b1:=(b1.later hw3).rowFar n1_2 ((Us pz).toArray);replace b2:=c3;replace hT:=(hT.below hw3).row (g:=g2) (by have:=hw0; omega) ((Us pz).toArray);replace hU:=up_row (hU.step hw3) q2 ((Us pz).toArray);clear hw3 c3;generalize w3.setRow g2 ((Us pz).toArray) = W3 at *;refine l_nil ?_;refine hK2 _ _ ?_;clear hK2 K2;refine c_ret (k_then_ret (k_ret_row g2 _ rfl rfl b2 Tryd.underlying79 rfl (size_P pz_len) ⟨_,.inl ⟨rfl,Ed.mul_zero good _⟩,rfl,hU⟩))
 ·have hon:=hQ.on
  refine c_qF ?_;refine f_pt g1 0 hl rfl rfl rfl rfl rfl (fun _ h1=>(h1.blk b1).range) ?_;refine f_build [] (Us pz).toArray rfl rfl rfl rfl rfl builtP0 ?_;refine f_eq (Us l).toArray (Us pz).toArray rfl rfl rfl rfl rfl rfl (by kernel_rfl) (ne_pz hQ) ?_;refine f_end fun w9 hw9=>hK _ _ ?_;clear hK K;replace b1:=b1.later hw9;replace b2:=b2.later hw9;replace hT:=hT.below hw9;replace hU:=hU.step hw9;refine c_cond false rfl ?_;rw [if_neg (by decide)];refine c_skip ?_;refine hK0 _ _ ?_;clear hK0 K0;refine c_seq fun K1 hK1=>?_;refine c_seq fun K hK=>?_;refine c_qF ?_;refine f_move (.int .i64 (n : Int)) rfl rfl rfl rfl rfl ?_;refine f_move (.int .i64 0) rfl rfl rfl rfl rfl ?_;refine f_end fun w10 hw10=>?_;replace b1:=b1.later hw10;replace b2:=b2.later hw10;replace hT:=hT.below hw10;replace hU:=hU.step hw10;refine k_sub (E':=DF n g1 g2 (0,l)) ⟨rfl,rfl,rfl,rfl,rfl,trivial⟩ ?_;refine hK _ _ ?_;clear hK K;refine c_block ?_;refine c_loop (m:=fun s : Nat × List Nat=>n - s.1) (F:=DF n g1 g2) (R:=DR w n g1 g2 A) ?_ (0,l) ⟨Nat.zero_le _,DC.start hQ,hU,hT,b1,b2⟩;clear hU hT b1 b2 hw10 w10 hQ
  rintro ⟨i,m⟩ V0 ⟨hi,hD,hU,hT,b1,b2⟩
  simp only at hi hD b1;refine c_seq fun K hK=>?_;refine c_qF ?_
  by_cases hin : i < n
  ·refine f_lssI (i : Int) (n : Int) true rfl rfl rfl rfl rfl rfl (decide_eq_true (by omega)) ?_
   refine f_end fun w11 hw11=>hK _ _ ?_;clear hK K;replace b1:=b1.later hw11;replace b2:=b2.later hw11;replace hT:=hT.below hw11;replace hU:=hU.step hw11;refine c_seq fun K hK=>?_;refine c_cond true rfl ?_;refine c_skip ?_;refine hK _ _ ?_;clear hK K;refine c_seq fun K3 hK3=>?_;refine c_block ?_;refine c_seq fun K hK=>?_;refine c_qF ?_;refine f_move (.int .i64 (i : Int)) rfl rfl rfl rfl rfl ?_;refine f_assign (.int .i64 (i : Int)) rfl rfl rfl rfl rfl ?_;refine f_end fun w12 hw12=>hK _ _ ?_;clear hK K;replace b1:=b1.later hw12;replace b2:=b2.later hw12;replace hT:=hT.below hw12;replace hU:=hU.step hw12;obtain ⟨X1,Y1,Z1,T1,x1,y1,z1,t1,rfl,hX1,hY1,hZ1,hT1,hR1,ht1⟩:=hD;refine c_seq fun K hK=>?_;refine c_new 20 [nvE 6,nvE 7,nvE 8,nvE 9] (by decide) (by decide) ⟨⟨rfl,rfl,rfl,rfl,by kernel_rfl⟩,⟨rfl,rfl,rfl,rfl,by kernel_rfl⟩,⟨rfl,rfl,rfl,rfl,by kernel_rfl⟩,⟨rfl,rfl,rfl,rfl,by kernel_rfl⟩,trivial⟩ (by kernel_rfl) (tail_okD 8 (by kernel_rfl)) (by kernel_rfl) (fun _ _ d _ _ h=>by cases d <;> exact h) ?_;refine f_fld g1 0 0 rfl rfl rfl rfl rfl (fun w1=>cpf0 _ w1) ?_;refine f_el g1 0 hX1.len rfl rfl rfl rfl rfl (fun _ h1=>(h1.blk b1).cx) ?_;refine f_fld g1 0 0 rfl rfl rfl rfl rfl (fun w1=>cpf0 _ w1) ?_;refine f_el g1 0 hX1.len rfl rfl rfl rfl rfl (fun _ h1=>(h1.blk b1).cx) ?_;refine f_us #[.agg (Us X1).toArray,.agg (Us X1).toArray] (EB · (x1 * x1)) rfl rfl rfl own_elmul (fun w1 h1=>elmul_f hX1 hX1 w1) rfl rfl fun r26 v26=>?_;refine f_fld g1 0 5 rfl rfl rfl rfl rfl (fun w1=>cpf1 _ w1) ?_;refine f_el g1 5 hY1.len rfl rfl rfl rfl rfl (fun _ h1=>(h1.blk b1).cy hX1.len) ?_;refine f_fld g1 0 5 rfl rfl rfl rfl rfl (fun w1=>cpf1 _ w1) ?_;refine f_el g1 5 hY1.len rfl rfl rfl rfl rfl (fun _ h1=>(h1.blk b1).cy hX1.len) ?_;refine f_us #[.agg (Us Y1).toArray,.agg (Us Y1).toArray] (EB · (y1 * y1)) rfl rfl rfl own_elmul (fun w1 h1=>elmul_f hY1 hY1 w1) rfl rfl fun r31 v31=>?_;refine f_fld g1 0 10 rfl rfl rfl rfl rfl (fun w1=>cpf2 _ w1) ?_;refine f_el g1 10 hZ1.len rfl rfl rfl rfl rfl (fun _ h1=>(h1.blk b1).cz hX1.len hY1.len) ?_;refine f_fld g1 0 10 rfl rfl rfl rfl rfl (fun w1=>cpf2 _ w1) ?_;refine f_el g1 10 hZ1.len rfl rfl rfl rfl rfl (fun _ h1=>(h1.blk b1).cz hX1.len hY1.len) ?_;refine f_us #[.agg (Us Z1).toArray,.agg (Us Z1).toArray] (EB · (z1 * z1)) rfl rfl rfl own_elmul (fun w1 h1=>elmul_f hZ1 hZ1 w1) rfl rfl fun r36 v36=>?_;refine f_fld g1 0 0 rfl rfl rfl rfl rfl (fun w1=>cpf0 _ w1) ?_;refine f_el g1 0 hX1.len rfl rfl rfl rfl rfl (fun _ h1=>(h1.blk b1).cx) ?_;refine f_fld g1 0 5 rfl rfl rfl rfl rfl (fun w1=>cpf1 _ w1) ?_;refine f_el g1 5 hY1.len rfl rfl rfl rfl rfl (fun _ h1=>(h1.blk b1).cy hX1.len) ?_;refine f_us #[.agg (Us X1).toArray,.agg (Us Y1).toArray] (EB · (x1 * y1)) rfl rfl rfl own_elmul (fun w1 h1=>elmul_f hX1 hY1 w1) rfl rfl fun r41 v41=>?_;refine f_new [.tmp 26,.tmp 31,.tmp 36,.tmp 41] [(Us r26).toArray,(Us r31).toArray,(Us r36).toArray,(Us r41).toArray] ⟨rfl,rfl,rfl,rfl,trivial⟩ (by decide) ⟨⟨rfl,rfl,rfl⟩,⟨rfl,rfl,rfl⟩,⟨rfl,rfl,rfl⟩,⟨rfl,rfl,rfl⟩,rfl⟩ ⟨⟨rfl,(us_size zl_len).trans (us_size v26.len).symm,size_E v26.len,Us_oneA _⟩,⟨rfl,(us_size zl_len).trans (us_size v31.len).symm,size_E v31.len,Us_oneA _⟩,⟨rfl,(us_size zl_len).trans (us_size v36.len).symm,size_E v36.len,Us_oneA _⟩,⟨rfl,(us_size zl_len).trans (us_size v41.len).symm,size_E v41.len,Us_oneA _⟩,trivial⟩ fun f13 W13 hg13 hd13 hw13 hb13=>?_
   have b1300 : Blk W13 (f13 0) 77 ((Us r26).toArray):=hb13.1;have b1301 : Blk W13 (f13 1) 77 ((Us r31).toArray):=hb13.2.1;have b1302 : Blk W13 (f13 2) 77 ((Us r36).toArray):=hb13.2.2.1;have b1303 : Blk W13 (f13 3) 77 ((Us r41).toArray):=hb13.2.2.2.1;clear hb13;replace b1:=b1.later hw13;replace b2:=b2.later hw13;replace hT:=hT.below hw13;replace hU:=hU.step hw13;clear hg13 hd13 hw13;generalize hf1300 : f13 0 = g1300 at *;generalize hf1301 : f13 1 = g1301 at *;generalize hf1302 : f13 2 = g1302 at *;generalize hf1303 : f13 3 = g1303 at *;simp only [ptrs,Nat.reduceAdd,hf1300,hf1301,hf1302,hf1303];clear hf1300 hf1301 hf1302 hf1303 f13;refine l_nil ?_;refine k_sub (E':=[(1,.int .i64 (n : Int)),(2,.pointer (some ⟨g1,0,none⟩)),(4,.pointer (some ⟨g2,0,none⟩)),(18,.int .i64 (n : Int)),(19,.int .i64 (i : Int)),(5,.int .i64 (i : Int)),(6,.pointer (some ⟨g1300,0,none⟩)),(7,.pointer (some ⟨g1301,0,none⟩)),(8,.pointer (some ⟨g1302,0,none⟩)),(9,.pointer (some ⟨g1303,0,none⟩))]) ⟨rfl,rfl,rfl,rfl,rfl,rfl,rfl,rfl,rfl,rfl,trivial⟩ ?_;refine hK _ _ ?_;clear hK K;refine c_seq fun K hK=>?_;refine c_new 9 [nvE 10,nvE 11,nvE 12] (by decide) (by decide) ⟨⟨rfl,rfl,rfl,rfl,by kernel_rfl⟩,⟨rfl,rfl,rfl,rfl,by kernel_rfl⟩,⟨rfl,rfl,rfl,rfl,by kernel_rfl⟩,trivial⟩ (by kernel_rfl) (tail_ok (by kernel_rfl)) (by kernel_rfl) (fun _ _ d _ _ h=>by cases d <;> exact h) ?_;refine f_el g1303 0 v41.len rfl rfl rfl rfl rfl (fun _ h1=>(h1.blk b1303).range) ?_;refine f_el g1303 0 v41.len rfl rfl rfl rfl rfl (fun _ h1=>(h1.blk b1303).range) ?_;refine f_us #[.agg (Us r41).toArray,.agg (Us r41).toArray] (EB · ((x1 * y1) + (x1 * y1))) rfl rfl rfl own_eladd (fun w1 h1=>eladd_f v41 v41 w1) rfl rfl fun r44 v44=>?_;refine f_el g1301 0 v31.len rfl rfl rfl rfl rfl (fun _ h1=>(h1.blk b1301).range) ?_;refine f_el g1300 0 v26.len rfl rfl rfl rfl rfl (fun _ h1=>(h1.blk b1300).range) ?_;refine f_us #[.agg (Us r31).toArray,.agg (Us r26).toArray] (EB · ((y1 * y1) - (x1 * x1))) rfl rfl rfl own_elsub (fun w1 h1=>elsub_f v31 v26 w1 (hT.below h1)) rfl rfl fun r47 v47=>?_;refine f_el g1301 0 v31.len rfl rfl rfl rfl rfl (fun _ h1=>(h1.blk b1301).range) ?_;refine f_el g1300 0 v26.len rfl rfl rfl rfl rfl (fun _ h1=>(h1.blk b1300).range) ?_;refine f_us #[.agg (Us r31).toArray,.agg (Us r26).toArray] (EB · ((y1 * y1) + (x1 * x1))) rfl rfl rfl own_eladd (fun w1 h1=>eladd_f v31 v26 w1) rfl rfl fun r50 v50=>?_;refine f_new [.tmp 44,.tmp 47,.tmp 50] [(Us r44).toArray,(Us r47).toArray,(Us r50).toArray] ⟨rfl,rfl,rfl,trivial⟩ (by decide) ⟨⟨rfl,rfl,rfl⟩,⟨rfl,rfl,rfl⟩,⟨rfl,rfl,rfl⟩,rfl⟩ ⟨⟨rfl,(us_size zl_len).trans (us_size v44.len).symm,size_E v44.len,Us_oneA _⟩,⟨rfl,(us_size zl_len).trans (us_size v47.len).symm,size_E v47.len,Us_oneA _⟩,⟨rfl,(us_size zl_len).trans (us_size v50.len).symm,size_E v50.len,Us_oneA _⟩,trivial⟩ fun f14 W14 hg14 hd14 hw14 hb14=>?_
   have b1400 : Blk W14 (f14 0) 77 ((Us r44).toArray):=hb14.1;have b1401 : Blk W14 (f14 1) 77 ((Us r47).toArray):=hb14.2.1;have b1402 : Blk W14 (f14 2) 77 ((Us r50).toArray):=hb14.2.2.1;clear hb14
   have n1_1400 : g1 ≠ f14 0:=by have:=b1.lt; have:=hg14 0 (by decide); omega
   have n1_1402 : g1 ≠ f14 2:=by have:=b1.lt; have:=hg14 2 (by decide); omega
   replace b1:=b1.later hw14;replace b2:=b2.later hw14;replace b1302:=b1302.later hw14;replace hT:=hT.below hw14;replace hU:=hU.step hw14;clear hg14 hd14 hw14;generalize hf1400 : f14 0 = g1400 at *;generalize hf1401 : f14 1 = g1401 at *;generalize hf1402 : f14 2 = g1402 at *;simp only [ptrs,Nat.reduceAdd,hf1400,hf1401,hf1402];clear hf1400 hf1401 hf1402 f14;refine l_nil ?_;refine k_sub (E':=[(1,.int .i64 (n : Int)),(2,.pointer (some ⟨g1,0,none⟩)),(4,.pointer (some ⟨g2,0,none⟩)),(18,.int .i64 (n : Int)),(19,.int .i64 (i : Int)),(5,.int .i64 (i : Int)),(8,.pointer (some ⟨g1302,0,none⟩)),(10,.pointer (some ⟨g1400,0,none⟩)),(11,.pointer (some ⟨g1401,0,none⟩)),(12,.pointer (some ⟨g1402,0,none⟩))]) ⟨rfl,rfl,rfl,rfl,rfl,rfl,rfl,rfl,rfl,rfl,trivial⟩ ?_;refine hK _ _ ?_;clear hK K;refine c_seq fun K hK=>?_;refine c_new 5 [nvE 13] (by decide) (by decide) ⟨⟨rfl,rfl,rfl,rfl,by kernel_rfl⟩,trivial⟩ (by kernel_rfl) (tail_ok (by kernel_rfl)) (by kernel_rfl) (fun _ _ d _ _ h=>by cases d <;> exact h) ?_;refine f_el g1302 0 v36.len rfl rfl rfl rfl rfl (fun _ h1=>(h1.blk b1302).range) ?_;refine f_el g1302 0 v36.len rfl rfl rfl rfl rfl (fun _ h1=>(h1.blk b1302).range) ?_;refine f_us #[.agg (Us r36).toArray,.agg (Us r36).toArray] (EB · ((z1 * z1) + (z1 * z1))) rfl rfl rfl own_eladd (fun w1 h1=>eladd_f v36 v36 w1) rfl rfl fun r53 v53=>?_;refine f_el g1401 0 v47.len rfl rfl rfl rfl rfl (fun _ h1=>(h1.blk b1401).range) ?_;refine f_us #[.agg (Us r53).toArray,.agg (Us r47).toArray] (EB · (((z1 * z1) + (z1 * z1)) - ((y1 * y1) - (x1 * x1)))) rfl rfl rfl own_elsub (fun w1 h1=>elsub_f v53 v47 w1 (hT.below h1)) rfl rfl fun r55 v55=>?_;refine f_new [.tmp 55] [(Us r55).toArray] ⟨rfl,trivial⟩ (by decide) ⟨⟨rfl,rfl,rfl⟩,rfl⟩ ⟨⟨rfl,(us_size zl_len).trans (us_size v55.len).symm,size_E v55.len,Us_oneA _⟩,trivial⟩ fun f15 W15 hg15 hd15 hw15 hb15=>?_;have b1500 : Blk W15 (f15 0) 77 ((Us r55).toArray):=hb15.1;clear hb15;replace b1:=b1.later hw15;replace b2:=b2.later hw15;replace b1400:=b1400.later hw15;replace b1401:=b1401.later hw15;replace b1402:=b1402.later hw15;replace hT:=hT.below hw15;replace hU:=hU.step hw15;clear hg15 hd15 hw15;generalize hf1500 : f15 0 = g1500 at *;simp only [ptrs,hf1500];clear hf1500 f15;refine l_nil ?_;refine k_sub (E':=[(1,.int .i64 (n : Int)),(2,.pointer (some ⟨g1,0,none⟩)),(4,.pointer (some ⟨g2,0,none⟩)),(18,.int .i64 (n : Int)),(19,.int .i64 (i : Int)),(5,.int .i64 (i : Int)),(10,.pointer (some ⟨g1400,0,none⟩)),(11,.pointer (some ⟨g1401,0,none⟩)),(12,.pointer (some ⟨g1402,0,none⟩)),(13,.pointer (some ⟨g1500,0,none⟩))]) ⟨rfl,rfl,rfl,rfl,rfl,rfl,rfl,rfl,rfl,rfl,trivial⟩ ?_;refine hK _ _ ?_;clear hK K;refine c_seq fun K hK=>?_;refine c_t 10 (by decide) (by kernel_rfl) (tail_ok (by kernel_rfl)) (fun _ _ d _ _ h=>by cases d <;> exact h) ?_;refine f_el g1400 0 v44.len rfl rfl rfl rfl rfl (fun _ h1=>(h1.blk b1400).range) ?_
   refine f_el g1500 0 v55.len rfl rfl rfl rfl rfl (fun _ h1=>(h1.blk b1500).range) ?_;refine f_us #[.agg (Us r44).toArray,.agg (Us r55).toArray] (EB · (((x1 * y1) + (x1 * y1)) * (((z1 * z1) + (z1 * z1)) - ((y1 * y1) - (x1 * x1))))) rfl rfl rfl own_elmul (fun w1 h1=>elmul_f v44 v55 w1) rfl rfl fun r58 v58=>?_;refine f_el g1401 0 v47.len rfl rfl rfl rfl rfl (fun _ h1=>(h1.blk b1401).range) ?_;refine f_el g1402 0 v50.len rfl rfl rfl rfl rfl (fun _ h1=>(h1.blk b1402).range) ?_;refine f_us #[.agg (Us r47).toArray,.agg (Us r50).toArray] (EB · (((y1 * y1) - (x1 * x1)) * ((y1 * y1) + (x1 * x1)))) rfl rfl rfl own_elmul (fun w1 h1=>elmul_f v47 v50 w1) rfl rfl fun r61 v61=>?_;refine f_el g1500 0 v55.len rfl rfl rfl rfl rfl (fun _ h1=>(h1.blk b1500).range) ?_;refine f_el g1401 0 v47.len rfl rfl rfl rfl rfl (fun _ h1=>(h1.blk b1401).range) ?_;refine f_us #[.agg (Us r55).toArray,.agg (Us r47).toArray] (EB · ((((z1 * z1) + (z1 * z1)) - ((y1 * y1) - (x1 * x1))) * ((y1 * y1) - (x1 * x1)))) rfl rfl rfl own_elmul (fun w1 h1=>elmul_f v55 v47 w1) rfl rfl fun r64 v64=>?_;refine f_build [(0,.agg (Us r58).toArray),(1,.agg (Us r61).toArray),(2,.agg (Us r64).toArray)] (Us (pc r58 r61 r64 zl)).toArray rfl rfl rfl rfl rfl (builtP3 v58.len v61.len v64.len) ?_;refine f_set g1 _ ((Us (pc r58 r61 r64 zl)).toArray) rfl rfl rfl rfl rfl b1 (size_P (pc_len v58.len v61.len v64.len zl_len)) ((us_size (pc_len hX1.len hY1.len hZ1.len hT1.len)).trans (us_size (pc_len v58.len v61.len v64.len zl_len)).symm) (Us_oneA _) fun w16 hw16 c16=>?_;replace b2:=(b2.later hw16).rowFar (Ne.symm n1_2) ((Us (pc r58 r61 r64 zl)).toArray);replace b1400:=(b1400.later hw16).rowFar (Ne.symm n1_1400) ((Us (pc r58 r61 r64 zl)).toArray);replace b1402:=(b1402.later hw16).rowFar (Ne.symm n1_1402) ((Us (pc r58 r61 r64 zl)).toArray);replace b1:=c16;replace hT:=(hT.below hw16).row (g:=g1) (by have:=hw0; omega) ((Us (pc r58 r61 r64 zl)).toArray);replace hU:=up_row (hU.step hw16) q1 ((Us (pc r58 r61 r64 zl)).toArray);clear hw16 c16;generalize w16.setRow g1 ((Us (pc r58 r61 r64 zl)).toArray) = W16 at *;refine l_nil ?_;refine hK _ _ ?_;clear hK K;have hE:=Ed.Rep.dbl good (Ed.on_mul good hon (2 ^ i)) hR1 rfl rfl rfl rfl rfl rfl rfl rfl;rw [← dbl_pow hon] at hE;refine c_seq fun K hK=>?_;refine c_qF ?_;refine f_move (.int .i64 (i : Int)) rfl rfl rfl rfl rfl ?_;refine f_move (.int .i64 (n : Int)) rfl rfl rfl rfl rfl ?_;refine f_subI (n : Int) (1 : Int) ((n - 1 : Nat) : Int) rfl rfl rfl rfl rfl rfl (subI n 1 (by omega) (by omega)) ?_
   by_cases hlast : i = n - 1
   ·refine f_eqlI (i : Int) ((n - 1 : Nat) : Int) true rfl rfl rfl rfl rfl rfl (decide_eq_true (by omega)) ?_
    refine f_end fun w18 hw18=>hK _ _ ?_;clear hK K;replace b1:=b1.later hw18;replace b2:=b2.later hw18;replace b1400:=b1400.later hw18;replace b1402:=b1402.later hw18;replace hT:=hT.below hw18;replace hU:=hU.step hw18;refine c_cond true rfl ?_;refine c_tF 4 ?_;refine f_el g1400 0 v44.len rfl rfl rfl rfl rfl (fun _ h1=>(h1.blk b1400).range) ?_;refine f_el g1402 0 v50.len rfl rfl rfl rfl rfl (fun _ h1=>(h1.blk b1402).range) ?_;refine f_us #[.agg (Us r44).toArray,.agg (Us r50).toArray] (EB · (((x1 * y1) + (x1 * y1)) * ((y1 * y1) + (x1 * x1)))) rfl rfl rfl own_elmul (fun w1 h1=>elmul_f v44 v50 w1) rfl rfl fun r72 v72=>?_;refine f_fld g1 0 15 rfl rfl rfl rfl rfl (fun w1=>cpf3 _ w1) ?_;refine f_tail fun w19 hw19=>?_;replace b1:=b1.later hw19;replace b2:=b2.later hw19;replace hT:=hT.below hw19;replace hU:=hU.step hw19
    have c1 : Blk w19 g1 79 ((Us r58 ++ (Us r61 ++ Us r64)) ++ (Us zl ++ [])).toArray:=by simpa [Us_pc] using b1
    refine l_midA g1 15 _ (Us zl) [] (Us r72) rfl rfl rfl rfl rfl c1 (by simp [Us_len,v58.len,v61.len,v64.len]) (by rw [Us_len,Us_len,v72.len]; rfl) (size_e v72.len) (Us_one _) fun W' hO c2=>?_
    have e2 : ((Us r58 ++ (Us r61 ++ Us r64)) ++ (Us r72 ++ [])).toArray = (Us (pc r58 r61 r64 r72)).toArray:=by simp [Us_pc]
    rw [e2] at c2;replace b2:=hO.blk _ _ _ (Ne.symm n1_2) b2;replace hT:=hT.only hO (by omega);replace hU:=hO.up _ q1 hU;clear b1;have b1:=c2;refine l_nil ?_;refine hK3 _ _ ?_;clear hK3 K3;refine c_qF ?_;refine f_addI (i : Int) 1 ((i + 1 : Nat) : Int) rfl rfl rfl rfl rfl rfl (addI i 1 (by omega)) ?_;refine f_move (.int .i64 ((i + 1 : Nat) : Int)) rfl rfl rfl rfl rfl ?_;refine f_end fun w20 hw20=>?_;replace b1:=b1.later hw20;replace b2:=b2.later hw20;replace hT:=hT.below hw20;replace hU:=hU.step hw20;exact k_round (m:=fun s : Nat × List Nat=>n - s.1) (F:=DF n g1 g2) (R:=DR w n g1 g2 A) (s:=(i,_)) (i + 1,pc r58 r61 r64 r72) ⟨rfl,rfl,rfl,rfl,rfl,trivial⟩ ⟨hin,⟨_,_,_,_,_,_,_,_,rfl,v58,v61,v64,v72,hE.1,fun _=>hE.2⟩,hU,hT,b1,b2⟩ (by show n - (i + 1) < n - i; omega)
   ·refine f_eqlI (i : Int) ((n - 1 : Nat) : Int) false rfl rfl rfl rfl rfl rfl (decide_eq_false (by omega)) ?_
    refine f_end fun w18 hw18=>hK _ _ ?_;clear hK K;replace b1:=b1.later hw18;replace b2:=b2.later hw18;replace hT:=hT.below hw18;replace hU:=hU.step hw18;refine c_cond false rfl ?_;refine c_skip ?_;refine hK3 _ _ ?_;clear hK3 K3;refine c_qF ?_;refine f_addI (i : Int) 1 ((i + 1 : Nat) : Int) rfl rfl rfl rfl rfl rfl (addI i 1 (by omega)) ?_;refine f_move (.int .i64 ((i + 1 : Nat) : Int)) rfl rfl rfl rfl rfl ?_;refine f_end fun w20 hw20=>?_;replace b1:=b1.later hw20;replace b2:=b2.later hw20;replace hT:=hT.below hw20;replace hU:=hU.step hw20;exact k_round (m:=fun s : Nat × List Nat=>n - s.1) (F:=DF n g1 g2) (R:=DR w n g1 g2 A) (s:=(i,_)) (i + 1,pc r58 r61 r64 zl) ⟨rfl,rfl,rfl,rfl,rfl,trivial⟩ ⟨hin,⟨_,_,_,_,_,_,_,_,rfl,v58,v61,v64,eb_zero,hE.1,fun h=>by omega⟩,hU,hT,b1,b2⟩ (by show n - (i + 1) < n - i; omega)
  ·refine f_lssI (i : Int) (n : Int) false rfl rfl rfl rfl rfl rfl (decide_eq_false (by omega)) ?_
   refine f_end fun w11 hw11=>hK _ _ ?_;clear hK K;replace b1:=b1.later hw11;replace b2:=b2.later hw11;replace hT:=hT.below hw11;replace hU:=hU.step hw11;refine c_seq fun K hK=>?_;refine c_cond false rfl ?_;refine c_exit ?_
   show kF K1 76 _ _
   refine hK1 _ _ ?_;clear hK1 K1 hK K
   obtain rfl : i = n:=by omega
   have hml:=hD.len;refine c_seq fun K hK=>?_;refine c_tF 1 ?_;refine f_pt g1 0 hml rfl rfl rfl rfl rfl (fun _ h1=>(h1.blk b1).range) ?_;refine f_set g2 _ ((Us m).toArray) rfl rfl rfl rfl rfl b2 (size_P hml) ((us_size pz_len).trans (us_size hml).symm) (Us_oneA _) fun w31 hw31 c31=>?_;replace b2:=c31;replace hT:=(hT.below hw31).row (g:=g2) (by have:=hw0; omega) ((Us m).toArray);replace hU:=up_row (hU.step hw31) q2 ((Us m).toArray);clear hw31 c31;generalize w31.setRow g2 ((Us m).toArray) = W31 at *;refine l_nil ?_;refine hK _ _ ?_;clear hK K;refine c_ret (k_ret_row g2 _ rfl rfl b2 Tryd.underlying79 rfl (size_P hml) ⟨_,.inr (hD.fin hon),rfl,hU⟩)
end Go.Proofs.YtminmeljonbogaaDoor
/-
  THE DOCUMENT'S OWN NUMBERS: the steps of a walk at them; Add, Sub, Of as numbers modulo p.
-/
namespace Go.Proofs.YtminmeljonbogaaDoor
open Go.RowKit Go.IntWalk Nums

theorem own_pack : Own 70:=fun _ _=>by go_simp
theorem own_add : Own 94:=fun _ _=>by go_simp
theorem own_sub : Own 60:=fun _ _=>by go_simp
theorem own_mul : Own 59:=fun _ _=>by go_simp
theorem own_of : Own 61:=fun _ _=>by go_simp
theorem own_inv : Own 62:=fun _ _=>by go_simp
theorem own_power : Own 99:=fun _ _=>by go_simp

section
variable {ops : Array Oper} {C0 : World → Prop} {Q : Act → Prop} {a : Act} {o : Oper} {rest : List Oper}
theorem b_num {f : FuncId} {xs : Array Operand} {ats : Array TypeId} {args : Array Value} {B : Int} {x : F} (hg : Region.wanted o (yielded ops a.tmps) = true)
  (hf : Own f) (hc : ∀ w,Calls Tryd.prog f args w (fun e w'=>∃ r,NB B r x ∧ e = .returned (.agg (Is r).toArray) ∧ Below w.heap.size w w'))
  (ho : o.op = .call { callee:=.value (.func f),args:=xs,argTypes:=ats }) (hx : xs.toList.map a.eval = args.toList) (hk : ∀ r,NB B r x → wpB Tryd.prog ops C0 Q rest (a.put o.dst (.agg (Is r).toArray))) : wpB Tryd.prog ops C0 Q (o :: rest) a:=by
 refine b_call (f:=f) (args:=args) (fun v=>∃ r,NB B r x ∧ v = .agg (Is r).toArray) hg (by rw [ho]; rfl) (fun w _=>(hc w).mono ?_) (fun w=>by rw [run_call_fn hf ho,map_eval hx]) ?_
 ·rintro e w2 ⟨r,hr,rfl,hw2⟩
  exact ⟨_,rfl,⟨r,hr,rfl⟩,hw2⟩
 ·rintro _ ⟨r,hr,rfl⟩
  exact hk r hr
theorem b_ld {l : List Int} (g off : Nat) (hl : l.length = 16) (x : Operand) (hg : Region.wanted o (yielded ops a.tmps) = true) (ho : o.op = .load 27 x) (hx : a.eval x = .pointer (some ⟨g,off,none⟩))
  (hc : ∀ w,C0 w → w.rangeAt g off (Is l)) (hk : wpB Tryd.prog ops C0 Q rest (a.put o.dst (.agg (Is l).toArray))) : wpB Tryd.prog ops C0 Q (o :: rest) a :=
 b_mid hg 27 x ho g off hx (Is l) _ hc Tryd.underlying27 rfl (size_num (Is l).toArray (by rw [List.size_toArray,Is_len,hl])) hk
theorem eqd (x y : F) (w : World) : (Op.equalIn 10000 22 (.agg (By (enc x)).toArray) (.agg (By (enc y)).toArray)).run Tryd.prog w = .ok (decide (x = y)) w:=by
 rw [equal32 _ _ (enc_len _) (enc_len _)]
 congr 1
 exact decide_eq_decide.2 ⟨enc_inj,congrArg enc⟩
end

/-! ### Sums and small numbers as numbers modulo p -/
theorem add_f {B C : Int} {a b : List Int} {x y : F} (ha : NB B a x) (hb : NB C b y) (hB : B ≤ 2305843009213693952) (hC : C ≤ 2305843009213693952) (w : World) :
  Calls Tryd.prog 94 #[.agg (Is a).toArray,.agg (Is b).toArray] w fun e w'=>∃ r,NB (B + C) r (x + y) ∧ e = .returned (.agg (Is r).toArray) ∧ Below w.heap.size w w' :=
 (add_any a b w ha.len hb.len (ha.bnd.mono hB) (hb.bnd.mono hC)).mono fun _ _ ⟨h1,h2⟩=>⟨_,ha.adds hb,h1,h2⟩
theorem sub_f {B C : Int} {a b : List Int} {x y : F} (ha : NB B a x) (hb : NB C b y) (hB : B ≤ 2305843009213693952) (hC : C ≤ 2305843009213693952) (w : World) :
  Calls Tryd.prog 60 #[.agg (Is a).toArray,.agg (Is b).toArray] w fun e w'=>∃ r,NB (B + C) r (x - y) ∧ e = .returned (.agg (Is r).toArray) ∧ Below w.heap.size w w' :=
 (sub_any a b w ha.len hb.len (ha.bnd.mono hB) (hb.bnd.mono hC)).mono fun _ _ ⟨h1,h2⟩=>⟨_,ha.subs hb,h1,h2⟩
theorem of_f (v : Nat) (hv : v < 18446744073709551616) (w : World) :
  Calls Tryd.prog 61 #[.int .u64 v] w fun e w'=>∃ r,NB 65535 r (fof v) ∧ e = .returned (.agg (Is r).toArray) ∧ Below w.heap.size w w' :=
 (of_any v w hv).mono fun _ _ ⟨h1,h2⟩=>⟨_,NB.of hv,h1,h2⟩

end Go.Proofs.YtminmeljonbogaaDoor
/-
  THE DOCUMENT'S OWN POINTS: what their cells are; the steps of a walk at numbers and points; Dee, New, Zero, on.
-/
namespace Go.Proofs.YtminmeljonbogaaDoor
open Go.RowKit Go.IntWalk Nums

def pt (X Y Z T : List Int) : List Value:=Is X ++ (Is Y ++ (Is Z ++ Is T))
def n16 : List Int:=List.replicate 16 0
theorem n16_len : n16.length = 16:=rfl

theorem size_pt (cs : Array Value) (h : cs.size = 64) : (Tryd.prog.info? 69).map (·.size) = some cs.size:=by
 rw [h]
 kernel_rfl
theorem size_curve (cs : Array Value) (h : cs.size = 16) : (Tryd.prog.info? 29).map (·.size) = some cs.size:=by
 rw [h]
 kernel_rfl
theorem pt_len {X Y Z T : List Int} (hx : X.length = 16) (hy : Y.length = 16) (hz : Z.length = 16) (ht : T.length = 16) : (pt X Y Z T).toArray.size = 64:=by
 simp [pt,Is_len,hx,hy,hz,ht]
theorem pt_one (X Y Z T : List Int) : ∀ v ∈ (pt X Y Z T).toArray.toList,v.oneCell' = true:=by
 intro v hv
 simp only [pt,List.mem_append] at hv
 rcases hv with hv | hv | hv | hv <;> exact Is_one _ _ hv

theorem Blk.mid {w : World} {g t off : Nat} {A V Z : List Value} (h : Blk w g t (A ++ (V ++ Z)).toArray) (ho : off = A.length) : w.rangeAt g off V:=fun j v hv=>by
 rw [h.cell (off + j),ho];have hj:=(List.getElem?_eq_some_iff.1 hv).1;simp only [List.getElem?_toArray];rw [List.getElem?_append_right (by omega),Nat.add_sub_cancel_left,List.getElem?_append_left hj];exact hv

section
variable {w : World} {g t : Nat} {X Y Z T : List Int}
theorem Blk.ptX (h : Blk w g t (pt X Y Z T).toArray) : w.rangeAt g 0 (Is X):=Blk.mid (A:=[]) h rfl
theorem Blk.ptY (h : Blk w g t (pt X Y Z T).toArray) (hx : X.length = 16) : w.rangeAt g 16 (Is Y):=Blk.mid (A:=Is X) h (by rw [Is_len,hx])
theorem Blk.ptZ (h : Blk w g t (pt X Y Z T).toArray) (hx : X.length = 16) (hy : Y.length = 16) : w.rangeAt g 32 (Is Z):=by
 unfold pt at h
 rw [← List.append_assoc] at h;exact Blk.mid h (by simp [Is_len,hx,hy])
end

/-! ### The steps -/
theorem own_dee : Own 26:=fun _ _=>by go_simp
theorem own_same : Own 107:=fun _ _=>by go_simp

section
variable {ops : Array Oper} {C0 : World → Prop} {Q : Act → Prop} {a : Act} {o : Oper} {rest : List Oper}
theorem b_ldc {D : List Int} (g : Nat) (hD : D.length = 16) (x : Operand) (hg : Region.wanted o (yielded ops a.tmps) = true) (ho : o.op = .load 29 x) (hxx : a.eval x = .pointer (some ⟨g,0,none⟩))
  (hc : ∀ w,C0 w → w.rangeAt g 0 (Is D)) (hk : wpB Tryd.prog ops C0 Q rest (a.put o.dst (.agg (Is D).toArray))) : wpB Tryd.prog ops C0 Q (o :: rest) a :=
 b_mid hg 29 x ho g 0 hxx (Is D) _ hc Tryd.underlying29 rfl (size_curve (Is D).toArray (by rw [List.size_toArray,Is_len,hD])) hk
end

theorem fld0 (b : Nat) (w : World) : (Instr.fieldAt 69 (.pointer (some ⟨b,0,none⟩)) 0).run Tryd.prog w = .ok (.pointer (some ⟨b,0,none⟩)) w:=by go_simp
theorem fld1 (b : Nat) (w : World) : (Instr.fieldAt 69 (.pointer (some ⟨b,0,none⟩)) 1).run Tryd.prog w = .ok (.pointer (some ⟨b,16,none⟩)) w:=by go_simp
theorem fld2 (b : Nat) (w : World) : (Instr.fieldAt 69 (.pointer (some ⟨b,0,none⟩)) 2).run Tryd.prog w = .ok (.pointer (some ⟨b,32,none⟩)) w:=by go_simp
theorem fldc (b : Nat) (w : World) : (Instr.fieldAt 29 (.pointer (some ⟨b,0,none⟩)) 0).run Tryd.prog w = .ok (.pointer (some ⟨b,0,none⟩)) w:=by go_simp

/-! ### Points and curves, built -/
theorem built_pt (parts : List (Nat × Value)) : Tryd.prog.built 69 parts = Instr.fill (#[(0,16),(16,16),(32,16),(48,16)][·]?) (pt n16 n16 n16 n16).toArray parts :=
 built_of (t:=69) (z:=(pt n16 n16 n16 n16).toArray) (pl:=[(0,16),(16,16),(32,16),(48,16)]) (by kernel_rfl)
theorem built_curve (parts : List (Nat × Value)) : Tryd.prog.built 29 parts = Instr.fill (#[(0,16)][·]?) (Is n16).toArray parts :=
 built_of (t:=29) (z:=(Is n16).toArray) (pl:=[(0,16)]) (by kernel_rfl)

section
variable {X Y Z T : List Int}
theorem put_X (X' : List Int) (hX : X.length = 16) (hX' : X'.length = 16) (rest : List (Nat × Value)) :
  Instr.fill (#[(0,16),(16,16),(32,16),(48,16)][·]?) (pt X Y Z T).toArray ((0,.agg (Is X').toArray) :: rest) = Instr.fill (#[(0,16),(16,16),(32,16),(48,16)][·]?) (pt X' Y Z T).toArray rest :=
 fill_put _ 0 16 [] (Is X) (Is Y ++ (Is Z ++ Is T)) (Is X') rest rfl (by rw [Is_len,hX']) (by rw [Is_len,hX])
theorem put_Y (Y' : List Int) (hX : X.length = 16) (hY : Y.length = 16) (hY' : Y'.length = 16) (rest : List (Nat × Value)) :
  Instr.fill (#[(0,16),(16,16),(32,16),(48,16)][·]?) (pt X Y Z T).toArray ((1,.agg (Is Y').toArray) :: rest) = Instr.fill (#[(0,16),(16,16),(32,16),(48,16)][·]?) (pt X Y' Z T).toArray rest :=
 fill_put _ 1 16 (Is X) (Is Y) (Is Z ++ Is T) (Is Y') rest (by rw [Is_len,hX]; rfl) (by rw [Is_len,hY']) (by rw [Is_len,hY])
theorem put_Z (Z' : List Int) (hX : X.length = 16) (hY : Y.length = 16) (hZ : Z.length = 16) (hZ' : Z'.length = 16) (rest : List (Nat × Value)) :
  Instr.fill (#[(0,16),(16,16),(32,16),(48,16)][·]?) (pt X Y Z T).toArray ((2,.agg (Is Z').toArray) :: rest) = Instr.fill (#[(0,16),(16,16),(32,16),(48,16)][·]?) (pt X Y Z' T).toArray rest:=by
 have h:=fill_put (#[(0,16),(16,16),(32,16),(48,16)][·]?) 2 16 (Is X ++ Is Y) (Is Z) (Is T) (Is Z') rest (by simp [Is_len,hX,hY]) (by rw [Is_len,hZ']) (by rw [Is_len,hZ]);rw [List.append_assoc,List.append_assoc] at h;exact h
theorem put_T (T' : List Int) (hX : X.length = 16) (hY : Y.length = 16) (hZ : Z.length = 16) (hT : T.length = 16) (hT' : T'.length = 16) (rest : List (Nat × Value)) :
  Instr.fill (#[(0,16),(16,16),(32,16),(48,16)][·]?) (pt X Y Z T).toArray ((3,.agg (Is T').toArray) :: rest) = Instr.fill (#[(0,16),(16,16),(32,16),(48,16)][·]?) (pt X Y Z T').toArray rest:=by
 have h:=fill_put (#[(0,16),(16,16),(32,16),(48,16)][·]?) 3 16 (Is X ++ (Is Y ++ Is Z)) (Is T) [] (Is T') rest (by simp [Is_len,hX,hY,hZ]) (by rw [Is_len,hT']) (by rw [Is_len,hT]);rw [List.append_assoc,List.append_assoc,List.append_nil,List.append_nil,List.append_assoc,List.append_assoc] at h;exact h
end
theorem put_D (D : List Int) (hD : D.length = 16) : Tryd.prog.built 29 [(0,.agg (Is D).toArray)] = some (Is D).toArray:=by
 rw [built_curve];have h:=fill_put (#[(0,16)][·]?) 0 16 [] (Is n16) [] (Is D) [] rfl (by rw [Is_len,hD]) (by rw [Is_len,n16_len]);rw [List.append_nil,List.append_nil] at h;exact h
theorem built3 {X Y Z : List Int} (hX : X.length = 16) (hY : Y.length = 16) (hZ : Z.length = 16) : Tryd.prog.built 69 [(0,.agg (Is X).toArray),(1,.agg (Is Y).toArray),(2,.agg (Is Z).toArray)] = some (pt X Y Z n16).toArray:=by
 rw [built_pt,put_X X rfl hX,put_Y Y hX rfl hY,put_Z Z hX hY rfl hZ]
 rfl
theorem built12 {Y Z : List Int} (hY : Y.length = 16) (hZ : Z.length = 16) : Tryd.prog.built 69 [(1,.agg (Is Y).toArray),(2,.agg (Is Z).toArray)] = some (pt n16 Y Z n16).toArray:=by
 rw [built_pt,put_Y Y rfl rfl hY,put_Z Z rfl hY rfl hZ]
 rfl
theorem built4 {X Y Z T : List Int} (hX : X.length = 16) (hY : Y.length = 16) (hZ : Z.length = 16) (hT : T.length = 16) :
  Tryd.prog.built 69 [(0,.agg (Is X).toArray),(1,.agg (Is Y).toArray),(2,.agg (Is Z).toArray),(3,.agg (Is T).toArray)] = some (pt X Y Z T).toArray:=by
 rw [built_pt,put_X X rfl hX,put_Y Y hX rfl hY,put_Z Z hX hY rfl hZ,put_T T hX hY hZ rfl hT]
 rfl

theorem nb_n16 : NB 65573 n16 0:=by
 refine ⟨rfl,?_,?_⟩
 ·intro x hx
  obtain rfl:=List.eq_of_mem_replicate hx
  omega
 ·have h : V n16 = 0:=by decide
  rw [h]
  rfl
theorem rep_zero : Ed.Rep (0 : F) (fof 1) (fof 1) Ed.zero:=by
 rw [fof_one];exact Ed.Rep.zero prime_p
structure PR (X Y Z T : List Int) (A : Ed.Pt p) : Prop where
  ex : ∃ x y z,NB 65573 X x ∧ NB 65573 Y y ∧ NB 65573 Z z ∧ Ed.Rep x y z A
  on : Ed.On dd A
  t : T.length = 16
end Go.Proofs.YtminmeljonbogaaDoor
