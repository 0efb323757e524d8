/-
  SEVERAL TEXTS IN ONE: ElSub, ElWhole, ElMul0, ElSteps, ElMul, ElRoot, ElIs.
-/
import Derived.Test.YtlcbhbahchiofaaGreatDoorMe
import Derived.Test.YtlcbhbahchiofaaGreatDoorMa
/-
  THE FIELD'S NUMBERS: Sub, which reads the table of 2p; Small.
-/
namespace Go.Proofs.YtlcbhbahchiofaaGreatDoor
open Go.RowKit Go.IntWalk Nums

def twl : List Nat:=[4503599627370458,4503599627370494,4503599627370494,4503599627370494,4503599627370494]
theorem twl_get {k : Nat} (h : k < 5) : 4503599627370458 ≤ twl[k]! ∧ twl[k]! ≤ 4503599627370494:=by
 have h5 : k = 0 ∨ k = 1 ∨ k = 2 ∨ k = 3 ∨ k = 4:=by omega
 rcases h5 with rfl | rfl | rfl | rfl | rfl <;> decide

structure Tw (w : World) : Prop where
  cell : ∀ i,i < 5 → w.cell? ⟨2,i,none⟩ = some (.int .u64 (twl[i]! : Nat))
  lt : 2 < w.heap.size
theorem Tw.below {w w' : World}  (h : Tw w) (hb : Below w.heap.size w w') : Tw w' :=
 ⟨fun i hi=>(hb.cell (p:=⟨2,i,none⟩) h.lt).trans (h.cell i hi),Nat.lt_of_lt_of_le h.lt hb.size⟩
theorem Tw.drew {w : World} (h : Tw w) : Tw w.drew:=⟨h.cell,h.lt⟩
theorem Tw.at {w : World} (h : Tw w) {k : Nat} (hk : k < 5) : w.cell? ⟨2,k,none⟩ = some (.int .u64 (twl[k]! : Nat)):=h.cell k hk

set_option maxRecDepth 100000 in
set_option maxHeartbeats 1000000 in
theorem elsub_f {a b : List Nat} {x y : F} (ha : EB a x) (hb : EB b y) (w : World) (hT : Tw w) :
  Calls Tryz.prog 106 #[.agg (Us a).toArray,.agg (Us b).toArray] w fun e w'=>∃ r,EB r (x - y) ∧ e = .returned (.agg (Us r).toArray) ∧ Below w.heap.size w w':=by
 go_enter Tryz.func106,Tryz.ntmps106
 go_wp2
 go_loopw [6] (fun i wr=>∃ k : Nat,k ≤ 5 ∧ i = .int .i64 k ∧ Blk wr w.heap.size 110 (Us (mx (fun j=>a[j]! + (twl[j]! - b[j]!)) a k)).toArray ∧ Blk wr (w.heap.size + 1) 110 (Us b).toArray ∧ Blk wr (w.heap.size + 1 + 1) 110 z5 ∧ Below w.heap.size w wr) (fun i _=>5 - (intOf i).toNat)
 case atStart =>
  refine ⟨0,by omega,rfl,?_,blk3_1 w _ _ _ _,blk3_2 w _ _ _ _,(((Below.refl _ _).alloc (Nat.le_refl _) _).alloc (by simp) _).alloc (by simp; omega) _⟩;rw [mx_zero _ ha.len];exact blk3_0 w _ _ _ _
 case round =>
  obtain ⟨k,hk,rfl,h0,h1,h2,hbel⟩:=hrel
  by_cases hlt : k < 5
  ·have hN:=mx_set (fun j=>a[j]! + (twl[j]! - b[j]!)) a (k:=k)
   have hg:=mx_get (fun j=>a[j]! + (twl[j]! - b[j]!)) a hlt;have c0:=(h0.drew.cell k).trans (Us_at (by rw [mx_len]; exact hlt));rw [hg] at c0;have c1:=(h1.drew.cell k).trans (Us_at (by rw [hb.len]; exact hlt));have b0:=eb_get ha hlt;have b1:=eb_get hb hlt;have hf:=h0.drew.free k;have c2:=(hT.below hbel).drew.at hlt;have b2:=twl_get hlt;generalize a[k]! = u at *;generalize b[k]! = v at *;generalize twl[k]! = t at *
   have q0 : IntKind.u64.wrap ((t : Int) - (v : Int)) = ((t - v : Nat) : Int):=by rw [IntKind.wrap_u64]; omega
   have q1 : IntKind.u64.wrap ((u : Int) + ((t - v : Nat) : Int)) = ((u + (t - v) : Nat) : Int):=by rw [IntKind.wrap_u64]; omega
   have hle : v ≤ t:=by omega
   have q2 : (0 : Int) ≤ (k : Int):=by omega
   have HK:=Lib.hid (And.intro h0 (And.intro h1 (And.intro h2 (And.intro hbel hN))));clear h0 h1 h2 hbel hN hg
   go_wp2
   go_still_tail 15,(by kernel_rfl)
   go_wp2
   go_roundw
   case rel =>
    obtain ⟨h0,h1,h2,hbel,hN⟩:=HK.out;have h4:=h0.set k (.int .u64 ((u + (t - v) : Nat) : Int));rw [Us_set,hN] at h4;exact ⟨k + 1,by omega,by go_num,h4,h1.far (by simp) _,h2.far (by simp; omega) _,(hbel.setCell (by simp) _).drew⟩
   case measure=>simp [intOf]; omega
  ·obtain rfl : k = 5:=by omega
   obtain ⟨a0,a1,a2,a3,a4,rfl,p0,p1,p2,p3,p4,pv⟩:=ha.five;obtain ⟨b0,b1,b2,b3,b4,rfl,r0,r1,r2,r3,r4,rv⟩:=hb.five;have e5 : mx (fun j=>[a0,a1,a2,a3,a4][j]! + (twl[j]! - [b0,b1,b2,b3,b4][j]!)) [a0,a1,a2,a3,a4] 5 = [a0 + (4503599627370458 - b0),a1 + (4503599627370494 - b1),a2 + (4503599627370494 - b2),a3 + (4503599627370494 - b3),a4 + (4503599627370494 - b4)]:=rfl;rw [e5] at h0;have HC:=fun w1=>Lib.hid (carried_f (a0 + (4503599627370458 - b0)) (a1 + (4503599627370494 - b1)) (a2 + (4503599627370494 - b2)) (a3 + (4503599627370494 - b3)) (a4 + (4503599627370494 - b4)) (by omega) (by omega) (by omega) (by omega) (by omega) w1);have hE:=crd_eb (a0:=a0 + (4503599627370458 - b0)) (a1:=a1 + (4503599627370494 - b1)) (a2:=a2 + (4503599627370494 - b2)) (a3:=a3 + (4503599627370494 - b3)) (a4:=a4 + (4503599627370494 - b4)) (by omega) (by omega) (by omega) (by omega) (by omega);rw [sub_lv r0 r1 r2 r3 r4,pv,rv] at hE;generalize crd (a0 + (4503599627370458 - b0)) (a1 + (4503599627370494 - b1)) (a2 + (4503599627370494 - b2)) (a3 + (4503599627370494 - b3)) (a4 + (4503599627370494 - b4)) = r at *;have hz : (Us [a0 + (4503599627370458 - b0),a1 + (4503599627370494 - b1),a2 + (4503599627370494 - b2),a3 + (4503599627370494 - b3),a4 + (4503599627370494 - b4)]).toArray.size = 5:=rfl;generalize (Us [a0 + (4503599627370458 - b0),a1 + (4503599627370494 - b1),a2 + (4503599627370494 - b2),a3 + (4503599627370494 - b3),a4 + (4503599627370494 - b4)]).toArray = cs at *;have HK:=Lib.hid (And.intro h2 hbel);clear h1 h2 hbel ha hb p0 p1 p2 p3 p4 pv r0 r1 r2 r3 r4 rv e5;have hzr:=len_us hE.len
   go_wp2_with (refine wpList_load_row rfl 110 _ rfl w.heap.size rfl 110 cs (0,0) _ h0 Tryz.underlying110 rfl (size_el _ hz) ?_)
   refine (HC _).out.mono ?_
   rintro e w1 ⟨rfl,hw1⟩
   obtain ⟨h2,hbel⟩:=HK.out;have hb2:=hbel.trans (hw1.mono hbel.size);have h4:=h2.below hw1 h2.lt
   go_wp2_with (refine wpList_store_row rfl 110 _ _ rfl (w.heap.size + 1 + 1) rfl (Us r).toArray rfl 110 _ h4 (size_el _ hzr) (by rw [hzr]; rfl) (Us_one _) ?_)
   refine bodyPost_ret (results_cell_row rfl _ _ (w.heap.size + 1 + 1) 110 (Us r).toArray (0,0) _ rfl (h4.row _) Tryz.underlying110 rfl (size_el _ hzr)) rfl ⟨r,hE,rfl,?_⟩;exact below_setRow hb2 (by omega) _

set_option maxRecDepth 100000 in
theorem small_f (v : Nat) (hv : v < 18446744073709551616) (w : World) :
  Calls Tryz.prog 93 #[.int .u64 v] w fun e w'=>∃ r,EB r (fof v) ∧ e = .returned (.agg (Us r).toArray) ∧ Below w.heap.size w w':=by
 go_enter Tryz.func93,Tryz.ntmps93
 go_wp2
 rw [maskW v hv]
 have hE : EB [v % 2251799813685248,v / 2251799813685248,0,0,0] (fof v):=EB.mk5 (by omega) (by omega) (by omega) (by omega) (by omega) (by
  congr 1
  rw [lv5]
  omega)
 refine bodyPost_ret (results_cell_row rfl _ _ w.heap.size 110 _ (0,0) _ rfl (heap_alloc_new w _) Tryz.underlying110 rfl (size_el _ rfl)) rfl ⟨_,hE,rfl,?_⟩;exact (Below.refl _ _).alloc (Nat.le_refl _) _
end Go.Proofs.YtlcbhbahchiofaaGreatDoor
/-
  THE FIELD'S NUMBERS: whole: the number below p.
-/
namespace Go.Proofs.YtlcbhbahchiofaaGreatDoor
open Go.RowKit Go.IntWalk Nums

theorem whs_eq (l : List Nat) (u k : Nat) : whs l u k = mx (fun j=>(up2 l u j + l[j]!) % 2251799813685248) l k:=rfl
theorem up1_le {l : List Nat} {x : F} (h : EB l x) : ∀ k,k ≤ 5 → up1 l 19 k ≤ 19
 | 0,_=>Nat.le_refl _
 | k + 1,hk=>by
  have h1:=up1_le h k (by omega);have h2:=eb_get h (k:=k) (by omega)
  show (l[k]! + up1 l 19 k) / 2251799813685248 ≤ 19
  omega
theorem up2_le {l : List Nat} {x : F} (h : EB l x) {u : Nat} (hu : u ≤ 361) : ∀ k,k ≤ 5 → up2 l u k ≤ 361
 | 0,_=>hu
 | k + 1,hk=>by
  have h1:=up2_le h hu k (by omega);have h2:=eb_get h (k:=k) (by omega)
  show (up2 l u k + l[k]!) / 2251799813685248 ≤ 361
  omega

set_option maxRecDepth 100000 in
set_option maxHeartbeats 1000000 in
theorem whole_f {a : List Nat} {x : F} (ha : EB a x) (w : World) :
  Calls Tryz.prog 104 #[.agg (Us a).toArray] w fun e w'=>e = .returned (.agg (Us (whole a)).toArray) ∧ Below w.heap.size w w':=by
 have hW : whole a = whs a (up1 a 19 5 * 19) 5:=rfl;rw [hW];clear hW;generalize hq1 : up1 a 19 5 = q;generalize hu0 : q * 19 = u0
 go_enter Tryz.func104,Tryz.ntmps104
 go_wp2
 go_loopw [6,3] (fun i u wr=>∃ k : Nat,k ≤ 5 ∧ i = .int .i64 k ∧ u = .int .u64 (up1 a 19 k : Nat) ∧ Blk wr w.heap.size 110 (Us a).toArray ∧ Blk wr (w.heap.size + 1) 110 z5 ∧ Below w.heap.size w wr) (fun i _ _=>5 - (intOf i).toNat)
 case atStart =>
  exact ⟨0,by omega,rfl,rfl,heap_alloc2_old w _ _,heap_alloc2_new w _ _,((Below.refl _ _).alloc (Nat.le_refl _) _).alloc (by simp) _⟩
 case round =>
  obtain ⟨k,hk,rfl,rfl,h0,h1,hbel⟩:=hrel
  by_cases hlt : k < 5
  ·have hN : up1 a 19 (k + 1) = (a[k]! + up1 a 19 k) / 2251799813685248:=rfl
   have c0:=(h0.cell k).trans (Us_at (by rw [ha.len]; exact hlt));have b0:=eb_get ha hlt;have b1:=up1_le ha k (by omega);generalize a[k]! = u at *;generalize up1 a 19 k = v at *
   have q1 : IntKind.u64.wrap ((u : Int) + (v : Int)) = ((u + v : Nat) : Int):=by rw [IntKind.wrap_u64]; omega
   have q2 : (0 : Int) ≤ (k : Int):=by omega
   have HK:=Lib.hid (And.intro h0 (And.intro h1 (And.intro hbel hN)));clear h0 h1 hbel hN
   go_wp2
   go_roundw
   case rel =>
    obtain ⟨h0,h1,hbel,hN⟩:=HK.out;exact ⟨k + 1,by omega,by go_num,by rw [hN]; congr 1,h0,h1,hbel⟩
   case measure=>simp [intOf]; omega
  ·obtain rfl : k = 5:=by omega
   have b1:=up1_le ha 5 (by omega);rw [hq1] at b1 ⊢
   have hq : u0 ≤ 361:=by omega
   have q1 : IntKind.u64.wrap ((q : Int) * 19) = (u0 : Int):=by rw [IntKind.wrap_u64]; omega
   clear hq1 hu0
   have hW0 : whs a u0 0 = a:=by rw [whs_eq,mx_zero _ ha.len]
   have HK:=Lib.hid (And.intro h0 (And.intro h1 hbel));clear h0 h1 hbel
   go_wp2
   go_loopw [19,3] (fun i u wq=>∃ k : Nat,k ≤ 5 ∧ i = .int .i64 k ∧ u = .int .u64 (up2 a u0 k : Nat) ∧ Blk wq w.heap.size 110 (Us (whs a u0 k)).toArray ∧ Blk wq (w.heap.size + 1) 110 z5 ∧ Below w.heap.size w wq) (fun i _ _=>5 - (intOf i).toNat)
   case atStart =>
    obtain ⟨h0,h1,hbel⟩:=HK.out;exact ⟨0,by omega,rfl,rfl,by rw [hW0]; exact h0,h1,hbel⟩
   case round =>
    obtain ⟨k,hk,rfl,rfl,h0,h1,hbel⟩:=hrel;clear HK
    by_cases hlt : k < 5
    ·have hN : up2 a u0 (k + 1) = (up2 a u0 k + a[k]!) / 2251799813685248:=rfl
     have hS : (whs a u0 k).set k ((up2 a u0 k + a[k]!) % 2251799813685248) = whs a u0 (k + 1):=mx_set (fun j=>(up2 a u0 j + a[j]!) % 2251799813685248) a;have hg : (whs a u0 k)[k]! = a[k]!:=mx_get _ a hlt;have c0:=(h0.cell k).trans (Us_at (by rw [whs_eq,mx_len]; exact hlt));rw [hg] at c0;have hf:=h0.free k;have b0:=eb_get ha hlt;have b1:=up2_le ha hq k (by omega);generalize a[k]! = u at *;generalize up2 a u0 k = v at *
     have q2 : IntKind.u64.wrap ((v : Int) + (u : Int)) = ((v + u : Nat) : Int):=by rw [IntKind.wrap_u64]; omega
     have q3:=maskW (v + u) (by omega)
     have q4 : (0 : Int) ≤ (k : Int):=by omega
     have HK:=Lib.hid (And.intro h0 (And.intro h1 (And.intro hbel (And.intro hN hS))));clear h0 h1 hbel hN hS hg;generalize hs : v + u = s at *
     go_wp2
     go_roundw
     case rel =>
      obtain ⟨h0,h1,hbel,hN,hS⟩:=HK.out;have h4:=h0.set k (.int .u64 ((s % 2251799813685248 : Nat) : Int));rw [Us_set,hS] at h4;exact ⟨k + 1,by omega,by go_num,by rw [hN]; congr 1,h4,h1.far (by simp) _,hbel.setCell (by simp) _⟩
     case measure=>simp [intOf]; omega
    ·obtain rfl : k = 5:=by omega
     have hz : (Us (whs a u0 5)).toArray.size = 5:=len_us (by rw [whs_eq,mx_len])
     go_wp2_with (first
      | (refine wpList_load_row rfl 110 _ rfl w.heap.size rfl 110 (Us (whs a u0 5)).toArray (0,0) _ h0 Tryz.underlying110 rfl (size_el _ hz) ?_)
      | (refine wpList_store_row rfl 110 _ _ rfl (w.heap.size + 1) rfl (Us (whs a u0 5)).toArray rfl 110 _ h1 (size_el _ hz) (by rw [hz]; rfl) (Us_one _) ?_))
     refine bodyPost_ret (results_cell_row rfl _ _ (w.heap.size + 1) 110 (Us (whs a u0 5)).toArray (0,0) _ rfl (h1.row _) Tryz.underlying110 rfl (size_el _ hz)) rfl ⟨rfl,?_⟩;exact below_setRow hbel (by omega) _
end Go.Proofs.YtlcbhbahchiofaaGreatDoor
/-
  THE FIELD'S NUMBERS: Mul's sums.
-/
namespace Go.Proofs.YtlcbhbahchiofaaGreatDoor
open Go.RowKit Go.IntWalk Nums

def W2 (s : Nat) : Array Value:=(Us [s / 18446744073709551616,s % 18446744073709551616]).toArray
theorem W2_size (s : Nat) : (W2 s).size = 2:=rfl
theorem W2_one (s : Nat) : ∀ u ∈ (W2 s).toList,u.oneCell' = true:=Us_one _

theorem plus_f (s a b : Nat) (ha : a < 18446744073709551616) (hb : b < 18446744073709551616) (hs : s + a * b < 340282366920938463463374607431768211456) (w : World) :
  Calls Tryz.prog 100 #[.agg (W2 s),.int .u64 a,.int .u64 b] w fun e w'=>e = .returned (.agg (W2 (s + a * b))) ∧ Below w.heap.size w w':=by
 refine (plus_any (s / 18446744073709551616) (s % 18446744073709551616) a b (by omega) (by omega) ha hb w).mono ?_
 rintro e w' ⟨rfl,hw⟩
 refine ⟨?_,hw⟩
 unfold W2
 generalize a * b = m at *
 have e1 : (s / 18446744073709551616 + m / 18446744073709551616 + (s % 18446744073709551616 + m % 18446744073709551616) / 18446744073709551616) % 18446744073709551616 = (s + m) / 18446744073709551616:=by omega
 have e2 : (s % 18446744073709551616 + m % 18446744073709551616) % 18446744073709551616 = (s + m) % 18446744073709551616:=by omega
 rw [e1,e2]
theorem low_f (s : Nat) (w : World) :
  Calls Tryz.prog 101 #[.agg (W2 s)] w fun e w'=>e = .returned (.int .u64 ((s % 2251799813685248 : Nat) : Int)) ∧ Below w.heap.size w w':=by
 refine (low_any (s / 18446744073709551616) (s % 18446744073709551616) (by omega) w).mono ?_
 rintro e w' ⟨rfl,hw⟩
 refine ⟨?_,hw⟩
 have e1 : s % 18446744073709551616 % 2251799813685248 = s % 2251799813685248:=by omega
 rw [e1]
theorem high_f (s : Nat) (hs : s < 41538374868278621028243970633760768) (w : World) :
  Calls Tryz.prog 102 #[.agg (W2 s)] w fun e w'=>e = .returned (.int .u64 ((s / 2251799813685248 : Nat) : Int)) ∧ Below w.heap.size w w':=by
 refine (high_any (s / 18446744073709551616) (s % 18446744073709551616) (by omega) (by omega) w).mono ?_
 rintro e w' ⟨rfl,hw⟩
 refine ⟨?_,hw⟩
 have e1 : s / 18446744073709551616 * 8192 + s % 18446744073709551616 / 2251799813685248 = s / 2251799813685248:=by omega
 rw [e1]

theorem lv_take : ∀ (l : List Nat) {k : Nat},k < l.length → lv (l.take (k + 1)) = lv (l.take k) + 2251799813685248 ^ k * l[k]!
 | d :: ds,0,_=>by simp [lv]
 | d :: ds,k + 1,h=>by
  have ih:=lv_take ds (k:=k) (by simpa using h)
  show d + 2251799813685248 * lv (ds.take (k + 1)) = d + 2251799813685248 * lv (ds.take k) + 2251799813685248 ^ (k + 1) * ds[k]!
  rw [ih,Nat.pow_succ]
  grind only

structure MM (a : List Nat) (y : F) (k c0 c1 c2 c3 c4 s0 s1 s2 s3 s4 : Nat) : Prop where
  cv : fof (lv [c0,c1,c2,c3,c4]) = fof (2251799813685248 ^ k) * y
  sv : fof (lv [s0,s1,s2,s3,s4]) = fof (lv (a.take k)) * y
  c0b : c0 < 42784196465000448
  c1b : c1 < 42784196465000448
  c2b : c2 < 42784196465000448
  c3b : c3 < 42784196465000448
  c4b : c4 < 42784196465000448
  c0u : k ≤ 0 → c0 < 2251799813947392
  c1u : k ≤ 1 → c1 < 2251799813947392
  c2u : k ≤ 2 → c2 < 2251799813947392
  c3u : k ≤ 3 → c3 < 2251799813947392
  c4u : k ≤ 4 → c4 < 2251799813947392
  s0b : s0 ≤ k * 96341445640026967064998646153216
  s1b : s1 ≤ k * 96341445640026967064998646153216
  s2b : s2 ≤ k * 96341445640026967064998646153216
  s3b : s3 ≤ k * 96341445640026967064998646153216
  s4b : s4 ≤ k * 96341445640026967064998646153216

theorem prod_le {v c : Nat} (hv : v < 2251799813947392) (hc : c < 42784196465000448) : v * c ≤ 96341445640026967064998646153216 :=
 Nat.le_trans (Nat.mul_le_mul (Nat.le_of_lt hv) (Nat.le_of_lt hc)) (by decide)

theorem MM.next {a : List Nat} {x y : F} {k c0 c1 c2 c3 c4 s0 s1 s2 s3 s4 : Nat} (h : MM a y k c0 c1 c2 c3 c4 s0 s1 s2 s3 s4) (ha : EB a x) (hk : k < 5) :
  MM a y (k + 1) (19 * c4) c0 c1 c2 c3 (s0 + a[k]! * c0) (s1 + a[k]! * c1) (s2 + a[k]! * c2) (s3 + a[k]! * c3) (s4 + a[k]! * c4):=by
 obtain ⟨cv,sv,g0,g1,g2,g3,g4,u0,u1,u2,u3,u4,t0,t1,t2,t3,t4⟩:=h;have hv:=eb_get ha hk;have p0:=prod_le hv g0;have p1:=prod_le hv g1;have p2:=prod_le hv g2;have p3:=prod_le hv g3;have p4:=prod_le hv g4
 have hm : (k + 1) * 96341445640026967064998646153216 = k * 96341445640026967064998646153216 + 96341445640026967064998646153216:=by omega
 have:=u4 (by omega);refine ⟨?_,?_,by omega,g0,g1,g2,g3,by omega,by omega,by omega,by omega,by omega,by omega,by omega,by omega,by omega,by omega⟩
 ·rw [turn_lv,cv,Nat.pow_succ,fof_mul]
  generalize fof (2251799813685248 ^ k) = u;generalize fof 2251799813685248 = v
  grind only
 ·rw [more_lv,fof_add,sv,fof_mul,cv,lv_take a (by rw [ha.len]; exact hk),fof_add,fof_mul]
  generalize fof (lv (a.take k)) = u;generalize fof (2251799813685248 ^ k) = v;generalize fof (a[k]!) = z
  grind only

theorem MM.start {a : List Nat} {b0 b1 b2 b3 b4 : Nat} {y : F} (h0 : b0 < 2251799813947392) (h1 : b1 < 2251799813947392) (h2 : b2 < 2251799813947392) (h3 : b3 < 2251799813947392) (h4 : b4 < 2251799813947392) (hb : fof (lv [b0,b1,b2,b3,b4]) = y) :
  MM a y 0 b0 b1 b2 b3 b4 0 0 0 0 0:=by
 refine ⟨?_,?_,by omega,by omega,by omega,by omega,by omega,fun _=>h0,fun _=>h1,fun _=>h2,fun _=>h3,fun _=>h4,by omega,by omega,by omega,by omega,by omega⟩
 ·rw [hb,Nat.pow_zero,fof_one]
  grind only
 ·have e1 : fof (lv [0,0,0,0,0]) = 0:=fof_zero
  have e2 : fof (lv (a.take 0)) = 0:=fof_zero;rw [e1,e2]
  grind only

theorem MM.fin {a : List Nat} {x y : F} {c0 c1 c2 c3 c4 s0 s1 s2 s3 s4 : Nat} (h : MM a y 5 c0 c1 c2 c3 c4 s0 s1 s2 s3 s4) (ha : EB a x) :
  fof (lv (crd s0 s1 s2 s3 s4)) = x * y ∧ s0 < 41538374868278621028243970633760768 ∧ s1 < 41538374868278621028243970633760768 ∧ s2 < 41538374868278621028243970633760768 ∧ s3 < 41538374868278621028243970633760768 ∧ s4 < 41538374868278621028243970633760768 ∧
   s0 / 2251799813685248 < 400000000000000000 ∧ s1 / 2251799813685248 < 400000000000000000 ∧ s2 / 2251799813685248 < 400000000000000000 ∧ s3 / 2251799813685248 < 400000000000000000 ∧ s4 / 2251799813685248 < 400000000000000000:=by
 have e : a.take 5 = a:=List.take_of_length_le (by rw [ha.len]; omega);obtain ⟨cv,sv,g0,g1,g2,g3,g4,u0,u1,u2,u3,u4,t0,t1,t2,t3,t4⟩:=h;rw [e,ha.val] at sv;exact ⟨by rw [crd_lv,sv],by omega,by omega,by omega,by omega,by omega,by omega,by omega,by omega,by omega,by omega⟩

structure MSt (w wr : World) (a : List Nat) (s0 s1 s2 s3 s4 : Nat) : Prop where
  ba : Blk wr w.heap.size 110 (Us a).toArray
  br : Blk wr (w.heap.size + 1 + 1) 110 z5
  k0 : Blk wr (w.heap.size + 1 + 1 + 1) 159 (W2 s0)
  k1 : Blk wr (w.heap.size + 1 + 1 + 1 + 1) 159 (W2 s1)
  k2 : Blk wr (w.heap.size + 1 + 1 + 1 + 1 + 1) 159 (W2 s2)
  k3 : Blk wr (w.heap.size + 1 + 1 + 1 + 1 + 1 + 1) 159 (W2 s3)
  k4 : Blk wr (w.heap.size + 1 + 1 + 1 + 1 + 1 + 1 + 1) 159 (W2 s4)
  be : Below w.heap.size w wr

section
variable {w wr w1 : World} {a : List Nat} {s0 s1 s2 s3 s4 : Nat}
theorem MSt.step (h : MSt w wr a s0 s1 s2 s3 s4) (hw : Below wr.heap.size wr w1) : MSt w w1 a s0 s1 s2 s3 s4 :=
 ⟨h.ba.below hw h.ba.lt,h.br.below hw h.br.lt,h.k0.below hw h.k0.lt,h.k1.below hw h.k1.lt,h.k2.below hw h.k2.lt,h.k3.below hw h.k3.lt,h.k4.below hw h.k4.lt,h.be.trans (hw.mono h.be.size)⟩
theorem MSt.set0 (h : MSt w wr a s0 s1 s2 s3 s4) (s : Nat) : MSt w (wr.setRow (w.heap.size + 1 + 1 + 1) (W2 s)) a s s1 s2 s3 s4 :=
 ⟨h.ba.rowFar (by omega) _,h.br.rowFar (by omega) _,h.k0.row _,h.k1.rowFar (by omega) _,h.k2.rowFar (by omega) _,h.k3.rowFar (by omega) _,h.k4.rowFar (by omega) _,below_setRow h.be (by omega) _⟩
theorem MSt.set1 (h : MSt w wr a s0 s1 s2 s3 s4) (s : Nat) : MSt w (wr.setRow (w.heap.size + 1 + 1 + 1 + 1) (W2 s)) a s0 s s2 s3 s4 :=
 ⟨h.ba.rowFar (by omega) _,h.br.rowFar (by omega) _,h.k0.rowFar (by omega) _,h.k1.row _,h.k2.rowFar (by omega) _,h.k3.rowFar (by omega) _,h.k4.rowFar (by omega) _,below_setRow h.be (by omega) _⟩
theorem MSt.set2 (h : MSt w wr a s0 s1 s2 s3 s4) (s : Nat) : MSt w (wr.setRow (w.heap.size + 1 + 1 + 1 + 1 + 1) (W2 s)) a s0 s1 s s3 s4 :=
 ⟨h.ba.rowFar (by omega) _,h.br.rowFar (by omega) _,h.k0.rowFar (by omega) _,h.k1.rowFar (by omega) _,h.k2.row _,h.k3.rowFar (by omega) _,h.k4.rowFar (by omega) _,below_setRow h.be (by omega) _⟩
theorem MSt.set3 (h : MSt w wr a s0 s1 s2 s3 s4) (s : Nat) : MSt w (wr.setRow (w.heap.size + 1 + 1 + 1 + 1 + 1 + 1) (W2 s)) a s0 s1 s2 s s4 :=
 ⟨h.ba.rowFar (by omega) _,h.br.rowFar (by omega) _,h.k0.rowFar (by omega) _,h.k1.rowFar (by omega) _,h.k2.rowFar (by omega) _,h.k3.row _,h.k4.rowFar (by omega) _,below_setRow h.be (by omega) _⟩
theorem MSt.set4 (h : MSt w wr a s0 s1 s2 s3 s4) (s : Nat) : MSt w (wr.setRow (w.heap.size + 1 + 1 + 1 + 1 + 1 + 1 + 1) (W2 s)) a s0 s1 s2 s3 s :=
 ⟨h.ba.rowFar (by omega) _,h.br.rowFar (by omega) _,h.k0.rowFar (by omega) _,h.k1.rowFar (by omega) _,h.k2.rowFar (by omega) _,h.k3.rowFar (by omega) _,h.k4.row _,below_setRow h.be (by omega) _⟩
end

theorem mst_start (w : World) (a : List Nat) (o : Obj) :
  MSt w ((((((((w.alloc (.cells (Us a).toArray 110)).alloc o).alloc (.cells z5 110)).alloc (.cells (W2 0) 159)).alloc (.cells (W2 0) 159)).alloc (.cells (W2 0) 159)).alloc (.cells (W2 0) 159)).alloc (.cells (W2 0) 159)).drew a 0 0 0 0 0 where
 ba:=(((((((Blk.new w _ _).alloc _).alloc _).alloc _).alloc _).alloc _).alloc _).alloc _
 br:=by
  have h:=(((((Blk.new ((w.alloc (.cells (Us a).toArray 110)).alloc o) 110 z5).alloc (.cells (W2 0) 159)).alloc (.cells (W2 0) 159)).alloc (.cells (W2 0) 159)).alloc (.cells (W2 0) 159)).alloc (.cells (W2 0) 159);rw [World.size_alloc,World.size_alloc] at h;exact h
 k0:=by
  have h:=((((Blk.new (((w.alloc (.cells (Us a).toArray 110)).alloc o).alloc (.cells z5 110)) 159 (W2 0)).alloc (.cells (W2 0) 159)).alloc (.cells (W2 0) 159)).alloc (.cells (W2 0) 159)).alloc (.cells (W2 0) 159);rw [World.size_alloc,World.size_alloc,World.size_alloc] at h;exact h
 k1:=by
  have h:=(((Blk.new ((((w.alloc (.cells (Us a).toArray 110)).alloc o).alloc (.cells z5 110)).alloc (.cells (W2 0) 159)) 159 (W2 0)).alloc (.cells (W2 0) 159)).alloc (.cells (W2 0) 159)).alloc (.cells (W2 0) 159);rw [World.size_alloc,World.size_alloc,World.size_alloc,World.size_alloc] at h;exact h
 k2:=by
  have h:=((Blk.new (((((w.alloc (.cells (Us a).toArray 110)).alloc o).alloc (.cells z5 110)).alloc (.cells (W2 0) 159)).alloc (.cells (W2 0) 159)) 159 (W2 0)).alloc (.cells (W2 0) 159)).alloc (.cells (W2 0) 159);rw [World.size_alloc,World.size_alloc,World.size_alloc,World.size_alloc,World.size_alloc] at h;exact h
 k3:=by
  have h:=(Blk.new ((((((w.alloc (.cells (Us a).toArray 110)).alloc o).alloc (.cells z5 110)).alloc (.cells (W2 0) 159)).alloc (.cells (W2 0) 159)).alloc (.cells (W2 0) 159)) 159 (W2 0)).alloc (.cells (W2 0) 159);rw [World.size_alloc,World.size_alloc,World.size_alloc,World.size_alloc,World.size_alloc,World.size_alloc] at h;exact h
 k4:=by
  have h:=Blk.new (((((((w.alloc (.cells (Us a).toArray 110)).alloc o).alloc (.cells z5 110)).alloc (.cells (W2 0) 159)).alloc (.cells (W2 0) 159)).alloc (.cells (W2 0) 159)).alloc (.cells (W2 0) 159)) 159 (W2 0);rw [World.size_alloc,World.size_alloc,World.size_alloc,World.size_alloc,World.size_alloc,World.size_alloc,World.size_alloc] at h;exact h
 be:=(((((((((Below.refl _ _).alloc (Nat.le_refl _) _).alloc (by simp) _).alloc (by simp; omega) _).alloc (by simp; omega) _).alloc (by simp; omega) _).alloc (by simp; omega) _).alloc (by simp; omega) _).alloc (by simp; omega) _).drew
end Go.Proofs.YtlcbhbahchiofaaGreatDoor
/-
  STEPS OF WALKS OVER WORDS AND THE FIELD'S NUMBERS, in regions that draw their order too.
-/
namespace Go.Proofs.YtlcbhbahchiofaaGreatDoor
open Go.RowKit Go.IntWalk Nums

theorem own_low : Own 101:=fun _ _=>by go_simp
theorem own_high : Own 102:=fun _ _=>by go_simp
theorem own_carried : Own 103:=fun _ _=>by go_simp
theorem own_whole : Own 104:=fun _ _=>by go_simp
theorem own_elmul : Own 78:=fun _ _=>by go_simp
theorem own_eladd : Own 108:=fun _ _=>by go_simp
theorem own_elsub : Own 106:=fun _ _=>by go_simp
theorem own_hash : Own 79:=fun _ _=>by go_simp
theorem own_small : Own 93:=fun _ _=>by go_simp

section
variable {ops : Array Oper} {C0 : World → Prop} {Q : Act → Prop} {a : Act} {o : Oper} {rest : List Oper}
theorem b_mulu {x y : Operand} {t : TypeId} (p q : Nat) (hg : Region.wanted o (yielded ops a.tmps) = true) (ho : o.op = .binOp .mul 51 x y t) (hx : a.eval x = .int .u64 (p : Int)) (hy : a.eval y = .int .u64 (q : Int)) (hb : p * q < 18446744073709551616)
  (hk : wpB Tryz.prog ops C0 Q rest (a.put o.dst (.int .u64 ((p * q : Nat) : Int)))) : wpB Tryz.prog ops C0 Q (o :: rest) a :=
 b_val hg (fun w _=>by
  have e : IntKind.u64.wrap ((p : Int) * (q : Int)) = ((p * q : Nat) : Int):=by rw [IntKind.wrap_u64,← Int.natCast_mul]; omega
  unfold execOp
  simp only [ho,hx,hy]
  go_simp) hk
theorem b_addu {x y : Operand} {t : TypeId} (p q : Nat) (hg : Region.wanted o (yielded ops a.tmps) = true) (ho : o.op = .binOp .add 51 x y t) (hx : a.eval x = .int .u64 (p : Int)) (hy : a.eval y = .int .u64 (q : Int)) (hb : p + q < 18446744073709551616)
  (hk : wpB Tryz.prog ops C0 Q rest (a.put o.dst (.int .u64 ((p + q : Nat) : Int)))) : wpB Tryz.prog ops C0 Q (o :: rest) a :=
 b_val hg (fun w _=>by
  have e : IntKind.u64.wrap ((p : Int) + (q : Int)) = ((p + q : Nat) : Int):=by rw [IntKind.wrap_u64]; omega
  unfold execOp
  simp only [ho,hx,hy]
  go_simp) hk
theorem b_el {l : List Nat} (g : Nat) (hl : l.length = 5) (x : Operand) (hg : Region.wanted o (yielded ops a.tmps) = true) (ho : o.op = .load 110 x) (hx : a.eval x = .pointer (some ⟨g,0,none⟩))
  (hc : ∀ w,C0 w → Blk w g 110 (Us l).toArray) (hk : wpB Tryz.prog ops C0 Q rest (a.put o.dst (.agg (Us l).toArray))) : wpB Tryz.prog ops C0 Q (o :: rest) a :=
 b_mid hg 110 x ho g 0 hx (Us l) _ (fun w h=>(hc w h).range) Tryz.underlying110 rfl (size_el (Us l).toArray (by rw [List.size_toArray,Us_len,hl])) hk
theorem b_sum {s : Nat} (g : Nat) (x : Operand) (hg : Region.wanted o (yielded ops a.tmps) = true) (ho : o.op = .load 159 x) (hx : a.eval x = .pointer (some ⟨g,0,none⟩))
  (hc : ∀ w,C0 w → Blk w g 159 (W2 s)) (hk : wpB Tryz.prog ops C0 Q rest (a.put o.dst (.agg (W2 s)))) : wpB Tryz.prog ops C0 Q (o :: rest) a :=
 b_mid hg 159 x ho g 0 hx (Us [s / 18446744073709551616,s % 18446744073709551616]) _ (fun w h=>Blk.range (hc w h)) Tryz.underlying159 rfl (size_sum _ rfl) hk
theorem b_fe {f : FuncId} {xs : Array Operand} {ats : Array TypeId} {args : Array Value} {x : F} (hg : Region.wanted o (yielded ops a.tmps) = true)
  (hf : Own f) (hc : ∀ w,C0 w → Calls Tryz.prog f args w (fun e w'=>∃ r,EB r x ∧ e = .returned (.agg (Us r).toArray) ∧ Below w.heap.size w w'))
  (ho : o.op = .call { callee:=.value (.func f),args:=xs,argTypes:=ats }) (hx : xs.toList.map a.eval = args.toList) (hk : ∀ r,EB r x → wpB Tryz.prog ops C0 Q rest (a.put o.dst (.agg (Us r).toArray))) : wpB Tryz.prog ops C0 Q (o :: rest) a:=by
 refine b_call (f:=f) (args:=args) (fun v=>∃ r,EB r x ∧ v = .agg (Us r).toArray) hg (by rw [ho]; rfl) (fun w hw=>(hc w hw).mono ?_) (fun w=>by rw [run_call_fn hf ho,map_eval hx]) ?_
 ·rintro e w2 ⟨r,hr,rfl,hw2⟩
  exact ⟨_,rfl,⟨r,hr,rfl⟩,hw2⟩
 ·rintro _ ⟨r,hr,rfl⟩
  exact hk r hr
end

/-! ### Five words put together -/
theorem built_u5 (v0 v1 v2 v3 v4 : Int) : Tryz.prog.built 108 [(0,.int .u64 v0),(1,.int .u64 v1),(2,.int .u64 v2),(3,.int .u64 v3),(4,.int .u64 v4)] = some #[.int .u64 v0,.int .u64 v1,.int .u64 v2,.int .u64 v3,.int .u64 v4]:=by kernel_rfl
theorem built_el (v0 v1 v2 v3 v4 : Int) : Tryz.prog.built 110 [(0,.agg #[.int .u64 v0,.int .u64 v1,.int .u64 v2,.int .u64 v3,.int .u64 v4])] = some #[.int .u64 v0,.int .u64 v1,.int .u64 v2,.int .u64 v3,.int .u64 v4]:=by kernel_rfl
theorem built_zero : Tryz.prog.built 110 [] = some z5:=by kernel_rfl
end Go.Proofs.YtlcbhbahchiofaaGreatDoor
/-
  THE FIELD'S NUMBERS: Mul.
-/
namespace Go.Proofs.YtlcbhbahchiofaaGreatDoor
open Go.RowKit Go.IntWalk Nums

set_option maxRecDepth 100000 in
set_option maxHeartbeats 2000000 in
theorem elmul_f {a b : List Nat} {x y : F} (ha : EB a x) (hb : EB b y) (w : World) :
  Calls Tryz.prog 78 #[.agg (Us a).toArray,.agg (Us b).toArray] w fun e w'=>∃ r,EB r (x * y) ∧ e = .returned (.agg (Us r).toArray) ∧ Below w.heap.size w w':=by
 obtain ⟨b0,b1,b2,b3,b4,rfl,r0,r1,r2,r3,r4,rv⟩:=hb.five;have e0 : (Us [b0,b1,b2,b3,b4]).toArray = #[.int .u64 (b0 : Int),.int .u64 (b1 : Int),.int .u64 (b2 : Int),.int .u64 (b3 : Int),.int .u64 (b4 : Int)]:=rfl;rw [e0]
 go_enter Tryz.func78,Tryz.ntmps78
 go_wp2
 go_region
 go_wp2
 go_loopw [32,5,6,7,8,9] (fun i v5 v6 v7 v8 v9 wr=>∃ k : Nat,k ≤ 5 ∧ i = .int .i64 k ∧ ∃ c0 c1 c2 c3 c4 s0 s1 s2 s3 s4 : Nat,v5 = .int .u64 c0 ∧ v6 = .int .u64 c1 ∧ v7 = .int .u64 c2 ∧ v8 = .int .u64 c3 ∧ v9 = .int .u64 c4 ∧ MM a y k c0 c1 c2 c3 c4 s0 s1 s2 s3 s4 ∧ MSt w wr a s0 s1 s2 s3 s4) (fun i _ _ _ _ _ _=>5 - (intOf i).toNat)
 case atStart =>
  exact ⟨0,by omega,rfl,b0,b1,b2,b3,b4,0,0,0,0,0,rfl,rfl,rfl,rfl,rfl,MM.start r0 r1 r2 r3 r4 rv,mst_start w a _⟩
 case round =>
  obtain ⟨k,hk,rfl,c0,c1,c2,c3,c4,s0,s1,s2,s3,s4,rfl,rfl,rfl,rfl,rfl,hM,hS⟩:=hrel
  by_cases hlt : k < 5
  ·have hN:=hM.next ha hlt
   have hd:=(hS.ba.cell k).trans (Us_at (by rw [ha.len]; exact hlt));have hv:=eb_get ha hlt
   obtain ⟨g0,g1,g2,g3,g4,u4,t0,t1,t2,t3,t4⟩ : c0 < 42784196465000448 ∧ c1 < 42784196465000448 ∧ c2 < 42784196465000448 ∧ c3 < 42784196465000448 ∧ c4 < 42784196465000448 ∧ c4 < 2251799813947392 ∧ s0 < 41538374868278621028243970633760768 ∧ s1 < 41538374868278621028243970633760768 ∧ s2 < 41538374868278621028243970633760768 ∧ s3 < 41538374868278621028243970633760768 ∧ s4 < 41538374868278621028243970633760768:=by
    obtain ⟨_,_,g0,g1,g2,g3,g4,u0,u1,u2,u3,u4,t0,t1,t2,t3,t4⟩:=hM;exact ⟨g0,g1,g2,g3,g4,u4 (by omega),by omega,by omega,by omega,by omega,by omega⟩
   have p0:=prod_le hv g0;have p1:=prod_le hv g1;have p2:=prod_le hv g2;have p3:=prod_le hv g3;have p4:=prod_le hv g4;generalize a[k]! = v at *;have HP0:=fun w1=>Lib.hid (plus_f s0 v c0 (by omega) (by omega) (by omega) w1);have HP1:=fun w1=>Lib.hid (plus_f s1 v c1 (by omega) (by omega) (by omega) w1);have HP2:=fun w1=>Lib.hid (plus_f s2 v c2 (by omega) (by omega) (by omega) w1);have HP3:=fun w1=>Lib.hid (plus_f s3 v c3 (by omega) (by omega) (by omega) w1);have HP4:=fun w1=>Lib.hid (plus_f s4 v c4 (by omega) (by omega) (by omega) w1);have HN:=Lib.hid hN
   have q1 : IntKind.u64.wrap (19 * (c4 : Int)) = ((19 * c4 : Nat) : Int):=by rw [IntKind.wrap_u64]; omega
   have q2 : (0 : Int) ≤ (k : Int):=by omega
   clear hN hM p0 p1 p2 p3 p4 g0 g1 g2 g3 g4 u4 t0 t1 t2 t3 t4 hv rv r0 r1 r2 r3 r4 hb;generalize s0 + v * c0 = n0 at *;generalize s1 + v * c1 = n1 at *;generalize s2 + v * c2 = n2 at *;generalize s3 + v * c3 = n3 at *;generalize s4 + v * c4 = n4 at *;generalize 19 * c4 = d at *;have hk0:=hS.k0;have HS:=Lib.hid hS;clear hS
   go_wp2_with (refine wpList_load_row rfl 159 _ rfl (w.heap.size + 1 + 1 + 1) rfl 159 (W2 s0) (0,0) _ hk0 Tryz.underlying159 rfl (size_sum _ (W2_size _)) ?_)
   refine (HP0 _).out.mono ?_
   rintro e w1 ⟨rfl,hw⟩
   have hS:=HS.out.step hw;have hk:=hS.k0;have hS2:=hS.set0 n0;have hk2:=hS2.k1;clear HS hw hS;have HS:=Lib.hid hS2;clear hS2
   go_wp2_with (first
    | (refine wpList_store_row rfl 159 _ _ rfl (w.heap.size + 1 + 1 + 1) rfl (W2 n0) rfl 159 _ hk (size_sum _ (W2_size _)) rfl (W2_one _) ?_)
    | (refine wpList_load_row rfl 159 _ rfl (w.heap.size + 1 + 1 + 1 + 1) rfl 159 (W2 s1) (0,0) _ hk2 Tryz.underlying159 rfl (size_sum _ (W2_size _)) ?_))
   clear hk hk2;refine (HP1 _).out.mono ?_
   rintro e w2 ⟨rfl,hw⟩
   have hS:=HS.out.step hw;have hk:=hS.k1;have hS2:=hS.set1 n1;have hk2:=hS2.k2;clear HS hw hS;have HS:=Lib.hid hS2;clear hS2
   go_wp2_with (first
    | (refine wpList_store_row rfl 159 _ _ rfl (w.heap.size + 1 + 1 + 1 + 1) rfl (W2 n1) rfl 159 _ hk (size_sum _ (W2_size _)) rfl (W2_one _) ?_)
    | (refine wpList_load_row rfl 159 _ rfl (w.heap.size + 1 + 1 + 1 + 1 + 1) rfl 159 (W2 s2) (0,0) _ hk2 Tryz.underlying159 rfl (size_sum _ (W2_size _)) ?_))
   clear hk hk2;refine (HP2 _).out.mono ?_
   rintro e w3 ⟨rfl,hw⟩
   have hS:=HS.out.step hw;have hk:=hS.k2;have hS2:=hS.set2 n2;have hk2:=hS2.k3;clear HS hw hS;have HS:=Lib.hid hS2;clear hS2
   go_wp2_with (first
    | (refine wpList_store_row rfl 159 _ _ rfl (w.heap.size + 1 + 1 + 1 + 1 + 1) rfl (W2 n2) rfl 159 _ hk (size_sum _ (W2_size _)) rfl (W2_one _) ?_)
    | (refine wpList_load_row rfl 159 _ rfl (w.heap.size + 1 + 1 + 1 + 1 + 1 + 1) rfl 159 (W2 s3) (0,0) _ hk2 Tryz.underlying159 rfl (size_sum _ (W2_size _)) ?_))
   clear hk hk2;refine (HP3 _).out.mono ?_
   rintro e w4 ⟨rfl,hw⟩
   have hS:=HS.out.step hw;have hk:=hS.k3;have hS2:=hS.set3 n3;have hk2:=hS2.k4;clear HS hw hS;have HS:=Lib.hid hS2;clear hS2
   go_wp2_with (first
    | (refine wpList_store_row rfl 159 _ _ rfl (w.heap.size + 1 + 1 + 1 + 1 + 1 + 1) rfl (W2 n3) rfl 159 _ hk (size_sum _ (W2_size _)) rfl (W2_one _) ?_)
    | (refine wpList_load_row rfl 159 _ rfl (w.heap.size + 1 + 1 + 1 + 1 + 1 + 1 + 1) rfl 159 (W2 s4) (0,0) _ hk2 Tryz.underlying159 rfl (size_sum _ (W2_size _)) ?_))
   clear hk hk2;refine (HP4 _).out.mono ?_
   rintro e w5 ⟨rfl,hw⟩
   have hS:=HS.out.step hw;have hk:=hS.k4;have hS2:=hS.set4 n4;clear HS hw hS;have HS:=Lib.hid hS2;clear hS2
   go_wp2_with (refine wpList_store_row rfl 159 _ _ rfl (w.heap.size + 1 + 1 + 1 + 1 + 1 + 1 + 1) rfl (W2 n4) rfl 159 _ hk (size_sum _ (W2_size _)) rfl (W2_one _) ?_)
   clear hk
   go_roundw
   case rel =>
    exact ⟨k + 1,by omega,by go_num,d,c0,c1,c2,c3,n0,n1,n2,n3,n4,rfl,rfl,rfl,rfl,rfl,HN.out,HS.out⟩
   case measure=>simp [intOf]; omega
  ·obtain rfl : k = 5:=by omega
   obtain ⟨hv,m0,m1,m2,m3,m4,d0,d1,d2,d3,d4⟩:=hM.fin ha;obtain ⟨hba,hbr,k0,k1,k2,k3,k4,hbe⟩:=hS;have hE:=crd_eb (a0:=s0 % 2251799813685248 + 19 * (s4 / 2251799813685248)) (a1:=s1 % 2251799813685248 + s0 / 2251799813685248) (a2:=s2 % 2251799813685248 + s1 / 2251799813685248) (a3:=s3 % 2251799813685248 + s2 / 2251799813685248) (a4:=s4 % 2251799813685248 + s3 / 2251799813685248) (by omega) (by omega) (by omega) (by omega) (by omega)
   have hE2 : EB (crd (s0 % 2251799813685248 + 19 * (s4 / 2251799813685248)) (s1 % 2251799813685248 + s0 / 2251799813685248) (s2 % 2251799813685248 + s1 / 2251799813685248) (s3 % 2251799813685248 + s2 / 2251799813685248) (s4 % 2251799813685248 + s3 / 2251799813685248)) (x * y):=by
    have h : fof (lv (crd s0 s1 s2 s3 s4)) = x * y:=hv
    unfold crd at h
    rw [h] at hE;exact hE
   have HC:=fun w1=>carried_f (s0 % 2251799813685248 + 19 * (s4 / 2251799813685248)) (s1 % 2251799813685248 + s0 / 2251799813685248) (s2 % 2251799813685248 + s1 / 2251799813685248) (s3 % 2251799813685248 + s2 / 2251799813685248) (s4 % 2251799813685248 + s3 / 2251799813685248) (by omega) (by omega) (by omega) (by omega) (by omega) w1;generalize crd (s0 % 2251799813685248 + 19 * (s4 / 2251799813685248)) (s1 % 2251799813685248 + s0 / 2251799813685248) (s2 % 2251799813685248 + s1 / 2251799813685248) (s3 % 2251799813685248 + s2 / 2251799813685248) (s4 % 2251799813685248 + s3 / 2251799813685248) = r at *;clear hE hv hM hba rv r0 r1 r2 r3 r4 hb;have HC2:=Lib.hid HC;have HE:=Lib.hid hE2;clear HC hE2
   go_wp2
   refine reg_set 29 (.tmp 4) 110 (.tmp 94) rfl rfl rfl rfl (by kernel_rfl) (tail_ok (by kernel_rfl)) (fun _ _ d _ _ h=>by cases d <;> exact h) ?_;simp only [List.take_succ_cons,List.take_zero];refine b_sum (w.heap.size + 1 + 1 + 1) _ rfl rfl rfl (fun _ h=>h.blk k0) ?_; simp only [Act.put,List.setIfInBounds_toArray,List.set_cons_zero,List.set_cons_succ];refine b_one rfl own_low (fun w1=>low_f s0 w1) rfl rfl ?_; simp only [Act.put,List.setIfInBounds_toArray,List.set_cons_zero,List.set_cons_succ];refine b_sum (w.heap.size + 1 + 1 + 1 + 1 + 1 + 1 + 1) _ rfl rfl rfl (fun _ h=>h.blk k4) ?_; simp only [Act.put,List.setIfInBounds_toArray,List.set_cons_zero,List.set_cons_succ];refine b_one rfl own_high (fun w1=>high_f s4 m4 w1) rfl rfl ?_; simp only [Act.put,List.setIfInBounds_toArray,List.set_cons_zero,List.set_cons_succ];refine b_mulu 19 (s4 / 2251799813685248) rfl rfl rfl rfl (by omega) ?_; simp only [Act.put,List.setIfInBounds_toArray,List.set_cons_zero,List.set_cons_succ];refine b_addu (s0 % 2251799813685248) (19 * (s4 / 2251799813685248)) rfl rfl rfl rfl (by omega) ?_; simp only [Act.put,List.setIfInBounds_toArray,List.set_cons_zero,List.set_cons_succ];refine b_sum (w.heap.size + 1 + 1 + 1 + 1) _ rfl rfl rfl (fun _ h=>h.blk k1) ?_; simp only [Act.put,List.setIfInBounds_toArray,List.set_cons_zero,List.set_cons_succ];refine b_one rfl own_low (fun w1=>low_f s1 w1) rfl rfl ?_; simp only [Act.put,List.setIfInBounds_toArray,List.set_cons_zero,List.set_cons_succ];refine b_sum (w.heap.size + 1 + 1 + 1) _ rfl rfl rfl (fun _ h=>h.blk k0) ?_; simp only [Act.put,List.setIfInBounds_toArray,List.set_cons_zero,List.set_cons_succ];refine b_one rfl own_high (fun w1=>high_f s0 m0 w1) rfl rfl ?_; simp only [Act.put,List.setIfInBounds_toArray,List.set_cons_zero,List.set_cons_succ];refine b_addu (s1 % 2251799813685248) (s0 / 2251799813685248) rfl rfl rfl rfl (by omega) ?_; simp only [Act.put,List.setIfInBounds_toArray,List.set_cons_zero,List.set_cons_succ];refine b_sum (w.heap.size + 1 + 1 + 1 + 1 + 1) _ rfl rfl rfl (fun _ h=>h.blk k2) ?_; simp only [Act.put,List.setIfInBounds_toArray,List.set_cons_zero,List.set_cons_succ];refine b_one rfl own_low (fun w1=>low_f s2 w1) rfl rfl ?_; simp only [Act.put,List.setIfInBounds_toArray,List.set_cons_zero,List.set_cons_succ];refine b_sum (w.heap.size + 1 + 1 + 1 + 1) _ rfl rfl rfl (fun _ h=>h.blk k1) ?_; simp only [Act.put,List.setIfInBounds_toArray,List.set_cons_zero,List.set_cons_succ];refine b_one rfl own_high (fun w1=>high_f s1 m1 w1) rfl rfl ?_; simp only [Act.put,List.setIfInBounds_toArray,List.set_cons_zero,List.set_cons_succ];refine b_addu (s2 % 2251799813685248) (s1 / 2251799813685248) rfl rfl rfl rfl (by omega) ?_; simp only [Act.put,List.setIfInBounds_toArray,List.set_cons_zero,List.set_cons_succ];refine b_sum (w.heap.size + 1 + 1 + 1 + 1 + 1 + 1) _ rfl rfl rfl (fun _ h=>h.blk k3) ?_; simp only [Act.put,List.setIfInBounds_toArray,List.set_cons_zero,List.set_cons_succ]
   refine b_one rfl own_low (fun w1=>low_f s3 w1) rfl rfl ?_; simp only [Act.put,List.setIfInBounds_toArray,List.set_cons_zero,List.set_cons_succ];refine b_sum (w.heap.size + 1 + 1 + 1 + 1 + 1) _ rfl rfl rfl (fun _ h=>h.blk k2) ?_; simp only [Act.put,List.setIfInBounds_toArray,List.set_cons_zero,List.set_cons_succ];refine b_one rfl own_high (fun w1=>high_f s2 m2 w1) rfl rfl ?_; simp only [Act.put,List.setIfInBounds_toArray,List.set_cons_zero,List.set_cons_succ];refine b_addu (s3 % 2251799813685248) (s2 / 2251799813685248) rfl rfl rfl rfl (by omega) ?_; simp only [Act.put,List.setIfInBounds_toArray,List.set_cons_zero,List.set_cons_succ];refine b_sum (w.heap.size + 1 + 1 + 1 + 1 + 1 + 1 + 1) _ rfl rfl rfl (fun _ h=>h.blk k4) ?_; simp only [Act.put,List.setIfInBounds_toArray,List.set_cons_zero,List.set_cons_succ];refine b_one rfl own_low (fun w1=>low_f s4 w1) rfl rfl ?_; simp only [Act.put,List.setIfInBounds_toArray,List.set_cons_zero,List.set_cons_succ];refine b_sum (w.heap.size + 1 + 1 + 1 + 1 + 1 + 1) _ rfl rfl rfl (fun _ h=>h.blk k3) ?_; simp only [Act.put,List.setIfInBounds_toArray,List.set_cons_zero,List.set_cons_succ];refine b_one rfl own_high (fun w1=>high_f s3 m3 w1) rfl rfl ?_; simp only [Act.put,List.setIfInBounds_toArray,List.set_cons_zero,List.set_cons_succ];refine b_addu (s4 % 2251799813685248) (s3 / 2251799813685248) rfl rfl rfl rfl (by omega) ?_; simp only [Act.put,List.setIfInBounds_toArray,List.set_cons_zero,List.set_cons_succ];refine b_build _ _ rfl rfl rfl (built_u5 _ _ _ _ _) ?_; simp only [Act.put,List.setIfInBounds_toArray,List.set_cons_zero,List.set_cons_succ];refine b_build _ _ rfl rfl rfl (built_el _ _ _ _ _) ?_; simp only [Act.put,List.setIfInBounds_toArray,List.set_cons_zero,List.set_cons_succ];refine b_one rfl own_carried (fun w1=>HC2.out w1) rfl rfl ?_; simp only [Act.put,List.setIfInBounds_toArray,List.set_cons_zero,List.set_cons_succ];have hzr:=len_us HE.out.len;refine wpB_nil ⟨_,z5,(Us r).toArray,rfl,rfl,hbr,by rw [hzr]; rfl,size_el _ hzr,Us_one _,fun w1 hw1=>?_⟩;have hfin:=hw1.blk hbr;have hbe2:=below_up hbe hw1
   go_wp2
   refine bodyPost_ret (results_cell_row rfl _ _ (w.heap.size + 1 + 1) 110 (Us r).toArray (0,0) _ rfl (hfin.row _) Tryz.underlying110 rfl (size_el _ hzr)) rfl ⟨r,HE.out,rfl,?_⟩;exact below_setRow hbe2 (by omega) _
end Go.Proofs.YtlcbhbahchiofaaGreatDoor
/-
  THE FIELD'S NUMBERS: squared, ones, eighth, Inv.
-/
namespace Go.Proofs.YtlcbhbahchiofaaGreatDoor
open Go.RowKit Go.IntWalk Nums

theorem own_squared : Own 98:=fun _ _=>by go_simp
theorem own_ones : Own 99:=fun _ _=>by go_simp
theorem own_eighth : Own 110:=fun _ _=>by go_simp

theorem elmul_p {a b : List Nat} {x : F} {d e : Nat} (ha : EB a (fpow x d)) (hb : EB b (fpow x e)) (w : World) :
  Calls Tryz.prog 78 #[.agg (Us a).toArray,.agg (Us b).toArray] w fun e' w'=>∃ r,EB r (fpow x (d + e)) ∧ e' = .returned (.agg (Us r).toArray) ∧ Below w.heap.size w w':=by
 rw [fpow_add];exact elmul_f ha hb w

set_option maxRecDepth 100000 in
set_option maxHeartbeats 1000000 in
theorem squared_f {a : List Nat} {x : F} (ha : EB a x) (n : Nat) (hn : n < 300) (w : World) :
  Calls Tryz.prog 98 #[.agg (Us a).toArray,.int .i64 n] w fun e w'=>∃ r,EB r (fpow x (2 ^ n)) ∧ e = .returned (.agg (Us r).toArray) ∧ Below w.heap.size w w':=by
 have hs : ∀ k,fpow x (2 ^ (k + 1)) = fpow x (2 ^ k) * fpow x (2 ^ k):=fun k=>by rw [← fpow_add,Nat.pow_succ]; congr 1; omega
 have HS:=Lib.hid hs;clear hs
 go_enter Tryz.func98,Tryz.ntmps98
 go_wp2
 go_loopw [6] (fun i wr=>∃ k : Nat,k ≤ n ∧ i = .int .i64 k ∧ ∃ r,EB r (fpow x (2 ^ k)) ∧ Blk wr w.heap.size 110 (Us r).toArray ∧ Blk wr (w.heap.size + 1) 110 z5 ∧ Below w.heap.size w wr) (fun i _=>n - (intOf i).toNat)
 case atStart =>
  refine ⟨0,by omega,rfl,a,?_,heap_alloc2_old w _ _,heap_alloc2_new w _ _,((Below.refl _ _).alloc (Nat.le_refl _) _).alloc (by simp) _⟩;rw [Nat.pow_zero,fpow_one];exact ha
 case round =>
  obtain ⟨k,hk,rfl,r,hr,h0,h1,hbel⟩:=hrel
  by_cases hlt : k < n
  ·have HM:=fun w1=>Lib.hid (elmul_f hr hr w1)
   rw [← HS.out k] at HM;have hzr:=len_us hr.len;have HK:=Lib.hid (And.intro h0 (And.intro h1 hbel))
   have q0 : (k : Int) < (n : Int):=by omega
   clear h1 hbel
   go_wp2_with (refine wpList_load_row rfl 110 _ rfl w.heap.size rfl 110 (Us r).toArray (0,0) _ h0 Tryz.underlying110 rfl (size_el _ hzr) ?_)
   refine (HM _).out.mono ?_
   rintro e w2 ⟨r1,hr1,rfl,hw2⟩
   have hz1:=len_us hr1.len;obtain ⟨h0,h1,hbel⟩:=HK.out;have k0:=h0.below hw2 h0.lt;have k1:=h1.below hw2 h1.lt;have kb:=hbel.trans (hw2.mono hbel.size)
   have HR:=Lib.hid (show Blk (w2.setRow w.heap.size (Us r1).toArray) w.heap.size 110 (Us r1).toArray ∧ Blk (w2.setRow w.heap.size (Us r1).toArray) (w.heap.size + 1) 110 z5 ∧ Below w.heap.size w (w2.setRow w.heap.size (Us r1).toArray) from
    ⟨k0.row _,k1.rowFar (by omega) _,below_setRow kb (Nat.le_refl _) _⟩)
   clear HM HK h0 h1 hbel k1 kb hw2
   go_wp2_with (refine wpList_store_row rfl 110 _ _ rfl w.heap.size rfl (Us r1).toArray rfl 110 _ k0 (size_el _ hz1) (by rw [hz1,hzr]) (Us_one _) ?_)
   go_roundw
   case rel=>exact ⟨k + 1,by omega,by go_num,r1,hr1,HR.out⟩
   case measure=>simp [intOf]; omega
  ·obtain rfl : k = n:=by omega
   have hzr:=len_us hr.len
   go_wp2_with (first
    | (refine wpList_load_row rfl 110 _ rfl w.heap.size rfl 110 (Us r).toArray (0,0) _ h0 Tryz.underlying110 rfl (size_el _ hzr) ?_)
    | (refine wpList_store_row rfl 110 _ _ rfl (w.heap.size + 1) rfl (Us r).toArray rfl 110 _ h1 (size_el _ hzr) (by rw [hzr]; rfl) (Us_one _) ?_))
   refine bodyPost_ret (results_cell_row rfl _ _ (w.heap.size + 1) 110 (Us r).toArray (0,0) _ rfl (h1.row _) Tryz.underlying110 rfl (size_el _ hzr)) rfl ⟨r,hr,rfl,?_⟩;exact below_setRow hbel (by omega) _

theorem squared_p {a : List Nat} {x : F} {d : Nat} (ha : EB a (fpow x d)) (n : Nat) (hn : n < 300) (w : World) :
  Calls Tryz.prog 98 #[.agg (Us a).toArray,.int .i64 n] w fun e w'=>∃ r,EB r (fpow x (d * 2 ^ n)) ∧ e = .returned (.agg (Us r).toArray) ∧ Below w.heap.size w w':=by
 rw [fpow_mul];exact squared_f ha n hn w

theorem ones_end {r : List Nat} {x : F} (h : EB r (fpow x ((1267650600228229401496703205375 * 2 ^ 100 + 1267650600228229401496703205375) * 2 ^ 50 + 1125899906842623))) : EB r (fpow x (2 ^ 250 - 1)):=by
 rw [show (2 : Nat) ^ 250 - 1 = ((1267650600228229401496703205375 * 2 ^ 100 + 1267650600228229401496703205375) * 2 ^ 50 + 1125899906842623) from by decide];exact h
theorem eighth_end {r : List Nat} {x : F} (h : EB r (fpow (fpow x (2 ^ 250 - 1)) (2 ^ 2) * x)) : EB r (fpow x (2 ^ 252 - 3)):=by
 rw [show (2 : Nat) ^ 252 - 3 = (2 ^ 250 - 1) * 2 ^ 2 + 1 from by decide,fpow_succ,fpow_mul];exact h

set_option maxRecDepth 100000 in
set_option maxHeartbeats 1000000 in
theorem ones_f {a : List Nat} {x : F} (hA1 : EB a x) (w : World) :
  Calls Tryz.prog 99 #[.agg (Us a).toArray] w fun e w'=>∃ r,EB r (fpow x (2 ^ 250 - 1)) ∧ e = .returned (.agg (Us r).toArray) ∧ Below w.heap.size w w':=by
 have hA : EB a (fpow x 1):=by rw [fpow_one]; exact hA1
 go_enter Tryz.func99,Tryz.ntmps99
 refine wp_seq_k fun K hK=>?_;refine wp_region_lit ?_;refine wpl_box (Us a).toArray rfl rfl rfl ?_;refine wpl_alloc (zs:=z5) rfl rfl (by kernel_rfl) ?_;refine wpl_nil ?_
 go_simp
 refine hK _ _ ?_;clear hK K
 refine wp_at (fun W=>Blk W w.heap.size 110 (Us a).toArray ∧ Blk W (w.heap.size + 1) 110 z5 ∧ Below w.heap.size w W)
  ⟨heap_alloc2_old w _ _,heap_alloc2_new w _ _,((Below.refl _ _).alloc (Nat.le_refl _) _).alloc (by simp) _⟩ ?_
 rintro W ⟨ha,ho,hbe⟩
 -- walk ones
 refine wp_seq_k fun K hK=>?_;refine reg_var 4 3 110 (.tmp 14) z5 rfl rfl rfl rfl rfl rfl rfl (by kernel_rfl) (tail_ok (by kernel_rfl)) (by kernel_rfl) (fun _ _ d _ _ h=>by cases d <;> exact h) (exec_alloc rfl (by kernel_rfl)) ?_;simp only [List.take_succ_cons,List.take_zero];refine b_el w.heap.size hA.len _ rfl rfl rfl (fun _ h=>h.blk ha) ?_;simp only [Act.put,List.setIfInBounds_toArray,List.set_cons_zero,List.set_cons_succ];refine b_fe rfl own_squared (fun w1 _=>squared_p hA 1 (by omega) w1) rfl rfl ?_
 intro r1 v1
 simp only [Act.put,List.setIfInBounds_toArray,List.set_cons_zero,List.set_cons_succ];refine b_el w.heap.size hA.len _ rfl rfl rfl (fun _ h=>h.blk ha) ?_;simp only [Act.put,List.setIfInBounds_toArray,List.set_cons_zero,List.set_cons_succ];refine b_fe rfl own_elmul (fun w1 _=>elmul_p v1 hA w1) rfl rfl ?_
 intro r2 v2
 simp only [Act.put,List.setIfInBounds_toArray,List.set_cons_zero,List.set_cons_succ];refine wpB_nil ⟨(Us r2).toArray,fun _=>rfl,fun _=>rfl,(len_us v2.len).symm,size_el _ (len_us v2.len),Us_one _,fun gtwo W1 hgtwo hw1 hbtwo=>?_⟩;simp only [Exit.then,Act.put,List.setIfInBounds_toArray,List.set_cons_zero,List.set_cons_succ];refine hK _ _ ?_;clear hK K;have ha:=hw1.blk ha;have ho:=hw1.blk ho;have hbe:=below_up hbe hw1;clear hw1;have v2 : EB r2 (fpow x 3):=v2;refine wp_seq_k fun K hK=>?_;refine reg_var 4 4 110 (.tmp 18) z5 rfl rfl rfl rfl rfl rfl rfl (by kernel_rfl) (tail_ok (by kernel_rfl)) (by kernel_rfl) (fun _ _ d _ _ h=>by cases d <;> exact h) (exec_alloc rfl (by kernel_rfl)) ?_;simp only [List.take_succ_cons,List.take_zero];refine b_el gtwo v2.len _ rfl rfl rfl (fun _ h=>h.blk hbtwo) ?_;simp only [Act.put,List.setIfInBounds_toArray,List.set_cons_zero,List.set_cons_succ];refine b_fe rfl own_squared (fun w1 _=>squared_p v2 2 (by omega) w1) rfl rfl ?_
 intro r3 v3
 simp only [Act.put,List.setIfInBounds_toArray,List.set_cons_zero,List.set_cons_succ];refine b_el gtwo v2.len _ rfl rfl rfl (fun _ h=>h.blk hbtwo) ?_;simp only [Act.put,List.setIfInBounds_toArray,List.set_cons_zero,List.set_cons_succ];refine b_fe rfl own_elmul (fun w1 _=>elmul_p v3 v2 w1) rfl rfl ?_
 intro r4 v4
 simp only [Act.put,List.setIfInBounds_toArray,List.set_cons_zero,List.set_cons_succ];refine wpB_nil ⟨(Us r4).toArray,fun _=>rfl,fun _=>rfl,(len_us v4.len).symm,size_el _ (len_us v4.len),Us_one _,fun gfour W1 hgfour hw1 hbfour=>?_⟩;simp only [Exit.then,Act.put,List.setIfInBounds_toArray,List.set_cons_zero,List.set_cons_succ];refine hK _ _ ?_;clear hK K;have ha:=hw1.blk ha;have hbtwo:=hw1.blk hbtwo;have ho:=hw1.blk ho;have hbe:=below_up hbe hw1;clear hw1;have v4 : EB r4 (fpow x 15):=v4;refine wp_seq_k fun K hK=>?_;refine reg_var 4 5 110 (.tmp 22) z5 rfl rfl rfl rfl rfl rfl rfl (by kernel_rfl) (tail_ok (by kernel_rfl)) (by kernel_rfl) (fun _ _ d _ _ h=>by cases d <;> exact h) (exec_alloc rfl (by kernel_rfl)) ?_;simp only [List.take_succ_cons,List.take_zero];refine b_el gfour v4.len _ rfl rfl rfl (fun _ h=>h.blk hbfour) ?_;simp only [Act.put,List.setIfInBounds_toArray,List.set_cons_zero,List.set_cons_succ];refine b_fe rfl own_squared (fun w1 _=>squared_p v4 1 (by omega) w1) rfl rfl ?_
 intro r5 v5
 simp only [Act.put,List.setIfInBounds_toArray,List.set_cons_zero,List.set_cons_succ];refine b_el w.heap.size hA.len _ rfl rfl rfl (fun _ h=>h.blk ha) ?_;simp only [Act.put,List.setIfInBounds_toArray,List.set_cons_zero,List.set_cons_succ];refine b_fe rfl own_elmul (fun w1 _=>elmul_p v5 hA w1) rfl rfl ?_
 intro r6 v6
 simp only [Act.put,List.setIfInBounds_toArray,List.set_cons_zero,List.set_cons_succ];refine wpB_nil ⟨(Us r6).toArray,fun _=>rfl,fun _=>rfl,(len_us v6.len).symm,size_el _ (len_us v6.len),Us_one _,fun gfive W1 hgfive hw1 hbfive=>?_⟩;simp only [Exit.then,Act.put,List.setIfInBounds_toArray,List.set_cons_zero,List.set_cons_succ];refine hK _ _ ?_;clear hK K;have ha:=hw1.blk ha;have hbtwo:=hw1.blk hbtwo;have hbfour:=hw1.blk hbfour;have ho:=hw1.blk ho;have hbe:=below_up hbe hw1;clear hw1;have v6 : EB r6 (fpow x 31):=v6;refine wp_seq_k fun K hK=>?_;refine reg_var 4 6 110 (.tmp 26) z5 rfl rfl rfl rfl rfl rfl rfl (by kernel_rfl) (tail_ok (by kernel_rfl)) (by kernel_rfl) (fun _ _ d _ _ h=>by cases d <;> exact h) (exec_alloc rfl (by kernel_rfl)) ?_;simp only [List.take_succ_cons,List.take_zero];refine b_el gfive v6.len _ rfl rfl rfl (fun _ h=>h.blk hbfive) ?_;simp only [Act.put,List.setIfInBounds_toArray,List.set_cons_zero,List.set_cons_succ];refine b_fe rfl own_squared (fun w1 _=>squared_p v6 5 (by omega) w1) rfl rfl ?_
 intro r7 v7
 simp only [Act.put,List.setIfInBounds_toArray,List.set_cons_zero,List.set_cons_succ];refine b_el gfive v6.len _ rfl rfl rfl (fun _ h=>h.blk hbfive) ?_;simp only [Act.put,List.setIfInBounds_toArray,List.set_cons_zero,List.set_cons_succ];refine b_fe rfl own_elmul (fun w1 _=>elmul_p v7 v6 w1) rfl rfl ?_
 intro r8 v8
 simp only [Act.put,List.setIfInBounds_toArray,List.set_cons_zero,List.set_cons_succ];refine wpB_nil ⟨(Us r8).toArray,fun _=>rfl,fun _=>rfl,(len_us v8.len).symm,size_el _ (len_us v8.len),Us_one _,fun gten W1 hgten hw1 hbten=>?_⟩;simp only [Exit.then,Act.put,List.setIfInBounds_toArray,List.set_cons_zero,List.set_cons_succ];refine hK _ _ ?_;clear hK K;have ha:=hw1.blk ha;have hbtwo:=hw1.blk hbtwo;have hbfour:=hw1.blk hbfour;have hbfive:=hw1.blk hbfive;have ho:=hw1.blk ho;have hbe:=below_up hbe hw1;clear hw1;have v8 : EB r8 (fpow x 1023):=v8;refine wp_seq_k fun K hK=>?_;refine reg_var 4 7 110 (.tmp 30) z5 rfl rfl rfl rfl rfl rfl rfl (by kernel_rfl) (tail_ok (by kernel_rfl)) (by kernel_rfl) (fun _ _ d _ _ h=>by cases d <;> exact h) (exec_alloc rfl (by kernel_rfl)) ?_;simp only [List.take_succ_cons,List.take_zero];refine b_el gten v8.len _ rfl rfl rfl (fun _ h=>h.blk hbten) ?_;simp only [Act.put,List.setIfInBounds_toArray,List.set_cons_zero,List.set_cons_succ];refine b_fe rfl own_squared (fun w1 _=>squared_p v8 10 (by omega) w1) rfl rfl ?_
 intro r9 v9
 simp only [Act.put,List.setIfInBounds_toArray,List.set_cons_zero,List.set_cons_succ];refine b_el gten v8.len _ rfl rfl rfl (fun _ h=>h.blk hbten) ?_;simp only [Act.put,List.setIfInBounds_toArray,List.set_cons_zero,List.set_cons_succ];refine b_fe rfl own_elmul (fun w1 _=>elmul_p v9 v8 w1) rfl rfl ?_
 intro r10 v10
 simp only [Act.put,List.setIfInBounds_toArray,List.set_cons_zero,List.set_cons_succ];refine wpB_nil ⟨(Us r10).toArray,fun _=>rfl,fun _=>rfl,(len_us v10.len).symm,size_el _ (len_us v10.len),Us_one _,fun gtwenty W1 hgtwenty hw1 hbtwenty=>?_⟩;simp only [Exit.then,Act.put,List.setIfInBounds_toArray,List.set_cons_zero,List.set_cons_succ];refine hK _ _ ?_;clear hK K;have ha:=hw1.blk ha;have hbtwo:=hw1.blk hbtwo;have hbfour:=hw1.blk hbfour;have hbfive:=hw1.blk hbfive;have hbten:=hw1.blk hbten;have ho:=hw1.blk ho;have hbe:=below_up hbe hw1;clear hw1;have v10 : EB r10 (fpow x 1048575):=v10;refine wp_seq_k fun K hK=>?_;refine reg_var 4 8 110 (.tmp 34) z5 rfl rfl rfl rfl rfl rfl rfl (by kernel_rfl) (tail_ok (by kernel_rfl)) (by kernel_rfl) (fun _ _ d _ _ h=>by cases d <;> exact h) (exec_alloc rfl (by kernel_rfl)) ?_;simp only [List.take_succ_cons,List.take_zero];refine b_el gtwenty v10.len _ rfl rfl rfl (fun _ h=>h.blk hbtwenty) ?_;simp only [Act.put,List.setIfInBounds_toArray,List.set_cons_zero,List.set_cons_succ];refine b_fe rfl own_squared (fun w1 _=>squared_p v10 20 (by omega) w1) rfl rfl ?_
 intro r11 v11
 simp only [Act.put,List.setIfInBounds_toArray,List.set_cons_zero,List.set_cons_succ];refine b_el gtwenty v10.len _ rfl rfl rfl (fun _ h=>h.blk hbtwenty) ?_;simp only [Act.put,List.setIfInBounds_toArray,List.set_cons_zero,List.set_cons_succ];refine b_fe rfl own_elmul (fun w1 _=>elmul_p v11 v10 w1) rfl rfl ?_
 intro r12 v12
 simp only [Act.put,List.setIfInBounds_toArray,List.set_cons_zero,List.set_cons_succ];refine wpB_nil ⟨(Us r12).toArray,fun _=>rfl,fun _=>rfl,(len_us v12.len).symm,size_el _ (len_us v12.len),Us_one _,fun gforty W1 hgforty hw1 hbforty=>?_⟩;simp only [Exit.then,Act.put,List.setIfInBounds_toArray,List.set_cons_zero,List.set_cons_succ];refine hK _ _ ?_;clear hK K;have ha:=hw1.blk ha;have hbtwo:=hw1.blk hbtwo;have hbfour:=hw1.blk hbfour;have hbfive:=hw1.blk hbfive;have hbten:=hw1.blk hbten;have hbtwenty:=hw1.blk hbtwenty;have ho:=hw1.blk ho;have hbe:=below_up hbe hw1;clear hw1;have v12 : EB r12 (fpow x 1099511627775):=v12;refine wp_seq_k fun K hK=>?_;refine reg_var 4 9 110 (.tmp 38) z5 rfl rfl rfl rfl rfl rfl rfl (by kernel_rfl) (tail_ok (by kernel_rfl)) (by kernel_rfl) (fun _ _ d _ _ h=>by cases d <;> exact h) (exec_alloc rfl (by kernel_rfl)) ?_;simp only [List.take_succ_cons,List.take_zero];refine b_el gforty v12.len _ rfl rfl rfl (fun _ h=>h.blk hbforty) ?_;simp only [Act.put,List.setIfInBounds_toArray,List.set_cons_zero,List.set_cons_succ];refine b_fe rfl own_squared (fun w1 _=>squared_p v12 10 (by omega) w1) rfl rfl ?_
 intro r13 v13
 simp only [Act.put,List.setIfInBounds_toArray,List.set_cons_zero,List.set_cons_succ];refine b_el gten v8.len _ rfl rfl rfl (fun _ h=>h.blk hbten) ?_;simp only [Act.put,List.setIfInBounds_toArray,List.set_cons_zero,List.set_cons_succ];refine b_fe rfl own_elmul (fun w1 _=>elmul_p v13 v8 w1) rfl rfl ?_
 intro r14 v14
 simp only [Act.put,List.setIfInBounds_toArray,List.set_cons_zero,List.set_cons_succ];refine wpB_nil ⟨(Us r14).toArray,fun _=>rfl,fun _=>rfl,(len_us v14.len).symm,size_el _ (len_us v14.len),Us_one _,fun gfifty W1 hgfifty hw1 hbfifty=>?_⟩;simp only [Exit.then,Act.put,List.setIfInBounds_toArray,List.set_cons_zero,List.set_cons_succ];refine hK _ _ ?_;clear hK K;have ha:=hw1.blk ha;have hbtwo:=hw1.blk hbtwo;have hbfour:=hw1.blk hbfour;have hbfive:=hw1.blk hbfive;have hbten:=hw1.blk hbten;have hbtwenty:=hw1.blk hbtwenty;have hbforty:=hw1.blk hbforty;have ho:=hw1.blk ho;have hbe:=below_up hbe hw1;clear hw1;have v14 : EB r14 (fpow x 1125899906842623):=v14;refine wp_seq_k fun K hK=>?_;refine reg_var 4 10 110 (.tmp 42) z5 rfl rfl rfl rfl rfl rfl rfl (by kernel_rfl) (tail_ok (by kernel_rfl)) (by kernel_rfl) (fun _ _ d _ _ h=>by cases d <;> exact h) (exec_alloc rfl (by kernel_rfl)) ?_;simp only [List.take_succ_cons,List.take_zero];refine b_el gfifty v14.len _ rfl rfl rfl (fun _ h=>h.blk hbfifty) ?_;simp only [Act.put,List.setIfInBounds_toArray,List.set_cons_zero,List.set_cons_succ];refine b_fe rfl own_squared (fun w1 _=>squared_p v14 50 (by omega) w1) rfl rfl ?_
 intro r15 v15
 simp only [Act.put,List.setIfInBounds_toArray,List.set_cons_zero,List.set_cons_succ];refine b_el gfifty v14.len _ rfl rfl rfl (fun _ h=>h.blk hbfifty) ?_;simp only [Act.put,List.setIfInBounds_toArray,List.set_cons_zero,List.set_cons_succ];refine b_fe rfl own_elmul (fun w1 _=>elmul_p v15 v14 w1) rfl rfl ?_
 intro r16 v16
 simp only [Act.put,List.setIfInBounds_toArray,List.set_cons_zero,List.set_cons_succ];refine wpB_nil ⟨(Us r16).toArray,fun _=>rfl,fun _=>rfl,(len_us v16.len).symm,size_el _ (len_us v16.len),Us_one _,fun ghundred W1 hghundred hw1 hbhundred=>?_⟩;simp only [Exit.then,Act.put,List.setIfInBounds_toArray,List.set_cons_zero,List.set_cons_succ];refine hK _ _ ?_;clear hK K;have ha:=hw1.blk ha;have hbtwo:=hw1.blk hbtwo;have hbfour:=hw1.blk hbfour;have hbfive:=hw1.blk hbfive;have hbten:=hw1.blk hbten;have hbtwenty:=hw1.blk hbtwenty;have hbforty:=hw1.blk hbforty;have hbfifty:=hw1.blk hbfifty;have ho:=hw1.blk ho;have hbe:=below_up hbe hw1;clear hw1;have v16 : EB r16 (fpow x 1267650600228229401496703205375):=v16;refine wp_seq_k fun K hK=>?_;refine reg_set 7 (.tmp 2) 110 (.tmp 49) rfl rfl rfl rfl (by kernel_rfl) (tail_ok (by kernel_rfl)) (fun _ _ d _ _ h=>by cases d <;> exact h) ?_;simp only [List.take_succ_cons,List.take_zero];refine b_el ghundred v16.len _ rfl rfl rfl (fun _ h=>h.blk hbhundred) ?_;simp only [Act.put,List.setIfInBounds_toArray,List.set_cons_zero,List.set_cons_succ];refine b_fe rfl own_squared (fun w1 _=>squared_p v16 100 (by omega) w1) rfl rfl ?_
 intro r17 v17
 simp only [Act.put,List.setIfInBounds_toArray,List.set_cons_zero,List.set_cons_succ];refine b_el ghundred v16.len _ rfl rfl rfl (fun _ h=>h.blk hbhundred) ?_;simp only [Act.put,List.setIfInBounds_toArray,List.set_cons_zero,List.set_cons_succ];refine b_fe rfl own_elmul (fun w1 _=>elmul_p v17 v16 w1) rfl rfl ?_
 intro r18 v18
 simp only [Act.put,List.setIfInBounds_toArray,List.set_cons_zero,List.set_cons_succ];refine b_fe rfl own_squared (fun w1 _=>squared_p v18 50 (by omega) w1) rfl rfl ?_
 intro r19 v19
 simp only [Act.put,List.setIfInBounds_toArray,List.set_cons_zero,List.set_cons_succ];refine b_el gfifty v14.len _ rfl rfl rfl (fun _ h=>h.blk hbfifty) ?_;simp only [Act.put,List.setIfInBounds_toArray,List.set_cons_zero,List.set_cons_succ];refine b_fe rfl own_elmul (fun w1 _=>elmul_p v19 v14 w1) rfl rfl ?_
 intro r20 v20
 simp only [Act.put,List.setIfInBounds_toArray,List.set_cons_zero,List.set_cons_succ];refine wpB_nil ⟨(w.heap.size + 1),_,_,rfl,rfl,ho,(len_us v20.len).symm,size_el _ (len_us v20.len),Us_one _,fun W1 hw1=>?_⟩;simp only [Exit.then];refine hK _ _ ?_;clear hK K;have ho:=hw1.blk ho;have hbe:=below_up hbe hw1;refine wp_ret ?_;refine bodyPost_ret (results_cell_row rfl _ _ (w.heap.size + 1) 110 (Us r20).toArray (0,0) _ rfl (ho.row _) Tryz.underlying110 rfl (size_el _ (len_us v20.len))) rfl ⟨r20,ones_end v20,rfl,?_⟩;exact below_setRow hbe (by omega) _
 -- end ones

set_option maxRecDepth 100000 in
set_option maxHeartbeats 1000000 in
theorem eighth_f {a : List Nat} {x : F} (hA : EB a x) (w : World) :
  Calls Tryz.prog 110 #[.agg (Us a).toArray] w fun e w'=>∃ r,EB r (fpow x (2 ^ 252 - 3)) ∧ e = .returned (.agg (Us r).toArray) ∧ Below w.heap.size w w':=by
 go_enter Tryz.func110,Tryz.ntmps110
 refine wp_seq_k fun K hK=>?_;refine wp_region_lit ?_;refine wpl_box (Us a).toArray rfl rfl rfl ?_;refine wpl_alloc (zs:=z5) rfl rfl (by kernel_rfl) ?_;refine wpl_nil ?_
 go_simp
 refine hK _ _ ?_;clear hK K
 refine wp_at (fun W=>Blk W w.heap.size 110 (Us a).toArray ∧ Blk W (w.heap.size + 1) 110 z5 ∧ Below w.heap.size w W)
  ⟨heap_alloc2_old w _ _,heap_alloc2_new w _ _,((Below.refl _ _).alloc (Nat.le_refl _) _).alloc (by simp) _⟩ ?_
 rintro W ⟨ha,ho,hbe⟩
 -- walk eighth
 refine wp_seq_k fun K hK=>?_;refine reg_set 5 (.tmp 2) 110 (.tmp 7) rfl rfl rfl rfl (by kernel_rfl) (tail_ok (by kernel_rfl)) (fun _ _ d _ _ h=>by cases d <;> exact h) ?_;simp only [List.take_succ_cons,List.take_zero];refine b_el w.heap.size hA.len _ rfl rfl rfl (fun _ h=>h.blk ha) ?_;simp only [Act.put,List.setIfInBounds_toArray,List.set_cons_zero,List.set_cons_succ];refine b_fe rfl own_ones (fun w1 _=>ones_f hA w1) rfl rfl ?_
 intro r1 v1
 simp only [Act.put,List.setIfInBounds_toArray,List.set_cons_zero,List.set_cons_succ];refine b_fe rfl own_squared (fun w1 _=>squared_f v1 2 (by omega) w1) rfl rfl ?_
 intro r2 v2
 simp only [Act.put,List.setIfInBounds_toArray,List.set_cons_zero,List.set_cons_succ];refine b_el w.heap.size hA.len _ rfl rfl rfl (fun _ h=>h.blk ha) ?_;simp only [Act.put,List.setIfInBounds_toArray,List.set_cons_zero,List.set_cons_succ];refine b_fe rfl own_elmul (fun w1 _=>elmul_f v2 hA w1) rfl rfl ?_
 intro r3 v3
 simp only [Act.put,List.setIfInBounds_toArray,List.set_cons_zero,List.set_cons_succ];refine wpB_nil ⟨(w.heap.size + 1),_,_,rfl,rfl,ho,(len_us v3.len).symm,size_el _ (len_us v3.len),Us_one _,fun W1 hw1=>?_⟩;simp only [Exit.then];refine hK _ _ ?_;clear hK K;have ho:=hw1.blk ho;have hbe:=below_up hbe hw1;refine wp_ret ?_;refine bodyPost_ret (results_cell_row rfl _ _ (w.heap.size + 1) 110 (Us r3).toArray (0,0) _ rfl (ho.row _) Tryz.underlying110 rfl (size_el _ (len_us v3.len))) rfl ⟨r3,eighth_end v3,rfl,?_⟩;exact below_setRow hbe (by omega) _
 -- end eighth

theorem inv_end {r : List Nat} {x : F} (h : EB r (fpow x ((2 ^ 250 - 1) * 2 ^ 5 + ((1 + 1) * 2 ^ 2 + (1 + 1) + 1)))) : EB r (finv x):=by
 unfold finv
 rw [show p - 2 = (2 ^ 250 - 1) * 2 ^ 5 + ((1 + 1) * 2 ^ 2 + (1 + 1) + 1) from by decide];exact h

set_option maxRecDepth 100000 in
set_option maxHeartbeats 1000000 in
theorem elinv_f {a : List Nat} {x : F} (hA1 : EB a x) (w : World) :
  Calls Tryz.prog 77 #[.agg (Us a).toArray] w fun e w'=>∃ r,EB r (finv x) ∧ e = .returned (.agg (Us r).toArray) ∧ Below w.heap.size w w':=by
 have hA : EB a (fpow x 1):=by rw [fpow_one]; exact hA1
 go_enter Tryz.func77,Tryz.ntmps77
 refine wp_seq_k fun K hK=>?_;refine wp_region_lit ?_;refine wpl_box (Us a).toArray rfl rfl rfl ?_;refine wpl_alloc (zs:=z5) rfl rfl (by kernel_rfl) ?_;refine wpl_nil ?_
 go_simp
 refine hK _ _ ?_;clear hK K
 refine wp_at (fun W=>Blk W w.heap.size 110 (Us a).toArray ∧ Blk W (w.heap.size + 1) 110 z5 ∧ Below w.heap.size w W)
  ⟨heap_alloc2_old w _ _,heap_alloc2_new w _ _,((Below.refl _ _).alloc (Nat.le_refl _) _).alloc (by simp) _⟩ ?_
 rintro W ⟨ha,ho,hbe⟩
 -- walk inv
 refine wp_seq_k fun K hK=>?_;refine reg_varF 3 3 110 (.tmp 7) z5 rfl rfl rfl rfl rfl rfl rfl (exec_alloc rfl (by kernel_rfl)) ?_;simp only [List.take_succ_cons,List.take_zero];refine b_el w.heap.size hA.len _ rfl rfl rfl (fun _ h=>h.blk ha) ?_;simp only [Act.put,List.setIfInBounds_toArray,List.set_cons_zero,List.set_cons_succ];refine b_el w.heap.size hA.len _ rfl rfl rfl (fun _ h=>h.blk ha) ?_;simp only [Act.put,List.setIfInBounds_toArray,List.set_cons_zero,List.set_cons_succ];refine b_fe rfl own_elmul (fun w1 _=>elmul_p hA hA w1) rfl rfl ?_
 intro r1 v1
 simp only [Act.put,List.setIfInBounds_toArray,List.set_cons_zero,List.set_cons_succ];refine wpB_nil ⟨(Us r1).toArray,fun _=>rfl,fun _=>rfl,(len_us v1.len).symm,size_el _ (len_us v1.len),Us_one _,fun gtwo W1 hgtwo hw1 hbtwo=>?_⟩;simp only [Exit.then,Act.put,List.setIfInBounds_toArray,List.set_cons_zero,List.set_cons_succ];refine hK _ _ ?_;clear hK K;have ha:=hw1.blk ha;have ho:=hw1.blk ho;have hbe:=below_up hbe hw1;clear hw1;refine wp_seq_k fun K hK=>?_;refine reg_var 6 4 110 (.tmp 13) z5 rfl rfl rfl rfl rfl rfl rfl (by kernel_rfl) (tail_ok (by kernel_rfl)) (by kernel_rfl) (fun _ _ d _ _ h=>by cases d <;> exact h) (exec_alloc rfl (by kernel_rfl)) ?_;simp only [List.take_succ_cons,List.take_zero];refine b_el gtwo v1.len _ rfl rfl rfl (fun _ h=>h.blk hbtwo) ?_;simp only [Act.put,List.setIfInBounds_toArray,List.set_cons_zero,List.set_cons_succ];refine b_fe rfl own_squared (fun w1 _=>squared_p v1 2 (by omega) w1) rfl rfl ?_
 intro r2 v2
 simp only [Act.put,List.setIfInBounds_toArray,List.set_cons_zero,List.set_cons_succ];refine b_el gtwo v1.len _ rfl rfl rfl (fun _ h=>h.blk hbtwo) ?_;simp only [Act.put,List.setIfInBounds_toArray,List.set_cons_zero,List.set_cons_succ];refine b_fe rfl own_elmul (fun w1 _=>elmul_p v2 v1 w1) rfl rfl ?_
 intro r3 v3
 simp only [Act.put,List.setIfInBounds_toArray,List.set_cons_zero,List.set_cons_succ];refine b_el w.heap.size hA.len _ rfl rfl rfl (fun _ h=>h.blk ha) ?_;simp only [Act.put,List.setIfInBounds_toArray,List.set_cons_zero,List.set_cons_succ];refine b_fe rfl own_elmul (fun w1 _=>elmul_p v3 hA w1) rfl rfl ?_
 intro r4 v4
 simp only [Act.put,List.setIfInBounds_toArray,List.set_cons_zero,List.set_cons_succ];refine wpB_nil ⟨(Us r4).toArray,fun _=>rfl,fun _=>rfl,(len_us v4.len).symm,size_el _ (len_us v4.len),Us_one _,fun geleven W1 hgeleven hw1 hbeleven=>?_⟩;simp only [Exit.then,Act.put,List.setIfInBounds_toArray,List.set_cons_zero,List.set_cons_succ];refine hK _ _ ?_;clear hK K;have ha:=hw1.blk ha;have hbtwo:=hw1.blk hbtwo;have ho:=hw1.blk ho;have hbe:=below_up hbe hw1;clear hw1;refine wp_seq_k fun K hK=>?_;refine reg_set 5 (.tmp 2) 110 (.tmp 18) rfl rfl rfl rfl (by kernel_rfl) (tail_ok (by kernel_rfl)) (fun _ _ d _ _ h=>by cases d <;> exact h) ?_;simp only [List.take_succ_cons,List.take_zero];refine b_el w.heap.size hA.len _ rfl rfl rfl (fun _ h=>h.blk ha) ?_;simp only [Act.put,List.setIfInBounds_toArray,List.set_cons_zero,List.set_cons_succ];refine b_fe rfl own_ones (fun w1 _=>ones_f hA1 w1) rfl rfl ?_
 intro r90 v90
 simp only [Act.put,List.setIfInBounds_toArray,List.set_cons_zero,List.set_cons_succ];refine b_fe rfl own_squared (fun w1 _=>squared_p v90 5 (by omega) w1) rfl rfl ?_
 intro r91 v91
 simp only [Act.put,List.setIfInBounds_toArray,List.set_cons_zero,List.set_cons_succ];refine b_el geleven v4.len _ rfl rfl rfl (fun _ h=>h.blk hbeleven) ?_;simp only [Act.put,List.setIfInBounds_toArray,List.set_cons_zero,List.set_cons_succ];refine b_fe rfl own_elmul (fun w1 _=>elmul_p v91 v4 w1) rfl rfl ?_
 intro r92 v92
 simp only [Act.put,List.setIfInBounds_toArray,List.set_cons_zero,List.set_cons_succ];refine wpB_nil ⟨(w.heap.size + 1),_,_,rfl,rfl,ho,(len_us v92.len).symm,size_el _ (len_us v92.len),Us_one _,fun W1 hw1=>?_⟩;simp only [Exit.then];refine hK _ _ ?_;clear hK K;have ho:=hw1.blk ho;have hbe:=below_up hbe hw1;refine wp_ret ?_;refine bodyPost_ret (results_cell_row rfl _ _ (w.heap.size + 1) 110 (Us r92).toArray (0,0) _ rfl (ho.row _) Tryz.underlying110 rfl (size_el _ (len_us v92.len))) rfl ⟨r92,inv_end v92,rfl,?_⟩;exact below_setRow hbe (by omega) _
 -- end inv
end Go.Proofs.YtlcbhbahchiofaaGreatDoor
/-
  THE FIELD'S NUMBERS: '==' of the numbers below p; is, Odd.
-/
namespace Go.Proofs.YtlcbhbahchiofaaGreatDoor
open Go.RowKit Go.IntWalk Nums

theorem info64 : (Tryz.prog.info? 51).map (fun i=>(i.zero,i.size,i.bytes)) = some (some (.int .u64 0),1,8):=by kernel_rfl

theorem partU_at (w : World) (l : List Nat) (i : Nat) (hi : i < l.length) : (part 51 (Us l).toArray (i * 1)).run Tryz.prog w = .ok (.int .u64 (l[i] : Nat)) w:=by
 have hagg : (isAgg 51).run Tryz.prog w = .ok false w:=by
  unfold isAgg
  rw [Sem.run_bind,run_underlying Tryz.underlying51 w]
  rfl
 have hc : (Us l)[i]? = some (.int .u64 (l[i] : Nat)):=by simp [Us,List.getElem?_eq_getElem hi]
 unfold part
 simp [Sem.run_bind,hagg,hc,Sem.run_pure]

theorem oneU_eq (d x y : Nat) (w : World) : (Op.equalIn (d + 1) 51 (.int .u64 (x : Int)) (.int .u64 (y : Int))).run Tryz.prog w = .ok (decide (x = y)) w:=by
 simp [Op.equalIn,run_underlying Tryz.underlying51]
 by_cases h : x = y
 ·simp [h]
 ·simp [h]
  omega

set_option maxRecDepth 20000 in
theorem equalIn_words (d n t : Nat) (l m : List Nat) (ht : Tryz.prog.underlying t = some (.array n 51)) (hl : l.length = n) (hm : m.length = n) (w : World) :
  (Op.equalIn (d + 2) t (.agg (Us l).toArray) (.agg (Us m).toArray)).run Tryz.prog w = .ok (decide (l = m)) w:=by
 obtain ⟨i0,hi0,hz0,hz1,hz2⟩:=info_parts info64
 have hI : ∀ (I : List Nat),(∀ i ∈ I,i < n) → (forIn I ((none : Option Bool),()) fun i _=>do
   let a ← part 51 (Us l).toArray (i * 1)
   let b ← part 51 (Us m).toArray (i * 1)
   let r ← Op.equalIn (d + 1) 51 a b
   if (!r) = true then pure (ForInStep.done (some false,())) else pure (ForInStep.yield (none,()))).run Tryz.prog w = .ok (if ∀ i ∈ I,l[i]! = m[i]! then (none,()) else (some false,())) w:=by
  intro I
  induction I with
  | nil=>intro _; simp [Sem.run_pure]
  | cons i I ih =>
   intro h
   have hi : i < l.length:=by have:=h i (by simp); omega
   have hj : i < m.length:=by have:=h i (by simp); omega
   have hp:=partU_at w l i hi;have hq:=partU_at w m i hj;have he:=oneU_eq d l[i] m[i] w;have e1 : l[i]! = l[i]:=getElem!_pos l i hi;have e2 : m[i]! = m[i]:=getElem!_pos m i hj
   by_cases hx : l[i] = m[i]
   ·rw [show decide (l[i] = m[i]) = true by simp [hx]] at he
    simp only [List.forIn_cons,Sem.run_bind,hp,hq,Result.andThen_ok,he,Bool.not_true,Bool.false_eq_true,if_false,Sem.run_pure];rw [ih (fun j hj=>h j (by simp [hj]))]
    congr 1
    by_cases ha : ∀ i ∈ I,l[i]! = m[i]!
    ·have hb : ∀ j ∈ i :: I,l[j]! = m[j]!:=by
      intro j hj
      rcases List.mem_cons.mp hj with rfl | hj
      ·rw [e1,e2,hx]
      ·exact ha j hj
     rw [if_pos ha,if_pos hb]
    ·rw [if_neg ha,if_neg (fun hb=>ha fun j hj=>hb j (List.mem_cons_of_mem _ hj))]
   ·rw [show decide (l[i] = m[i]) = false by simp [hx]] at he
    simp only [List.forIn_cons,Sem.run_bind,hp,hq,Result.andThen_ok,he,Bool.not_false,if_true,Sem.run_pure];rw [if_neg (fun hb=>hx (by have:=hb i (List.mem_cons_self ..); rw [e1,e2] at this; exact this))]
 rw [Op.equalIn];simp only [Sem.run_bind,run_underlying ht,Result.andThen_ok,sizeOf,typeInfo,run_program,hi0,hz1,Sem.run_pure,Std.Legacy.Range.forIn_eq_forIn_range']
 rw [hI _ (fun i hi=>by
  have:=List.mem_range'_1.1 hi
  simp [Std.Legacy.Range.size] at this
  omega)]
 by_cases hlm : l = m
 ·subst hlm
  simp [Sem.run_pure]
 ·have hne : ¬ ∀ i ∈ List.range' 0 n 1,l[i]! = m[i]!:=fun ha=>hlm (by
   apply List.ext_getElem (by rw [hl,hm])
   intro i h1 h2
   have:=ha i (List.mem_range'_1.2 (by omega))
   rwa [getElem!_pos l i h1,getElem!_pos m i h2] at this)
  have hs : Std.Legacy.Range.size [:n] = n:=by simp [Std.Legacy.Range.size]
  rw [hs,if_neg hne,show decide (l = m) = false by simp [hlm]]
  rfl

theorem partEl (w : World) (l : List Nat) (hl : l.length = 5) : (part 108 (Us l).toArray 0).run Tryz.prog w = .ok (.agg (Us l).toArray) w:=by
 have hagg : (isAgg 108).run Tryz.prog w = .ok true w:=by
  unfold isAgg
  rw [Sem.run_bind,run_underlying Tryz.underlying108 w]
  rfl
 have hs : (sizeOf 108).run Tryz.prog w = .ok 5 w:=by kernel_rfl
 have he : (Us l).toArray.extract 0 (0 + 5) = (Us l).toArray:=by
  apply Array.ext'
  simp only [List.extract_toArray,List.extract_eq_take_drop,Nat.zero_add,Nat.sub_zero,List.drop_zero];exact List.take_of_length_le (by rw [Us_len,hl]; exact Nat.le_refl _)
 unfold part
 simp only [Sem.run_bind,hagg,Result.andThen_ok,if_true,hs,Sem.run_pure,he]

theorem run_field_el (l : List Nat) (hl : l.length = 5) (w : World) : (Instr.field 110 (.agg (Us l).toArray) 0).run Tryz.prog w = .ok (.agg (Us l).toArray) w:=by
 have hp:=partEl w l hl
 unfold Instr.field
 simp only [Sem.run_bind,run_underlying Tryz.underlying110,Result.andThen_ok];exact hp

theorem equal_el (l m : List Nat) (hl : l.length = 5) (hm : m.length = 5) (w : World) :
  (Op.equalIn 10000 110 (.agg (Us l).toArray) (.agg (Us m).toArray)).run Tryz.prog w = .ok (decide (l = m)) w:=by
 have he:=equalIn_words 9997 5 108 l m Tryz.underlying108 hl hm w
 have hst : Tryz.prog.stoodInHeld 110 = false:=by kernel_rfl
 rw [Op.equalIn];simp only [Sem.run_bind,run_underlying Tryz.underlying110,Result.andThen_ok,run_program,hst];have he' : (Op.equalIn 9999 108 (.agg (Us l).toArray) (.agg (Us m).toArray)).run Tryz.prog w = .ok (decide (l = m)) w:=he;rw [if_neg (by decide)];have hp:=partEl w l hl;have hq:=partEl w m hm;generalize decide (l = m) = q at *
 cases q <;> simp [Sem.run_bind,hp,hq,he',Sem.run_pure]

theorem lv_inj : ∀ {a b : List Nat},a.length = b.length → (∀ y ∈ a,y < 2251799813685248) → (∀ y ∈ b,y < 2251799813685248) → lv a = lv b → a = b
 | [],[],_,_,_,_=>rfl
 | x :: a,y :: b,hl,ha,hb,h=>by
  have h1:=ha x (List.mem_cons_self ..);have h2:=hb y (List.mem_cons_self ..);have h3 : x + 2251799813685248 * lv a = y + 2251799813685248 * lv b:=h
  have h4 : x = y:=by omega
  have h5 : lv a = lv b:=by omega
  rw [h4,lv_inj (by simpa using hl) (fun z hz=>ha z (List.mem_cons_of_mem _ hz)) (fun z hz=>hb z (List.mem_cons_of_mem _ hz)) h5]

theorem whole_iff {a b : List Nat} {x y : F} (ha : EB a x) (hb : EB b y) : whole a = whole b ↔ x = y:=by
 obtain ⟨l1,b1,v1⟩:=whole_all ha;obtain ⟨l2,b2,v2⟩:=whole_all hb
 constructor
 ·intro h
  apply Fin.ext
  rw [← v1,← v2,h]
 ·rintro rfl
  exact lv_inj (by rw [l1,l2]) b1 b2 (by rw [v1,v2])

set_option maxRecDepth 100000 in
set_option maxHeartbeats 1000000 in
theorem is_f {a b : List Nat} {x y : F} (ha : EB a x) (hb : EB b y) (w : World) :
  Calls Tryz.prog 109 #[.agg (Us a).toArray,.agg (Us b).toArray] w fun e w'=>e = .returned (.bool (decide (x = y))) ∧ Below w.heap.size w w':=by
 have hq : decide (x = y) = decide (whole a = whole b):=decide_eq_decide.2 (whole_iff ha hb).symm;rw [hq];clear hq;have l1:=(whole_all ha).1;have l2:=(whole_all hb).1;have hE:=fun w1=>equal_el (whole a) (whole b) l1 l2 w1;have H1:=fun w1=>whole_f ha w1;have H2:=fun w1=>whole_f hb w1;generalize decide (whole a = whole b) = q at *;generalize whole a = u at *;generalize whole b = v at *;have hza:=ha.len;have hzb:=hb.len;have h0 : Blk ((w.alloc (Obj.cells (Us a).toArray 110)).alloc (Obj.cells (Us b).toArray 110)) w.heap.size 110 (Us a).toArray:=heap_alloc2_old w _ _;have h1 : Blk ((w.alloc (Obj.cells (Us a).toArray 110)).alloc (Obj.cells (Us b).toArray 110)) (w.heap.size + 1) 110 (Us b).toArray:=heap_alloc2_new w _ _;have hbel : Below w.heap.size w ((w.alloc (Obj.cells (Us a).toArray 110)).alloc (Obj.cells (Us b).toArray 110)):=((Below.refl _ _).alloc (Nat.le_refl _) _).alloc (by simp) _;clear ha hb
 go_enter Tryz.func109,Tryz.ntmps109
 go_wp2
 refine reg_q (by kernel_rfl) (tail_ok (by kernel_rfl)) (fun _ _ d _ _ h=>by cases d <;> exact h) ?_;refine b_el w.heap.size hza _ rfl rfl rfl (fun _ h=>h.blk h0) ?_; simp only [Act.put,List.setIfInBounds_toArray,List.set_cons_zero,List.set_cons_succ];refine b_one rfl own_whole (fun w1=>H1 w1) rfl rfl ?_; simp only [Act.put,List.setIfInBounds_toArray,List.set_cons_zero,List.set_cons_succ];refine b_el (w.heap.size + 1) hzb _ rfl rfl rfl (fun _ h=>h.blk h1) ?_; simp only [Act.put,List.setIfInBounds_toArray,List.set_cons_zero,List.set_cons_succ];refine b_one rfl own_whole (fun w1=>H2 w1) rfl rfl ?_; simp only [Act.put,List.setIfInBounds_toArray,List.set_cons_zero,List.set_cons_succ];refine b_eq (Us u).toArray (Us v).toArray rfl rfl rfl rfl (by kernel_rfl) hE ?_; simp only [Act.put,List.setIfInBounds_toArray,List.set_cons_zero,List.set_cons_succ];refine b_assign rfl rfl ?_; simp only [Act.put,List.setIfInBounds_toArray,List.set_cons_zero,List.set_cons_succ];refine wpB_nil ?_
 intro w1 hw1
 have hb2:=below_up hbel hw1
 go_wp2
 go_ret
 exact ⟨rfl,hb2⟩

theorem whole_odd {a : List Nat} {x : F} (ha : EB a x) : (whole a)[0]! % 2 = x.val % 2:=by
 obtain ⟨l1,_,v1⟩:=whole_all ha;obtain ⟨a0,a1,a2,a3,a4,h⟩:=five l1;rw [← v1,h,lv5]
 show a0 % 2 = _
 omega

set_option maxRecDepth 100000 in
set_option maxHeartbeats 1000000 in
theorem odd_f {a : List Nat} {x : F} (ha : EB a x) (w : World) :
  Calls Tryz.prog 80 #[.agg (Us a).toArray] w fun e w'=>e = .returned (.bool (decide (x.val % 2 = 1))) ∧ Below w.heap.size w w':=by
 have ho:=whole_odd ha;obtain ⟨l1,l2,_⟩:=whole_all ha;have H1:=fun w1=>Lib.hid (whole_f ha w1);rw [← ho];clear ho;obtain ⟨a0,a1,a2,a3,a4,h⟩:=five l1;rw [h] at H1 l2 ⊢;have ha0 : a0 < 2251799813685248:=l2 a0 (by simp);have e0 : (Us [a0,a1,a2,a3,a4]).toArray = #[.int .u64 (a0 : Int),.int .u64 (a1 : Int),.int .u64 (a2 : Int),.int .u64 (a3 : Int),.int .u64 (a4 : Int)]:=rfl;have e1 : [a0,a1,a2,a3,a4][0]! = a0:=rfl;rw [e1];rw [e0] at H1;have hza:=len_us ha.len;have h0:=Blk.new w 110 (Us a).toArray;have hbel : Below w.heap.size w (w.alloc (Obj.cells (Us a).toArray 110)):=(Below.refl _ _).alloc (Nat.le_refl _) _
 have hand : bits .and .u64 (a0 : Int) 1 = ((a0 % 2 : Nat) : Int):=by
  have h:=u64_and_nat a0 1 (by omega) (by omega);rw [nat_mask1] at h;exact h
 go_enter Tryz.func80,Tryz.ntmps80
 go_wp2_with (refine wpList_load_row rfl 110 _ rfl w.heap.size rfl 110 (Us a).toArray (0,0) _ h0 Tryz.underlying110 rfl (size_el _ hza) ?_)
 refine (H1 _).out.mono ?_
 rintro e w1 ⟨rfl,hw1⟩
 have hb2:=below_up hbel hw1
 have hfl : ∀ w1,(Instr.field 110 (.agg #[.int .u64 (a0 : Int),.int .u64 (a1 : Int),.int .u64 (a2 : Int),.int .u64 (a3 : Int),.int .u64 (a4 : Int)]) 0).run Tryz.prog w1 = .ok (.agg #[.int .u64 (a0 : Int),.int .u64 (a1 : Int),.int .u64 (a2 : Int),.int .u64 (a3 : Int),.int .u64 (a4 : Int)]) w1 :=
  fun w1=>run_field_el [a0,a1,a2,a3,a4] rfl w1
 have hix : ∀ w1,(Instr.index 108 (.agg #[.int .u64 (a0 : Int),.int .u64 (a1 : Int),.int .u64 (a2 : Int),.int .u64 (a3 : Int),.int .u64 (a4 : Int)]) (.int .i64 0)).run Tryz.prog w1 = .ok (.int .u64 (a0 : Int)) w1:=fun w1=>by kernel_rfl
 have hdec : (((a0 % 2 : Nat) : Int) == 1) = decide (a0 % 2 = 1):=by
  rw [Bool.eq_iff_iff]
  simp
  omega
 generalize ha2 : a0 % 2 = m at hand;rw [ha2] at hdec;have HD:=Lib.hid (show decide (m = 1) = decide (a0 % 2 = 1) by rw [ha2]);clear ha2
 go_wp2
 go_ret
 exact ⟨congrArg (fun q=>Ending.returned (Value.bool q)) HD.out,hb2⟩
end Go.Proofs.YtlcbhbahchiofaaGreatDoor
