/-
  SEVERAL TEXTS IN ONE: Wide, ScHash, ScOps, ScOwn, LawS, ShaP, Rot64, Long512, Turn512, Lay512, Clear, End512.
-/
import Derived.Test.YtlcbhbahchiofaaGreatDoorMj
import Derived.Test.YtlcbhbahchiofaaGreatDoorMe
import Derived.Deep.QuietTactic
import Derived.Test.YtlcbhbahchiofaaGreatDoorMg
import Derived.Test.YtlcbhbahchiofaaGreatDoorMb
import Derived.Test.YtlcbhbahchiofaaGreatDoorMa
import Derived.Test.YtlcbhbahchiofaaGreatDoorMc
import Derived.StillTailTactics
/-
  THE PROGRAM'S SCALARS: Wide: 64 bytes modulo L.
-/
namespace Go.Proofs.YtlcbhbahchiofaaGreatDoor
open Go.RowKit Go.IntWalk Nums

theorem own_next : Own 66:=fun _ _=>by go_simp

theorem size_w64 (cs : Array Value) (h : cs.size = 64) : (Tryz.prog.info? 43).map (·.size) = some cs.size:=by
 rw [h]
 kernel_rfl
theorem len_b64 {l : List UInt8} (h : l.length = 64) : (By l).toArray.size = 64:=by rw [List.size_toArray,By_len,h]

theorem le_cons4 {l : List UInt8} {i : Nat} (h : i + 4 ≤ l.length) : le (l.drop i) = (l[i]!).toNat + 256 * (l[i + 1]!).toNat + 65536 * (l[i + 2]!).toNat + 16777216 * (l[i + 3]!).toNat + 4294967296 * le (l.drop (i + 4)):=by
 have e : ∀ k k',k < l.length → k' = k + 1 → le (l.drop k) = (l[k]!).toNat + 256 * le (l.drop k'):=fun k k' hk h=>by
  rw [h,List.drop_eq_getElem_cons hk,getElem!_pos l k hk]
  rfl
 have e0:=e i (i + 1) (by omega) rfl;have e1:=e (i + 1) (i + 2) (by omega) rfl;have e2:=e (i + 2) (i + 3) (by omega) rfl;have e3:=e (i + 3) (i + 4) (by omega) rfl;rw [e0,e1,e2,e3]
 omega
theorem orL (i x y : Nat) (hx : x < 2 ^ i) (hy : y % 2 ^ i = 0) (h1 : x < 18446744073709551616) (h2 : y < 18446744073709551616) : bits .or .u64 (x : Int) (y : Int) = ((x + y : Nat) : Int):=by
 rw [u64_or_nat x y h1 h2,Nat.or_comm,nat_join i y x hy hx,Nat.add_comm]
theorem wide_step (X h L : Nat) : (4294967296 * (X % L) + 1 * h) % L = (h + 4294967296 * X) % L:=by
 rw [Nat.one_mul,Nat.add_comm h,Nat.add_mod,Nat.mul_mod_mod,← Nat.add_mod]

structure WS (w wr : World) (l : List UInt8) (n : Nat) : Prop where
  b0 : Blk wr w.heap.size 43 (By l).toArray
  b1 : Blk wr (w.heap.size + 1) 87 z4
  b2 : Blk wr (w.heap.size + 1 + 1) 87 (Us (ws n)).toArray
  be : Below w.heap.size w wr
theorem WS.drew {w wr : World} {l : List UInt8} {n : Nat} (h : WS w wr l n) : WS w wr.drew l n:=⟨h.b0,h.b1,h.b2,h.be.drew⟩
theorem WS.up {w wr w1 : World} {l : List UInt8} {n : Nat} (h : WS w wr l n) (k : Up wr w1) : WS w w1 l n:=⟨k.blk h.b0,k.blk h.b1,k.blk h.b2,below_up h.be k⟩
theorem WS.set {w wr : World} {l : List UInt8} {n : Nat} (h : WS w wr l n) (m : Nat) : WS w (wr.setRow (w.heap.size + 1 + 1) (Us (ws m)).toArray) l m :=
 ⟨h.b0.rowFar (by omega) _,h.b1.rowFar (by omega) _,h.b2.row _,below_setRow h.be (by omega) _⟩

theorem ws_1 : ws 1 = [1,0,0,0]:=by decide

set_option maxRecDepth 100000 in
set_option maxHeartbeats 2000000 in
theorem wide_f {l : List UInt8} (hl : l.length = 64) (w : World) :
  Calls Tryz.prog 59 #[.agg (By l).toArray] w fun e w'=>e = .returned (.agg (Us (ws (le l % LL))).toArray) ∧ Below w.heap.size w w':=by
 have hz:=len_b64 hl
 go_enter Tryz.func59,Tryz.ntmps59
 refine wp_seq_k fun K hK=>?_;refine wp_region_lit ?_;refine wpl_box (By l).toArray rfl rfl rfl ?_;refine wpl_alloc (zs:=z4) rfl rfl (by kernel_rfl) ?_;refine wpl_nil ?_
 go_simp
 refine hK _ _ ?_;clear hK K;refine wp_seq_k fun K hK=>?_;refine wp_region_lit ?_;refine wpl_alloc (zs:=z4) rfl rfl (by kernel_rfl) ?_;refine wpl_nil ?_
 go_simp
 refine hK _ _ ?_;clear hK K;refine wp_at (fun W=>WS w W l 0) ⟨blk3_0 w _ _ _ _,blk3_1 w _ _ _ _,blk3_2 w _ _ _ _,(((Below.refl _ _).alloc (Nat.le_refl _) _).alloc (by simp) _).alloc (by simp; omega) _⟩ ?_
 intro W hW
 have HW:=Lib.hid hW;clear hW
 go_wp2
 go_loopw [4] (fun i wr=>∃ k : Nat,k ≤ 16 ∧ i = .int .i64 (4 * (k : Int) - 4) ∧ WS w wr l (le (l.drop (4 * k)) % LL)) (fun i _=>(intOf i + 4).toNat)
 case atStart =>
  refine ⟨16,by omega,rfl,?_⟩;rw [List.drop_of_length_le (by omega)];exact HW.out
 case round =>
  clear HW;obtain ⟨k,hk,rfl,hS⟩:=hrel
  by_cases hlt : 0 < k
  ·obtain ⟨i,rfl⟩ : ∃ i,k = i + 1:=⟨k - 1,by omega⟩
   have e0 : 4 * ((i + 1 : Nat) : Int) - 4 = ((4 * i : Nat) : Int):=by omega
   rw [e0];have hle:=le_cons4 (l:=l) (i:=4 * i) (by omega)
   have e4 : 4 * (i + 1) = 4 * i + 4:=by omega
   rw [e4] at hS;have hn:=fun w1 h hh=>next_f (A:=le (l.drop (4 * i + 4)) % LL) (B:=1) (h:=h) (Nat.mod_lt _ (by decide)) (by decide) hh w1;rw [ws_1,cell4] at hn;have c0:=(hS.b0.cell (4 * i)).trans (By_get (by omega));have c1:=(hS.b0.cell (4 * i + 1)).trans (By_get (by omega));have c2:=(hS.b0.cell (4 * i + 2)).trans (By_get (by omega));have c3:=(hS.b0.cell (4 * i + 3)).trans (By_get (by omega));have x0:=(l[4 * i]!).toNat_lt;have x1:=(l[4 * i + 1]!).toNat_lt;have x2:=(l[4 * i + 2]!).toNat_lt;have x3:=(l[4 * i + 3]!).toNat_lt;generalize (l[4 * i]!).toNat = y0 at *;generalize (l[4 * i + 1]!).toNat = y1 at *;generalize (l[4 * i + 2]!).toNat = y2 at *;generalize (l[4 * i + 3]!).toNat = y3 at *;obtain ⟨s1,hs1⟩ : ∃ s,s = y0 + y1 * 256:=⟨_,rfl⟩;obtain ⟨s2,hs2⟩ : ∃ s,s = s1 + y2 * 65536:=⟨_,rfl⟩;obtain ⟨s3,hs3⟩ : ∃ s,s = s2 + y3 * 16777216:=⟨_,rfl⟩
   have q1 : bits .or .u64 (y0 : Int) ((y1 : Int) * 256) = (s1 : Int):=by
    rw [hs1,← orL 8 y0 (y1 * 256) (by omega) (by omega) (by omega) (by omega)]
    rfl
   have q2 : bits .or .u64 (s1 : Int) ((y2 : Int) * 65536) = (s2 : Int):=by
    rw [hs2,← orL 16 s1 (y2 * 65536) (by omega) (by omega) (by omega) (by omega)]
    rfl
   have q3 : bits .or .u64 (s2 : Int) ((y3 : Int) * 16777216) = (s3 : Int):=by
    rw [hs3,← orL 24 s2 (y3 * 16777216) (by omega) (by omega) (by omega) (by omega)]
    rfl
   have hn3:=fun w1=>Lib.hid (hn w1 s3 (by omega))
   have hres : (4294967296 * (le (l.drop (4 * i + 4)) % LL) + 1 * s3) % LL = le (l.drop (4 * i)) % LL:=by
    rw [wide_step,hle]
    congr 1
    omega
   rw [hres] at hn3
   have k1 : IntKind.i64.wrap (((4 * i : Nat) : Int) + 1) = ((4 * i + 1 : Nat) : Int):=by rw [i64_left,wrap64_in _ (by omega)]; omega
   have k2 : IntKind.i64.wrap (((4 * i : Nat) : Int) + 2) = ((4 * i + 2 : Nat) : Int):=by rw [i64_left,wrap64_in _ (by omega)]; omega
   have k3 : IntKind.i64.wrap (((4 * i : Nat) : Int) + 3) = ((4 * i + 3 : Nat) : Int):=by rw [i64_left,wrap64_in _ (by omega)]; omega
   have g0 : ((4 * i : Nat) : Int) < 64:=by omega
   have g1 : ((4 * i + 1 : Nat) : Int) < 64:=by omega
   have g2 : ((4 * i + 2 : Nat) : Int) < 64:=by omega
   have g3 : ((4 * i + 3 : Nat) : Int) < 64:=by omega
   have HS:=Lib.hid hS
   have hA : 4 * i ≤ 60:=by omega
   have HE:=Lib.hid (show ((4 * i : Nat) : Int) = 4 * (i : Int) ∧ i ≤ 15 from ⟨by omega,by omega⟩);clear hS hle hn hs1 hs2 hs3 hres e0 e4 hk hlt;generalize le (l.drop (4 * i + 4)) % LL = X at *;generalize hY : le (l.drop (4 * i)) % LL = Y at *;generalize 4 * i + 1 = A1 at *;generalize 4 * i + 2 = A2 at *;generalize 4 * i + 3 = A3 at *;generalize hA0 : 4 * i = A at *
   go_wp2
   go_region
   have h2:=HS.out.drew.b2
   go_wp2_with (refine wpList_load_row rfl 87 _ rfl (w.heap.size + 1 + 1) rfl 87 (Us (ws X)).toArray (0,0) _ h2 Tryz.underlying87 rfl (size_sc _ (len_u4 (ws_len X))) ?_)
   clear h2;refine (hn3 _).out.mono ?_
   rintro e w1 ⟨rfl,hw1⟩
   have h3:=HS.out.drew.up hw1;have h2:=h3.b2;have H3:=Lib.hid (h3.set Y);clear h3 hw1 HS hn3
   go_wp2_with (refine wpList_store_row rfl 87 _ _ rfl (w.heap.size + 1 + 1) rfl (Us (ws Y)).toArray rfl 87 _ h2 (size_sc _ (len_u4 (ws_len Y))) (by rw [len_u4 (ws_len X),len_u4 (ws_len Y)]) (Us_one _) ?_)
   go_roundw
   case rel =>
    refine ⟨i,by have:=HE.out; omega,by have:=HE.out; go_num,?_⟩;rw [hA0,hY];exact H3.out
   case measure=>have:=HE.out; simp [intOf]; omega
  ·obtain rfl : k = 0:=by omega
   have e0 : l.drop (4 * 0) = l:=rfl;rw [e0] at hS;obtain ⟨b0,b1,b2,be⟩:=hS;have hzs:=len_u4 (ws_len (le l % LL));clear b0
   go_wp2_with (first
    | (refine wpList_load_row rfl 87 _ rfl (w.heap.size + 1 + 1) rfl 87 (Us (ws (le l % LL))).toArray (0,0) _ b2 Tryz.underlying87 rfl (size_sc _ hzs) ?_)
    | (refine wpList_store_row rfl 87 _ _ rfl (w.heap.size + 1) rfl (Us (ws (le l % LL))).toArray rfl 87 _ b1 (size_sc _ hzs) (by rw [hzs]; rfl) (Us_one _) ?_))
   refine bodyPost_ret (results_cell_row rfl _ _ (w.heap.size + 1) 87 (Us (ws (le l % LL))).toArray (0,0) _ rfl (b1.row _) Tryz.underlying87 rfl (size_sc _ hzs)) rfl ⟨rfl,?_⟩;exact below_setRow be (by omega) _
end Go.Proofs.YtlcbhbahchiofaaGreatDoor
/-
  THE PROGRAM'S SCALARS: Hash: the bytes of four words.
-/
namespace Go.Proofs.YtlcbhbahchiofaaGreatDoor
open Go.RowKit Go.IntWalk Nums

theorem ws_wd (n : Nat) {k : Nat} (hk : k < 4) : (ws n)[k]! = wd n k:=by
 have h4 : k = 0 ∨ k = 1 ∨ k = 2 ∨ k = 3:=by omega
 rcases h4 with rfl | rfl | rfl | rfl
 ·show n % 18446744073709551616 = n / 1 % 18446744073709551616
  rw [Nat.div_one]
 ·rfl
 ·rfl
 ·rfl

structure HS4 (w wr : World) (a : List Nat) (b : List UInt8) (n : Nat) : Prop where
  b0 : Blk wr w.heap.size 87 (Us a).toArray
  b1 : Blk wr (w.heap.size + 1) 45 z32
  b2 : Blk wr (w.heap.size + 1 + 1) 45 (By (fb b n)).toArray
  be : Below w.heap.size w wr
theorem HS4.set {w wr : World} {a : List Nat} {b : List UInt8} {n : Nat} (h : HS4 w wr a b n) : HS4 w (wr.setCell ⟨w.heap.size + 1 + 1,n,none⟩ (.int .u8 ((b[n]!).toNat : Int))) a b (n + 1) where
 b0:=h.b0.far (by show w.heap.size ≠ w.heap.size + 1 + 1; omega) _
 b1:=h.b1.far (by show w.heap.size + 1 ≠ w.heap.size + 1 + 1; omega) _
 b2:=by
  have h4:=h.b2.set n (.int .u8 ((b[n]!).toNat : Int));rw [By_set,fb_set] at h4;exact h4
 be:=h.be.setCell (by show w.heap.size ≤ w.heap.size + 1 + 1; omega) _

set_option maxRecDepth 100000 in
set_option maxHeartbeats 1000000 in
theorem schash_f (n : Nat) (w : World) :
  Calls Tryz.prog 54 #[.agg (Us (ws n)).toArray] w fun e w'=>e = .returned (.agg (By (Nums.bytes 32 n)).toArray) ∧ Below w.heap.size w w':=by
 have hbyte : ∀ m,m < 32 → ((Nums.bytes 32 n)[m]!).toNat = (ws n)[m / 8]! / 2 ^ (m % 8 * 8) % 256:=fun m hm=>by
  rw [bytes_get 32 n hm,ws_wd n (by omega),Nat.mul_comm (m % 8),wd_byte _ _ _ (by omega)]
  congr 3
  omega
 have hbl : (Nums.bytes 32 n).length = 32:=bytes_len _ _;have ha:=fun k=>ws_get_lt n (k:=k);have la:=ws_len n;generalize Nums.bytes 32 n = b at *;generalize ws n = a at *
 go_enter Tryz.func54,Tryz.ntmps54
 go_wp2
 go_loopw [5] (fun i wr=>∃ k : Nat,k ≤ 32 ∧ i = .int .i64 k ∧ HS4 w wr a b k) (fun i _=>32 - (intOf i).toNat)
 case atStart =>
  refine ⟨0,by omega,rfl,blk3_0 w _ _ _ _,blk3_1 w _ _ _ _,?_,(((Below.refl _ _).alloc (Nat.le_refl _) _).alloc (by simp) _).alloc (by simp; omega) _⟩;rw [fb_zero];exact blk3_2 w _ _ _ _
 case round =>
  obtain ⟨m,hm,rfl,hS⟩:=hrel
  by_cases hlt : m < 32
  ·have hN:=hS.set
   have c0:=(hS.b0.cell (m / 8)).trans (Us_at (by omega));have hc:=(hS.b2.cell m).trans (By_get (by rw [fb_len]; omega));have hf:=hS.b2.free m;have hb:=hbyte m hlt;have qd : (m : Int).tdiv 8 = ((m / 8 : Nat) : Int):=rfl;have qm : (m : Int).tmod 8 = ((m % 8 : Nat) : Int):=rfl
   have qt : IntKind.i64.wrap (((m % 8 : Nat) : Int) * 8) = ((m % 8 * 8 : Nat) : Int):=by rw [i64_left,wrap64_in _ (by omega)]; omega
   have g1 : ((m / 8 : Nat) : Int) < 4:=by omega
   have g2 : ((m % 8 * 8 : Nat) : Int) ≤ 64:=by omega
   have g5 : (0 : Int) ≤ (m : Int):=by omega
   generalize a[m / 8]! = W at *;generalize m / 8 = q at *;generalize hs : m % 8 * 8 = s at *
   have q4 : IntKind.u8.wrap ((W : Int) / 2 ^ s) = ((b[m]!).toNat : Int):=by
    have f1 : ((W : Int) / 2 ^ s) = ((W / 2 ^ s : Nat) : Int):=by simp
    rw [f1,IntKind.wrap_u8',hb]
    omega
   have HN:=Lib.hid hN;clear hS hbyte hb hN hs ha;generalize (fb b m)[m]! = old at *;generalize (b[m]!).toNat = y at *;generalize m % 8 = r at *
   go_wp2
   go_roundw
   case rel=>exact ⟨m + 1,by omega,by go_num,HN.out⟩
   case measure=>simp [intOf]; omega
  ·obtain rfl : m = 32:=by omega
   obtain ⟨_,b1,b2,be⟩:=hS;rw [fb_all hbl] at b2;have hz:=len_by hbl
   go_wp2_with (first
    | (refine wpList_load_row rfl 45 _ rfl (w.heap.size + 1 + 1) rfl 45 (By b).toArray (0,0) _ b2 Tryz.underlying45 rfl (size_hash _ hz) ?_)
    | (refine wpList_store_row rfl 45 _ _ rfl (w.heap.size + 1) rfl (By b).toArray rfl 45 _ b1 (size_hash _ hz) (by rw [hz]; rfl) (By_one _) ?_))
   refine bodyPost_ret (results_cell_row rfl _ _ (w.heap.size + 1) 45 (By b).toArray (0,0) _ rfl (b1.row _) Tryz.underlying45 rfl (size_hash _ hz)) rfl ⟨rfl,?_⟩;exact below_setRow be (by omega) _
end Go.Proofs.YtlcbhbahchiofaaGreatDoor
/-
  THE PROGRAM'S SCALARS: Add and Mul.
-/
namespace Go.Proofs.YtlcbhbahchiofaaGreatDoor
open Go.RowKit Go.IntWalk Nums

set_option maxRecDepth 100000 in
set_option maxHeartbeats 1000000 in
theorem scadd_f {x y : Nat} (hx : x < LL) (hy : y < LL) (w : World) :
  Calls Tryz.prog 52 #[.agg (Us (ws x)).toArray,.agg (Us (ws y)).toArray] w fun e w'=>e = .returned (.agg (Us (ws ((x + y) % LL))).toArray) ∧ Below w.heap.size w w':=by
 rw [LL_eq] at hx hy
 have hx2 : x < 115792089237316195423570985008687907853269984665640564039457584007913129639936:=by omega
 have hy2 : y < 115792089237316195423570985008687907853269984665640564039457584007913129639936:=by omega
 have hs2 : x + y < 115792089237316195423570985008687907853269984665640564039457584007913129639936:=by omega
 have HS:=fun w1=>wsum_f hx2 hy2 w1;rw [Nat.mod_eq_of_lt hs2] at HS;obtain ⟨a0,a1,a2,a3,_,wA,_⟩:=ws_cut hx2;obtain ⟨b0,b1,b2,b3,_,wB,_⟩:=ws_cut hy2;obtain ⟨s0,s1,s2,s3,eS,wS,q0,q1,q2,q3⟩:=ws_cut hs2;have HR:=fun w1=>red_f q0 q1 q2 q3 (u:=0) (by omega) w1;rw [← eS,Nat.mul_zero,Nat.add_zero] at HR;rw [wA,wB,wS,cell4,cell4,cell4] at HS;rw [wA,wB,cell4,cell4];have HS:=fun w1=>Lib.hid (HS w1);have HR:=fun w1=>Lib.hid (HR w1);have hz:=len_u4 (ws_len ((x + y) % LL));clear hx hy hx2 hy2 hs2 wA wB wS eS q0 q1 q2 q3;generalize ws ((x + y) % LL) = r at *;have k2:=blk3_2 w 87 z4 (.cells #[.int .u64 (a0 : Int),.int .u64 (a1 : Int),.int .u64 (a2 : Int),.int .u64 (a3 : Int)] 87) (.cells #[.int .u64 (b0 : Int),.int .u64 (b1 : Int),.int .u64 (b2 : Int),.int .u64 (b3 : Int)] 87)
 have hbe : Below w.heap.size w (((w.alloc (.cells #[.int .u64 (a0 : Int),.int .u64 (a1 : Int),.int .u64 (a2 : Int),.int .u64 (a3 : Int)] 87)).alloc (.cells #[.int .u64 (b0 : Int),.int .u64 (b1 : Int),.int .u64 (b2 : Int),.int .u64 (b3 : Int)] 87)).alloc (.cells z4 87)) :=
  (((Below.refl _ _).alloc (Nat.le_refl _) _).alloc (by simp) _).alloc (by simp; omega) _
 have HK:=Lib.hid (And.intro k2 hbe);clear k2 hbe
 go_enter Tryz.func52,Tryz.ntmps52
 go_wp2_with (fail)
 refine (HS _).out.mono ?_
 rintro e w1 ⟨rfl,hw1⟩
 go_wp2_with (fail)
 refine (HR _).out.mono ?_
 rintro e w2 ⟨rfl,hw2⟩
 obtain ⟨k2,hbe⟩:=HK.out;have k3:=((k2.later hw1).alloc _).later hw2;have hbe3:=below_up (((below_up hbe hw1)).alloc (below_up hbe hw1).size _) hw2;clear HK HS HR k2 hbe hw1 hw2
 go_wp2_with (refine wpList_store_row rfl 87 _ _ rfl (w.heap.size + 1 + 1) rfl (Us r).toArray rfl 87 _ k3 (size_sc _ hz) (by rw [hz]; rfl) (Us_one _) ?_)
 refine bodyPost_ret (results_cell_row rfl _ _ (w.heap.size + 1 + 1) 87 (Us r).toArray (0,0) _ rfl (k3.row _) Tryz.underlying87 rfl (size_sc _ hz)) rfl ⟨rfl,?_⟩;exact below_setRow hbe3 (by omega) _

/-! ### Mul -/
structure MS4 (w wr : World) (a b : List Nat) (n : Nat) : Prop where
  b0 : Blk wr w.heap.size 87 (Us a).toArray
  b1 : Blk wr (w.heap.size + 1) 87 (Us b).toArray
  b2 : Blk wr (w.heap.size + 1 + 1) 87 z4
  b3 : Blk wr (w.heap.size + 1 + 1 + 1) 87 (Us (ws n)).toArray
  be : Below w.heap.size w wr
theorem MS4.up {w wr w1 : World} {a b : List Nat} {n : Nat} (h : MS4 w wr a b n) (k : Up wr w1) : MS4 w w1 a b n:=⟨k.blk h.b0,k.blk h.b1,k.blk h.b2,k.blk h.b3,below_up h.be k⟩
theorem MS4.set {w wr : World} {a b : List Nat} {n : Nat} (h : MS4 w wr a b n) (m : Nat) : MS4 w (wr.setRow (w.heap.size + 1 + 1 + 1) (Us (ws m)).toArray) a b m :=
 ⟨h.b0.rowFar (by omega) _,h.b1.rowFar (by omega) _,h.b2.rowFar (by omega) _,h.b3.row _,below_setRow h.be (by omega) _⟩

theorem mul_split (x Y u v L : Nat) : (4294967296 * ((4294967296 * (x * Y % L) + x * u) % L) + x * v) % L = x * (18446744073709551616 * Y + (4294967296 * u + v)) % L:=by
 have e : x * (18446744073709551616 * Y + (4294967296 * u + v)) = 4294967296 * (4294967296 * (x * Y) + x * u) + x * v:=by grind only
 rw [e,Nat.add_mod,Nat.mul_mod_mod,← Nat.add_mod]
 have e2 : (4294967296 * (x * Y % L) + x * u) % L = (4294967296 * (x * Y) + x * u) % L:=by
  rw [Nat.add_mod,Nat.mul_mod_mod,← Nat.add_mod]
 rw [Nat.add_mod (4294967296 * (4294967296 * (x * Y % L) + x * u)),Nat.mul_mod,e2,← Nat.mul_mod,← Nat.add_mod]

section
variable {ops : Array Oper} {C0 : World → Prop} {Q : Act → Prop} {a : Act} {o : Oper} {rest : List Oper}
theorem b_sc {l : List Nat} (g : Nat) (hl : l.length = 4) (x : Operand) (hg : Region.wanted o (yielded ops a.tmps) = true) (ho : o.op = .load 87 x) (hx : a.eval x = .pointer (some ⟨g,0,none⟩))
  (hc : ∀ w,C0 w → Blk w g 87 (Us l).toArray) (hk : wpB Tryz.prog ops C0 Q rest (a.put o.dst (.agg (Us l).toArray))) : wpB Tryz.prog ops C0 Q (o :: rest) a :=
 b_mid hg 87 x ho g 0 hx (Us l) _ (fun w h=>(hc w h).range) Tryz.underlying87 rfl (size_sc (Us l).toArray (len_u4 hl)) hk
theorem b_word {x i : Operand} (g k : Nat) (hk4 : k < 4) (hg : Region.wanted o (yielded ops a.tmps) = true) (ho : o.op = .indexAddr 85 x i) (hx : a.eval x = .pointer (some ⟨g,0,none⟩)) (hi : a.eval i = .int .i64 (k : Int))
  (hk : wpB Tryz.prog ops C0 Q rest (a.put o.dst (.pointer (some ⟨g,k,none⟩)))) : wpB Tryz.prog ops C0 Q (o :: rest) a :=
 b_val hg (fun w _=>by
  have h1 : (k : Int) < 4:=by omega
  have h2 : (0 : Int) ≤ (k : Int):=by omega
  unfold execOp
  simp only [ho,hx,hi]
  go_simp) hk
theorem b_cell {x : Operand} (g k v : Nat) (hg : Region.wanted o (yielded ops a.tmps) = true) (ho : o.op = .load 51 x) (hx : a.eval x = .pointer (some ⟨g,k,none⟩)) (hc : ∀ w,C0 w → w.cell? ⟨g,k,none⟩ = some (.int .u64 (v : Int)))
  (hk : wpB Tryz.prog ops C0 Q rest (a.put o.dst (.int .u64 (v : Int)))) : wpB Tryz.prog ops C0 Q (o :: rest) a :=
 b_val hg (fun w hw=>by
  have h1:=hc w hw
  unfold execOp
  simp only [ho,hx]
  go_simp) hk
theorem b_shr32 {x : Operand} {t : TypeId} (v : Nat) (hg : Region.wanted o (yielded ops a.tmps) = true) (ho : o.op = .binOp .shr 51 x (.const (.int .u64 32)) t) (hx : a.eval x = .int .u64 (v : Int))
  (hk : wpB Tryz.prog ops C0 Q rest (a.put o.dst (.int .u64 ((v / 4294967296 : Nat) : Int)))) : wpB Tryz.prog ops C0 Q (o :: rest) a :=
 b_val hg (fun w _=>by
  have e:=div32 v;generalize v / 4294967296 = z at *
  unfold execOp
  simp only [ho,hx]
  go_simp) hk
theorem b_and32 {x : Operand} {t : TypeId} (v : Nat) (hv : v < 18446744073709551616) (hg : Region.wanted o (yielded ops a.tmps) = true) (ho : o.op = .binOp .and 51 x (.const (.int .u64 4294967295)) t) (hx : a.eval x = .int .u64 (v : Int))
  (hk : wpB Tryz.prog ops C0 Q rest (a.put o.dst (.int .u64 ((v % 4294967296 : Nat) : Int)))) : wpB Tryz.prog ops C0 Q (o :: rest) a :=
 b_val hg (fun w _=>by
  have e:=mask32 v hv;generalize v % 4294967296 = z at *
  unfold execOp
  simp only [ho,hx]
  go_simp) hk
end
theorem fld_sc (g : Nat) (w : World) : (Instr.fieldAt 87 (.pointer (some ⟨g,0,none⟩)) 0).run Tryz.prog w = .ok (.pointer (some ⟨g,0,none⟩)) w:=by go_simp

set_option maxRecDepth 100000 in
set_option maxHeartbeats 2000000 in
theorem scmul_f {x y : Nat} (hx : x < LL) (hy : y < LL) (w : World) :
  Calls Tryz.prog 53 #[.agg (Us (ws x)).toArray,.agg (Us (ws y)).toArray] w fun e w'=>e = .returned (.agg (Us (ws (x * y % LL))).toArray) ∧ Below w.heap.size w w':=by
 have hN:=fun A h w1 (hA : A < LL) (hh : h < 4294967296)=>next_f hA hx hh w1
 have hwy : ∀ k,k < 4 → y / 18446744073709551616 ^ k = 18446744073709551616 * (y / 18446744073709551616 ^ (k + 1)) + (4294967296 * ((ws y)[k]! / 4294967296) + (ws y)[k]! % 4294967296):=by
  intro k hk
  rw [ws_wd y hk,Nat.pow_succ,← Nat.div_div_eq_div_mul]
  unfold wd
  omega
 have hy0 : y / 18446744073709551616 ^ 4 = 0:=Nat.div_eq_of_lt (Nat.lt_trans hy (by decide));have ha:=ws_len x;have hb:=ws_len y;have hbl:=fun k=>ws_get_lt y (k:=k);clear hy;generalize ws y = b at *;generalize hwx : ws x = a at *
 go_enter Tryz.func53,Tryz.ntmps53
 go_wp2
 go_loopw [6] (fun i wr=>∃ k : Nat,k ≤ 4 ∧ i = .int .i64 ((k : Int) - 1) ∧ MS4 w wr a b (x * (y / 18446744073709551616 ^ k) % LL)) (fun i _=>(intOf i + 1).toNat)
 case atStart =>
  refine ⟨4,by omega,rfl,?_⟩;rw [hy0,Nat.mul_zero,Nat.zero_mod];exact ⟨blk4_0 w _ _ _ _ _,blk4_1 w _ _ _ _ _,blk4_2 w _ _ _ _ _,blk4_3 w _ _ _ _ _,below4 w _ _ _ _⟩
 case round =>
  obtain ⟨k,hk,rfl,hS⟩:=hrel
  by_cases hlt : 0 < k
  ·obtain ⟨i,rfl⟩ : ∃ i,k = i + 1:=⟨k - 1,by omega⟩
   have e0 : ((i + 1 : Nat) : Int) - 1 = (i : Int):=by omega
   rw [e0];have hW:=hwy i (by omega);have hv:=hbl i (by omega);have hcell : ∀ w1,MS4 w w1 a b (x * (y / 18446744073709551616 ^ (i + 1)) % LL) → w1.cell? ⟨w.heap.size + 1,i,none⟩ = some (.int .u64 (b[i]! : Nat)):=fun w1 h=>(h.b1.cell i).trans (Us_at (by omega));have hcell2 : ∀ w1 n,MS4 w w1 a b n → w1.cell? ⟨w.heap.size + 1,i,none⟩ = some (.int .u64 (b[i]! : Nat)):=fun w1 n h=>(h.b1.cell i).trans (Us_at (by omega));generalize b[i]! = v at *;have hD:=Lib.hid (show x * (y / 18446744073709551616 ^ i) % LL = (4294967296 * ((4294967296 * (x * (y / 18446744073709551616 ^ (i + 1)) % LL) + x * (v / 4294967296)) % LL) + x * (v % 4294967296)) % LL by rw [mul_split,← hW]);have hX : x * (y / 18446744073709551616 ^ (i + 1)) % LL < LL:=Nat.mod_lt _ (by decide);generalize x * (y / 18446744073709551616 ^ (i + 1)) % LL = X at *;have hY : (4294967296 * X + x * (v / 4294967296)) % LL < LL:=Nat.mod_lt _ (by decide);have hN1:=fun w1=>hN X (v / 4294967296) w1 hX (by omega);have hN2:=fun w1=>hN ((4294967296 * X + x * (v / 4294967296)) % LL) (v % 4294967296) w1 hY (by omega);generalize (4294967296 * X + x * (v / 4294967296)) % LL = Y at *;generalize (4294967296 * Y + x * (v % 4294967296)) % LL = Z at *;clear hN hW hcell hX hY e0 hy0 hwy hbl hwx hx
   have hi3 : i < 4:=by omega
   go_wp2
   refine reg_set 8 (.tmp 5) 87 (.tmp 18) rfl rfl rfl rfl (by kernel_rfl) (tail_ok (by kernel_rfl)) (fun _ _ d _ _ h=>by cases d <;> exact h) ?_;simp only [List.take_succ_cons,List.take_zero];refine b_sc (w.heap.size + 1 + 1 + 1) (ws_len X) _ rfl rfl rfl (fun _ h=>h.blk hS.b3) ?_; simp only [Act.put,List.setIfInBounds_toArray,List.set_cons_zero,List.set_cons_succ];refine b_sc w.heap.size ha _ rfl rfl rfl (fun _ h=>h.blk hS.b0) ?_; simp only [Act.put,List.setIfInBounds_toArray,List.set_cons_zero,List.set_cons_succ];refine b_move rfl rfl ?_; simp only [Act.put,List.setIfInBounds_toArray,List.set_cons_zero,List.set_cons_succ];refine b_field (w.heap.size + 1) 0 0 rfl rfl rfl (fld_sc _) ?_; simp only [Act.put,List.setIfInBounds_toArray,List.set_cons_zero,List.set_cons_succ];refine b_word (w.heap.size + 1) i hi3 rfl rfl rfl rfl ?_; simp only [Act.put,List.setIfInBounds_toArray,List.set_cons_zero,List.set_cons_succ];refine b_cell (w.heap.size + 1) i v rfl rfl rfl (fun w1 h=>hcell2 w1 _ (hS.up h)) ?_; simp only [Act.put,List.setIfInBounds_toArray,List.set_cons_zero,List.set_cons_succ];refine b_shr32 v rfl rfl rfl ?_; simp only [Act.put,List.setIfInBounds_toArray,List.set_cons_zero,List.set_cons_succ];refine b_one rfl own_next (fun w1=>hN1 w1) rfl rfl ?_; simp only [Act.put,List.setIfInBounds_toArray,List.set_cons_zero,List.set_cons_succ];refine wpB_nil ⟨_,_,(Us (ws Y)).toArray,rfl,rfl,hS.b3,by rw [len_u4 (ws_len X),len_u4 (ws_len Y)],size_sc _ (len_u4 (ws_len Y)),Us_one _,fun w1 hw1=>?_⟩;have hS2:=(hS.up hw1).set Y;clear hS hw1 hN1;generalize w1.setRow (w.heap.size + 1 + 1 + 1) (Us (ws Y)).toArray = w2 at *;have HS:=Lib.hid hS2;clear hS2
   go_wp2
   have hS:=HS.out;clear HS;refine reg_set 8 (.tmp 5) 87 (.tmp 26) rfl rfl rfl rfl (by kernel_rfl) (tail_ok (by kernel_rfl)) (fun _ _ d _ _ h=>by cases d <;> exact h) ?_;simp only [List.take_succ_cons,List.take_zero];refine b_sc (w.heap.size + 1 + 1 + 1) (ws_len Y) _ rfl rfl rfl (fun _ h=>h.blk hS.b3) ?_; simp only [Act.put,List.setIfInBounds_toArray,List.set_cons_zero,List.set_cons_succ];refine b_sc w.heap.size ha _ rfl rfl rfl (fun _ h=>h.blk hS.b0) ?_; simp only [Act.put,List.setIfInBounds_toArray,List.set_cons_zero,List.set_cons_succ];refine b_move rfl rfl ?_; simp only [Act.put,List.setIfInBounds_toArray,List.set_cons_zero,List.set_cons_succ];refine b_field (w.heap.size + 1) 0 0 rfl rfl rfl (fld_sc _) ?_; simp only [Act.put,List.setIfInBounds_toArray,List.set_cons_zero,List.set_cons_succ];refine b_word (w.heap.size + 1) i hi3 rfl rfl rfl rfl ?_; simp only [Act.put,List.setIfInBounds_toArray,List.set_cons_zero,List.set_cons_succ];refine b_cell (w.heap.size + 1) i v rfl rfl rfl (fun w1 h=>hcell2 w1 _ (hS.up h)) ?_; simp only [Act.put,List.setIfInBounds_toArray,List.set_cons_zero,List.set_cons_succ];refine b_and32 v hv rfl rfl rfl ?_; simp only [Act.put,List.setIfInBounds_toArray,List.set_cons_zero,List.set_cons_succ];refine b_one rfl own_next (fun w1=>hN2 w1) rfl rfl ?_; simp only [Act.put,List.setIfInBounds_toArray,List.set_cons_zero,List.set_cons_succ];refine wpB_nil ⟨_,_,(Us (ws Z)).toArray,rfl,rfl,hS.b3,by rw [len_u4 (ws_len Y),len_u4 (ws_len Z)],size_sc _ (len_u4 (ws_len Z)),Us_one _,fun w1 hw1=>?_⟩;have hS2:=(hS.up hw1).set Z;clear hS hw1 hN2;generalize w1.setRow (w.heap.size + 1 + 1 + 1) (Us (ws Z)).toArray = w3 at *;have HS:=Lib.hid hS2;clear hS2 hcell2 hv
   go_wp2
   go_roundw
   case rel =>
    refine ⟨i,by omega,by go_num,?_⟩;rw [hD.out];exact HS.out
   case measure=>simp [intOf]
  ·obtain rfl : k = 0:=by omega
   rw [Nat.pow_zero,Nat.div_one] at hS;obtain ⟨b0,b1,b2,b3,be⟩:=hS;have hzs:=len_u4 (ws_len (x * y % LL));clear b0 b1
   go_wp2_with (first
    | (refine wpList_load_row rfl 87 _ rfl (w.heap.size + 1 + 1 + 1) rfl 87 (Us (ws (x * y % LL))).toArray (0,0) _ b3 Tryz.underlying87 rfl (size_sc _ hzs) ?_)
    | (refine wpList_store_row rfl 87 _ _ rfl (w.heap.size + 1 + 1) rfl (Us (ws (x * y % LL))).toArray rfl 87 _ b2 (size_sc _ hzs) (by rw [hzs]; rfl) (Us_one _) ?_))
   refine bodyPost_ret (results_cell_row rfl _ _ (w.heap.size + 1 + 1) 87 (Us (ws (x * y % LL))).toArray (0,0) _ rfl (b2.row _) Tryz.underlying87 rfl (size_sc _ hzs)) rfl ⟨rfl,?_⟩;exact below_setRow be (by omega) _
end Go.Proofs.YtlcbhbahchiofaaGreatDoor
/-
  The scalars' calls are the program's own.
-/
namespace Go.Proofs.YtlcbhbahchiofaaGreatDoor
open Go.RowKit Go.IntWalk

theorem own_wide : Own 59:=fun _ _=>by go_simp
theorem own_schash : Own 54:=fun _ _=>by go_simp
theorem own_scadd : Own 52:=fun _ _=>by go_simp
theorem own_scmul : Own 53:=fun _ _=>by go_simp
end Go.Proofs.YtlcbhbahchiofaaGreatDoor
/-
  STEPS AT SCALARS AND COPIES, over frames by what is known of them.
-/
namespace Go.Proofs.YtlcbhbahchiofaaGreatDoor
open Go.RowKit Go.IntWalk Nums

theorem size_S (n : Nat) : (Tryz.prog.info? 87).map (·.size) = some (Us (ws n)).toArray.size:=size_sc _ (len_u4 (ws_len n))
section
variable {ops : Array Oper} {C0 : World → Prop} {Q : Act → Prop} {N : Nat} {E : List (Nat × Value)} {o : Oper} {rest : List Oper} {k : Nat}
theorem f_sc {x : Operand} (b n : Nat) (hg : o.guard = none) (hd : o.dst = some k) (hk : Nat.blt k N = true) (ho : o.op = .load 87 x) (hx : ev E x = some (.pointer (some ⟨b,0,none⟩)))
  (hc : ∀ w,C0 w → w.rangeAt b 0 (Us (ws n))) (hn : bF Tryz.prog ops C0 Q rest N ((k,.agg (Us (ws n)).toArray) :: E)) : bF Tryz.prog ops C0 Q (o :: rest) N E :=
 f_row b 0 (Us (ws n)) _ hg hd hk ho hx hc Tryz.underlying87 rfl (by have:=size_S n; simpa using this) hn
theorem f_b64 {x : Operand} {l : List UInt8} (b : Nat) (hl : l.length = 64) (hg : o.guard = none) (hd : o.dst = some k) (hk : Nat.blt k N = true) (ho : o.op = .load 43 x) (hx : ev E x = some (.pointer (some ⟨b,0,none⟩)))
  (hc : ∀ w,C0 w → w.rangeAt b 0 (By l)) (hn : bF Tryz.prog ops C0 Q rest N ((k,.agg (By l).toArray) :: E)) : bF Tryz.prog ops C0 Q (o :: rest) N E :=
 f_row b 0 (By l) _ hg hd hk ho hx hc Tryz.underlying43 rfl (by rw [By_len,hl]; kernel_rfl) hn
theorem f_slice32 {x : Operand} (g : Nat) (hg : o.guard = none) (hd : o.dst = some k) (hk : Nat.blt k N = true) (ho : o.op = .slice 45 x none none none) (hx : ev E x = some (.pointer (some ⟨g,0,none⟩)))
  (hn : bF Tryz.prog ops C0 Q rest N ((k,.slice (some ⟨g,0,none⟩) 32 32) :: E)) : bF Tryz.prog ops C0 Q (o :: rest) N E :=
 f_val _ hg hd hk (fun a ha w _=>by
  have h1:=ha.eval hx
  unfold execOp
  simp only [ho,h1]
  go_simp) hn
end
theorem cop_len64 {a : List UInt8} (ha : a.length = 32) : (cop z64 0 a).length = 64:=by rw [cop_len (by rw [z64_len,ha]; decide),z64_len]
theorem le_cop {a : List UInt8} (ha : a.length = 32) : le (cop z64 0 a) = le a:=by
 have e : cop z64 0 a = a ++ List.replicate 32 0:=by
  rw [cop,ha]
  simp [z64]
 have e2 : le (List.replicate 32 0) = 0:=by decide
 rw [e,le_append,e2,Nat.mul_zero,Nat.add_zero]
end Go.Proofs.YtlcbhbahchiofaaGreatDoor
/-
  PLAIN NUMBERS: the digests of FIPS 180-4 over words of w bits: turned words, the message's words, rounds, blocks, the message's end. No program is imported.
-/
namespace Nums

def rotw (w n x : Nat) : Nat:=x / 2 ^ n + x % 2 ^ n * 2 ^ (w - n)
def chw (w e f g : Nat) : Nat:=(e &&& f) ^^^ ((2 ^ w - 1 - e) &&& g)
def maw (a b c : Nat) : Nat:=(a &&& b) ^^^ (a &&& c) ^^^ (b &&& c)

structure Sha where
  w : Nat
  n : Nat
  big1 : Nat × Nat × Nat
  big0 : Nat × Nat × Nat
  low1 : Nat × Nat × Nat
  low0 : Nat × Nat × Nat
  k : Nat → Nat
  start : List Nat
def bigw (w : Nat) (t : Nat × Nat × Nat) (x : Nat) : Nat:=rotw w t.1 x ^^^ rotw w t.2.1 x ^^^ rotw w t.2.2 x
def loww (w : Nat) (t : Nat × Nat × Nat) (x : Nat) : Nat:=rotw w t.1 x ^^^ rotw w t.2.1 x ^^^ x / 2 ^ t.2.2

def sqs : List Nat:=[7640891576956012808,13503953896175478587,4354685564936845355,11912009170470909681,5840696475078001361,11170449401992604703,2270897969802886507,6620516959819538809]
def cbs : List Nat:=[4794697086780616226,8158064640168781261,13096744586834688815,16840607885511220156,4131703408338449720,6480981068601479193,10538285296894168987,12329834152419229976,15566598209576043074,1334009975649890238,2608012711638119052,6128411473006802146,8268148722764581231,9286055187155687089,11230858885718282805,13951009754708518548,16472876342353939154,17275323862435702243,1135362057144423861,2597628984639134821,3308224258029322869,5365058923640841347,6679025012923562964,8573033837759648693,10970295158949994411,12119686244451234320,12683024718118986047,13788192230050041572,14330467153632333762,15395433587784984357,489312712824947311,1452737877330783856,2861767655752347644,3322285676063803686,5560940570517711597,5996557281743188959,7280758554555802590,8532644243296465576,9350256976987008742,10552545826968843579,11727347734174303076,12113106623233404929,14000437183269869457,14369950271660146224,15101387698204529176,15463397548674623760,17586052441742319658,1182934255886127544,1847814050463011016,2177327727835720531,2830643537854262169,3796741975233480872,4115178125766777443,5681478168544905931,6601373596472566643,7507060721942968483,8399075790359081724,8693463985226723168,9568029438360202098,10144078919501101548,10430055236837252648,11840083180663258601,13761210420658862357,14299343276471374635,14566680578165727644,15097957966210449927,16922976911328602910,17689382322260857208,500013540394364858,748580250866718886,1242879168328830382,1977374033974150939,2944078676154940804,3659926193048069267,4368137639120453308,4836135668995329356,5532061633213252278,6448918945643986474,6902733635092675308,7801388544844847127]
def s512 : Sha where
  w:=64
  n:=80
  big1:=(14,18,41)
  big0:=(28,34,39)
  low1:=(19,61,6)
  low0:=(1,8,7)
  k:=fun t=>cbs[t]!
  start:=sqs
def ben (f : Nat → Nat) : Nat → Nat
  | 0=>0
  | j + 1=>ben f j * 256 + f j
theorem ben_lt {f : Nat → Nat} (h : ∀ j,f j < 256) : ∀ j,ben f j < 256 ^ j
 | 0=>Nat.one_pos
 | j + 1=>by
  have h1:=ben_lt h j;have h2:=h j
  show ben f j * 256 + f j < 256 ^ (j + 1)
  rw [Nat.pow_succ]
  omega
def bword (s : Sha) (b : List UInt8) (t : Nat) : Nat:=ben (fun k=>(b[t * (s.w / 8) + k]!).toNat) (s.w / 8)
def sx (s : Sha) (b : List UInt8) (t : Nat) : Nat :=
  if _h : t < 16 then bword s b t else (loww s.w s.low1 (sx s b (t - 2)) + sx s b (t - 7) + loww s.w s.low0 (sx s b (t - 15)) + sx s b (t - 16)) % 2 ^ s.w
termination_by t
decreasing_by all_goals omega

structure Oct where
  a : Nat
  b : Nat
  c : Nat
  d : Nat
  e : Nat
  f : Nat
  g : Nat
  h : Nat
def Oct.list (o : Oct) : List Nat:=[o.a,o.b,o.c,o.d,o.e,o.f,o.g,o.h]
def t1w (s : Sha) (k x : Nat) (o : Oct) : Nat:=o.h + bigw s.w s.big1 o.e + chw s.w o.e o.f o.g + k + x
def t2w (s : Sha) (o : Oct) : Nat:=bigw s.w s.big0 o.a + maw o.a o.b o.c
def rnd (s : Sha) (k x : Nat) (o : Oct) : Oct:=⟨(t1w s k x o + t2w s o) % 2 ^ s.w,o.a,o.b,o.c,(o.d + t1w s k x o) % 2 ^ s.w,o.e,o.f,o.g⟩
def rnds (s : Sha) (b : List UInt8) (o : Oct) : Nat → Oct
  | 0=>o
  | t + 1=>rnd s (s.k t) (sx s b t) (rnds s b o t)
def add8 (w : Nat) (o p : Oct) : Oct:=⟨(o.a + p.a) % 2 ^ w,(o.b + p.b) % 2 ^ w,(o.c + p.c) % 2 ^ w,(o.d + p.d) % 2 ^ w,(o.e + p.e) % 2 ^ w,(o.f + p.f) % 2 ^ w,(o.g + p.g) % 2 ^ w,(o.h + p.h) % 2 ^ w⟩
def turnw (s : Sha) (o : Oct) (b : List UInt8) : Oct:=add8 s.w o (rnds s b o s.n)

/-! ### Bounds -/
theorem xor_lt {a b w : Nat} (ha : a < 2 ^ w) (hb : b < 2 ^ w) : a ^^^ b < 2 ^ w:=Nat.xor_lt_two_pow ha hb
theorem and_lt {a b w : Nat} (ha : a < 2 ^ w) : a &&& b < 2 ^ w:=Nat.lt_of_le_of_lt Nat.and_le_left ha
theorem rotw_lt {w n x : Nat} (hn : n ≤ w) (hx : x < 2 ^ w) : rotw w n x < 2 ^ w:=by
 have e : (2 : Nat) ^ w = 2 ^ n * 2 ^ (w - n):=by rw [← Nat.pow_add,Nat.add_sub_cancel' hn]
 have h1 : x / 2 ^ n < 2 ^ (w - n):=Nat.div_lt_of_lt_mul (by rw [← e]; exact hx);have h2 : x % 2 ^ n + 1 ≤ 2 ^ n:=Nat.mod_lt _ (Nat.two_pow_pos n);have h3:=Nat.mul_le_mul_right (2 ^ (w - n)) h2;rw [← e,Nat.add_mul,Nat.one_mul] at h3
 unfold rotw
 omega
theorem bigw_lt {w x : Nat} {t : Nat × Nat × Nat} (h : t.1 ≤ w ∧ t.2.1 ≤ w ∧ t.2.2 ≤ w) (hx : x < 2 ^ w) : bigw w t x < 2 ^ w :=
 xor_lt (xor_lt (rotw_lt h.1 hx) (rotw_lt h.2.1 hx)) (rotw_lt h.2.2 hx)
theorem chw_lt {w e f g : Nat} (he : e < 2 ^ w) : chw w e f g < 2 ^ w:=xor_lt (and_lt he) (and_lt (by have:=Nat.two_pow_pos w; omega))
theorem maw_lt {w a b c : Nat} (ha : a < 2 ^ w) (hb : b < 2 ^ w) : maw a b c < 2 ^ w:=xor_lt (xor_lt (and_lt ha) (and_lt ha)) (and_lt hb)
theorem sx_lt (s : Sha) (b : List UInt8) (hw : s.w / 8 * 8 = s.w) (t : Nat) : sx s b t < 2 ^ s.w:=by
 rw [sx]
 split
 ·have h:=ben_lt (f:=fun k=>(b[t * (s.w / 8) + k]!).toNat) (fun j=>UInt8.toNat_lt _) (s.w / 8)
  rw [show (256 : Nat) = 2 ^ 8 from rfl,← Nat.pow_mul,Nat.mul_comm 8,hw] at h;exact h
 ·exact Nat.mod_lt _ (Nat.two_pow_pos _)
structure OB (w : Nat) (o : Oct) : Prop where
  a : o.a < 2 ^ w
  b : o.b < 2 ^ w
  c : o.c < 2 ^ w
  d : o.d < 2 ^ w
  e : o.e < 2 ^ w
  f : o.f < 2 ^ w
  g : o.g < 2 ^ w
  h : o.h < 2 ^ w
theorem OB.rnd {s : Sha} {o : Oct} (h : OB s.w o) (k x : Nat) : OB s.w (rnd s k x o) :=
 ⟨Nat.mod_lt _ (Nat.two_pow_pos _),h.a,h.b,h.c,Nat.mod_lt _ (Nat.two_pow_pos _),h.e,h.f,h.g⟩
theorem OB.rnds {s : Sha} {b : List UInt8} {o : Oct} (h : OB s.w o) : ∀ t,OB s.w (rnds s b o t)
 | 0=>h
 | t + 1=>(OB.rnds h t).rnd _ _
theorem OB.add8 (w : Nat) (o p : Oct) : OB w (add8 w o p):=by
 constructor <;> exact Nat.mod_lt _ (Nat.two_pow_pos _)
theorem OB.turnw (s : Sha) (o : Oct) (b : List UInt8) : OB s.w (turnw s o b):=OB.add8 _ _ _

/-! ### The other spellings -/
/-! ### The whole message -/
def runw (s : Sha) (B : Nat) (o : Oct) (l : List UInt8) : Oct :=
  if _h : B = 0 ∨ l.length < B then o else runw s B (turnw s o (l.take B)) (l.drop B)
termination_by l.length
decreasing_by
  rw [List.length_drop]
  omega
theorem runw_short {s : Sha} {B : Nat} {o : Oct} {l : List UInt8} (h : l.length < B) : runw s B o l = o:=by
 rw [runw,dif_pos (.inr h)]
theorem runw_block {s : Sha} {B : Nat} {o : Oct} {b l : List UInt8} (hB : 0 < B) (h : b.length = B) : runw s B o (b ++ l) = runw s B (turnw s o b) l:=by
 rw [runw,dif_neg (by rw [List.length_append]; omega),← h,List.take_left,List.drop_left]
theorem runw_append {s : Sha} {B : Nat} (hB : 0 < B) : ∀ (n : Nat) {o : Oct} {a l : List UInt8},a.length = n * B → runw s B o (a ++ l) = runw s B (runw s B o a) l
 | 0,o,a,l,h=>by
  have h0 : a = []:=List.eq_nil_of_length_eq_zero (by omega);subst h0;rw [List.nil_append,runw_short (l:=[]) (by simpa using hB)]
 | n + 1,o,a,l,h=>by
  have hl : (a.take B).length = B:=by rw [List.length_take,h,Nat.add_mul]; omega
  have hd : (a.drop B).length = n * B:=by rw [List.length_drop,h,Nat.add_mul]; omega
  have e : a = a.take B ++ a.drop B:=(List.take_append_drop B a).symm;rw [e,List.append_assoc,runw_block hB hl,runw_block hB hl,runw_append hB n hd]
def be64 (v : Nat) : List UInt8:=(bytes 8 v).reverse
def tailw (B r v : Nat) : List UInt8:=128 :: (List.replicate ((if r + 1 ≤ B - B / 8 then B else 2 * B) - 9 - r) 0 ++ be64 v)
def sumw (s : Sha) (m : List UInt8) : Oct:=runw s (2 * s.w) (⟨s.start[0]!,s.start[1]!,s.start[2]!,s.start[3]!,s.start[4]!,s.start[5]!,s.start[6]!,s.start[7]!⟩) (m ++ tailw (2 * s.w) (m.length % (2 * s.w)) (8 * m.length))
def layw (s : Sha) (x : Nat) : List UInt8:=(bytes (s.w / 8) x).reverse
def digest (s : Sha) (m : List UInt8) : List UInt8:=((sumw s m).list.map (layw s)).flatten
end Nums
/-
  THE DIGESTS: the library's RotateLeft64, by a negative number.
-/
namespace Go.Proofs.YtlcbhbahchiofaaGreatDoor
open Go.RowKit Go.IntWalk Nums

theorem rot_or (w n x : Nat) (hn : n ≤ w) (hx : x < 2 ^ w) : x * 2 ^ (w - n) % 2 ^ w = x % 2 ^ n * 2 ^ (w - n) ∧ x / 2 ^ n < 2 ^ (w - n):=by
 have e : (2 : Nat) ^ w = 2 ^ n * 2 ^ (w - n):=by rw [← Nat.pow_add,Nat.add_sub_cancel' hn]
 refine ⟨?_,Nat.div_lt_of_lt_mul (by rw [← e]; exact hx)⟩;rw [e,Nat.mul_mod_mul_right]

set_option maxRecDepth 100000 in
set_option maxHeartbeats 1000000 in
theorem rot64_f (x n : Nat) (hx : x < 18446744073709551616) (h0 : 0 < n) (hn : n < 64) (w : World) :
  Calls Tryz.prog 92 #[.int .u64 (x : Int),.int .i64 (-(n : Int))] w fun e w'=>e = .returned (.int .u64 ((rotw 64 n x : Nat) : Int)) ∧ w' = w:=by
 have q1 : IntKind.u64.wrap (-(n : Int)) = ((18446744073709551616 - n : Nat) : Int):=by
  rw [IntKind.wrap_u64]
  omega
 have q2 : bits .and .u64 ((18446744073709551616 - n : Nat) : Int) 63 = ((64 - n : Nat) : Int):=by
  have h:=u64_and_nat (18446744073709551616 - n) 63 (by omega) (by omega);have e : (18446744073709551616 - n) &&& 63 = (18446744073709551616 - n) % 64:=Nat.and_two_pow_sub_one_eq_mod _ 6;rw [e] at h
  have e2 : (18446744073709551616 - n) % 64 = 64 - n:=by omega
  rw [e2] at h;exact h
 obtain ⟨e1,e2⟩:=rot_or 64 n x (by omega) hx
 have q3 : IntKind.u64.wrap ((x : Int) * 2 ^ (64 - n)) = ((x % 2 ^ n * 2 ^ (64 - n) : Nat) : Int):=by
  rw [← e1,IntKind.wrap_u64]
  simp
 have q4 : IntKind.u64.wrap (64 - ((64 - n : Nat) : Int)) = (n : Int):=by
  rw [IntKind.wrap_u64]
  omega
 have f1 : ((x : Int) / 2 ^ n) = ((x / 2 ^ n : Nat) : Int):=by simp
 have hm : x % 2 ^ n * 2 ^ (64 - n) < 18446744073709551616:=by
  rw [← e1];exact Nat.mod_lt _ (by decide)
 have hd : x / 2 ^ n < 18446744073709551616:=Nat.lt_of_le_of_lt (Nat.div_le_self _ _) hx
 have q5 : bits .or .u64 ((x % 2 ^ n * 2 ^ (64 - n) : Nat) : Int) ((x / 2 ^ n : Nat) : Int) = ((rotw 64 n x : Nat) : Int):=by
  rw [u64_or_nat _ _ hm hd,nat_join (64 - n) _ _ (Nat.mul_mod_left _ _) e2]
  unfold rotw
  rw [Nat.add_comm]
 have g1 : ((64 - n : Nat) : Int) ≤ 64:=by omega
 have g2 : (n : Int) ≤ 64:=by omega
 clear e1 e2 hm hd;generalize rotw 64 n x = r at *;generalize x % 2 ^ n * 2 ^ (64 - n) = m at *;generalize x / 2 ^ n = d at *;generalize hs : 64 - n = s at *;generalize 18446744073709551616 - n = u at *;clear hs
 go_enter Tryz.func92,Tryz.ntmps92
 go_wp2
 go_ret
 exact ⟨rfl,rfl⟩
end Go.Proofs.YtlcbhbahchiofaaGreatDoor
/-
  THE DIGESTS: long512: a block's words, and those that are made of them.
-/
namespace Go.Proofs.YtlcbhbahchiofaaGreatDoor
open Go.RowKit Go.IntWalk Nums

theorem size_x80 (cs : Array Value) (h : cs.size = 80) : (Tryz.prog.info? 148).map (·.size) = some cs.size:=by
 rw [h]
 kernel_rfl
def z80 : List Nat:=List.replicate 80 0
theorem z80_len : z80.length = 80:=by decide
theorem z80_get (k : Nat) : z80[k]! = 0:=by
 unfold z80
 by_cases h : k < 80
 ·rw [getElem!_pos _ k (by rw [List.length_replicate]; exact h),List.getElem_replicate]
 ·rw [getElem!_neg _ k (by rw [List.length_replicate]; exact h)]
  rfl
theorem mxl_in {f : Nat → Nat} {l : List Nat} {k j : Nat} (h : j < k) (hj : j < l.length) : (mxl f l k)[j]! = f j:=by
 rw [getElem!_pos _ j (by rw [mxl_len]; exact hj)]
 simp [mxl,h]
theorem zx80 : (Tryz.prog.info? 148).bind (fun i=>i.zero.map (·.cells)) = some (Us z80).toArray:=by kernel_rfl
theorem set_zero {F : Nat → Nat} {k : Nat} : (mxl F z80 k).set k 0 = mxl F z80 k:=by
 apply List.ext_getElem (by simp)
 intro i h1 h2
 rw [List.getElem_set]
 by_cases h : k = i
 ·subst h
  have h3 : k < 80:=by simpa [mxl_len,z80_len] using h2
  rw [if_pos rfl];have:=mxl_get F z80 (k:=k) (by rw [z80_len]; exact h3);rw [getElem!_pos _ k h2,z80_get] at this;exact this.symm
 ·rw [if_neg h]

structure LS (w wr : World) (b : List UInt8) (l : List Nat) : Prop where
  b0 : Blk wr w.heap.size 121 (By b).toArray
  b1 : Blk wr (w.heap.size + 1) 148 (Us z80).toArray
  b2 : Blk wr (w.heap.size + 1 + 1) 148 (Us l).toArray
  be : Below w.heap.size w wr
theorem LS.set {w wr : World} {b : List UInt8} {l : List Nat} (h : LS w wr b l) (k x : Nat) : LS w (wr.setCell ⟨w.heap.size + 1 + 1,k,none⟩ (.int .u64 (x : Int))) b (l.set k x) where
 b0:=h.b0.far (by show w.heap.size ≠ w.heap.size + 1 + 1; omega) _
 b1:=h.b1.far (by show w.heap.size + 1 ≠ w.heap.size + 1 + 1; omega) _
 b2:=by
  have h4:=h.b2.set k (.int .u64 (x : Int));rw [Us_set] at h4;exact h4
 be:=h.be.setCell (by show w.heap.size ≤ w.heap.size + 1 + 1; omega) _
theorem LS.drew {w wr : World} {b : List UInt8} {l : List Nat} (h : LS w wr b l) : LS w wr.drew b l:=⟨h.b0,h.b1,h.b2,h.be.drew⟩

set_option maxRecDepth 100000 in
set_option maxHeartbeats 4000000 in
theorem long512_f {b : List UInt8} (hb : b.length = 128) (w : World) :
  Calls Tryz.prog 91 #[.agg (By b).toArray] w fun e w'=>e = .returned (.agg (Us (mxl (sx s512 b) z80 80)).toArray) ∧ Below w.heap.size w w':=by
 have hlt:=sx_lt s512 b (by decide)
 have h16 : ∀ t,t < 16 → sx s512 b t = ben (fun k=>(b[8 * t + k]!).toNat) 8:=fun t ht=>by
  rw [sx,dif_pos ht]
  unfold bword
  rw [Nat.mul_comm t]
  rfl
 have hrec : ∀ t,16 ≤ t → sx s512 b t = (loww 64 (19,61,6) (sx s512 b (t - 2)) + sx s512 b (t - 7) + loww 64 (1,8,7) (sx s512 b (t - 15)) + sx s512 b (t - 16)) % 18446744073709551616:=fun t ht=>by
  rw [sx,dif_neg (by omega)]
  rfl
 have hl0:=mxl_zero (sx s512 b) z80;generalize sx s512 b = F at *
 go_enter Tryz.func91,Tryz.ntmps91
 refine wp_seq_k fun K hK=>?_;refine wp_region_lit ?_;refine wpl_box (By b).toArray rfl rfl rfl ?_;refine wpl_alloc (zs:=(Us z80).toArray) rfl rfl zx80 ?_;refine wpl_nil ?_
 go_simp
 refine hK _ _ ?_;clear hK K;refine wp_seq_k fun K hK=>?_;refine wp_region_lit ?_;refine wpl_alloc (zs:=(Us z80).toArray) rfl rfl zx80 ?_;refine wpl_nil ?_
 go_simp
 refine hK _ _ ?_;clear hK K;refine wp_at (fun W=>LS w W b z80) ⟨blk3_0 w _ _ _ _,blk3_1 w _ _ _ _,blk3_2 w _ _ _ _,(((Below.refl _ _).alloc (Nat.le_refl _) _).alloc (by simp) _).alloc (by simp; omega) _⟩ ?_
 intro W hW
 have HW:=Lib.hid hW;clear hW
 go_wp2
 go_loopw [12] (fun i wr=>∃ t : Nat,t ≤ 16 ∧ i = .int .i64 t ∧ LS w wr b (mxl F z80 t)) (fun i _=>16 - (intOf i).toNat)
 case atStart =>
  refine ⟨0,by omega,rfl,?_⟩;rw [hl0];exact HW.out
 case round =>
  clear HW;obtain ⟨t,ht,rfl,hS⟩:=hrel
  by_cases htl : t < 16
  ·have hF:=h16 t htl
   have hset:=mxl_set F z80 (k:=t);have hz:=set_zero (F:=F) (k:=t)
   have qA : IntKind.i64.wrap (8 * (t : Int)) = ((8 * t : Nat) : Int):=by rw [i64_left,wrap64_in _ (by omega)]; omega
   have qB : IntKind.i64.wrap (((8 * t : Nat) : Int) + 8) = ((8 * t + 8 : Nat) : Int):=by rw [i64_left,wrap64_in _ (by omega)]; omega
   have g1 : ((8 * t + 8 : Nat) : Int) ≤ 128:=by omega
   have g2 : ((8 * t : Nat) : Int) ≤ ((8 * t + 8 : Nat) : Int):=by omega
   have g3 : (0 : Int) ≤ ((8 * t : Nat) : Int):=by omega
   have g4 : (0 : Int) ≤ (t : Int):=by omega
   have HS:=Lib.hid hS;clear hS
   have hd : 8 * t + 8 - 8 * t = 8:=by omega
   have hA56 : 8 * t ≤ 120:=by omega
   generalize hA8 : 8 * t + 8 = A8 at *;generalize hA : 8 * t = A at *;clear hA8 h16 hrec
   go_wp2
   go_loopw [22] (fun j wq=>∃ n : Nat,n ≤ 8 ∧ j = .int .i64 n ∧ LS w wq b ((mxl F z80 t).set t (ben (fun k=>(b[A + k]!).toNat) n))) (fun j _=>8 - (intOf j).toNat)
   case atStart =>
    refine ⟨0,by omega,rfl,?_⟩;have e0 : ben (fun k=>(b[A + k]!).toNat) 0 = 0:=rfl;rw [e0,hz];exact HS.out
   case round =>
    clear HS;obtain ⟨n,hn,rfl,hS⟩:=hrel
    by_cases hnl : n < 8
    ·have hN:=hS.set t (ben (fun k=>(b[A + k]!).toNat) (n + 1))
     rw [List.set_set] at hN;have hB : ben (fun k=>(b[A + k]!).toNat) (n + 1) = ben (fun k=>(b[A + k]!).toNat) n * 256 + (b[A + n]!).toNat:=rfl;have hy:=ben_lt (f:=fun k=>(b[A + k]!).toNat) (fun j=>UInt8.toNat_lt _) n;have hy2 : (256 : Nat) ^ n ≤ 256 ^ 7:=Nat.pow_le_pow_right (by decide) (by omega);have hx:=(b[A + n]!).toNat_lt;have c0:=(hS.b0.cell (A + n)).trans (By_get (by omega));have c1:=(hS.b2.cell t).trans (Us_at (by rw [List.length_set,mxl_len,z80_len]; omega))
     have e1 : ((mxl F z80 t).set t (ben (fun k=>(b[A + k]!).toNat) n))[t]! = ben (fun k=>(b[A + k]!).toNat) n:=by
      rw [getElem!_pos _ t (by rw [List.length_set,mxl_len,z80_len]; omega),List.getElem_set_self]
     rw [e1] at c1;have f1:=hS.b2.free t;generalize ben (fun k=>(b[A + k]!).toNat) n = y at *;generalize (b[A + n]!).toNat = x at *
     have hyx : y * 256 + x < 18446744073709551616:=by
      have : (256 : Nat) ^ 7 = 72057594037927936:=by decide
      omega
     have qo : bits .or .u64 ((y : Int) * 256) (x : Int) = ((y * 256 + x : Nat) : Int):=by
      have h:=orW 8 (y * 256) x (by omega) (by omega) (by omega) (by omega);rw [← h]
      rfl
     have g5 : (0 : Int) ≤ (n : Int):=by omega
     rw [hB] at hN;have HB:=Lib.hid hB;generalize y * 256 + x = v at *;have HN:=Lib.hid hN
     have hy3 : y < 72057594037927936:=by
      have : (256 : Nat) ^ 7 = 72057594037927936:=by decide
      omega
     clear hS hN hB hy hy2 e1 hset hz hF
     go_wp2
     go_roundw
     case rel =>
      refine ⟨n + 1,by omega,by go_num,?_⟩;rw [HB.out];exact HN.out
     case measure=>simp [intOf]; omega
    ·obtain rfl : n = 8:=by omega
     rw [← hF,hset] at hS;have HS:=Lib.hid hS;clear hS hF hset hz
     go_wp2
     go_roundw
     case rel=>exact ⟨t + 1,by omega,by go_num,HS.out⟩
     case measure=>simp [intOf]; omega
  ·obtain rfl : t = 16:=by omega
   have HS:=Lib.hid hS;clear hS;rw [show ((16 : Nat) : Int) = (16 : Int) from rfl]
   go_wp2
   go_loopw [7] (fun i wr=>∃ t : Nat,16 ≤ t ∧ t ≤ 80 ∧ i = .int .i64 t ∧ LS w wr b (mxl F z80 t)) (fun i _=>80 - (intOf i).toNat)
   case atStart=>exact ⟨16,by omega,by omega,rfl,HS.out⟩
   case round =>
    clear HS;obtain ⟨t,h16t,ht,rfl,hS⟩:=hrel
    by_cases htl : t < 80
    ·have hF:=hrec t h16t
     have hN:=hS.drew.set t (F t);rw [mxl_set] at hN;have k2:=(hS.b2.cell (t - 2)).trans (Us_at (by rw [mxl_len,z80_len]; omega));have k7:=(hS.drew.drew.b2.cell (t - 7)).trans (Us_at (by rw [mxl_len,z80_len]; omega));have k15:=(hS.b2.cell (t - 15)).trans (Us_at (by rw [mxl_len,z80_len]; omega));have k16:=(hS.drew.drew.b2.cell (t - 16)).trans (Us_at (by rw [mxl_len,z80_len]; omega));rw [mxl_in (by omega) (by rw [z80_len]; omega)] at k2 k7 k15 k16;have kf:=hS.drew.drew.b2.free t;have kt:=(hS.drew.drew.b2.cell t).trans (Us_at (by rw [mxl_len,z80_len]; omega));have x2 : F (t - 2) < 18446744073709551616:=hlt (t - 2);have x7 : F (t - 7) < 18446744073709551616:=hlt (t - 7);have x15 : F (t - 15) < 18446744073709551616:=hlt (t - 15);have x16 : F (t - 16) < 18446744073709551616:=hlt (t - 16)
     have i2 : IntKind.i64.wrap ((t : Int) - 2) = ((t - 2 : Nat) : Int):=by rw [i64_left,wrap64_in _ (by omega)]; omega
     have i7 : IntKind.i64.wrap ((t : Int) - 7) = ((t - 7 : Nat) : Int):=by rw [i64_left,wrap64_in _ (by omega)]; omega
     have i15 : IntKind.i64.wrap ((t : Int) - 15) = ((t - 15 : Nat) : Int):=by rw [i64_left,wrap64_in _ (by omega)]; omega
     have i16 : IntKind.i64.wrap ((t : Int) - 16) = ((t - 16 : Nat) : Int):=by rw [i64_left,wrap64_in _ (by omega)]; omega
     have j2 : ((t - 2 : Nat) : Int) < 80:=by omega
     have j7 : ((t - 7 : Nat) : Int) < 80:=by omega
     have j15 : ((t - 15 : Nat) : Int) < 80:=by omega
     have j16 : ((t - 16 : Nat) : Int) < 80:=by omega
     generalize (mxl F z80 t)[t]! = old at *;generalize F (t - 2) = x at *;generalize F (t - 7) = p at *;generalize F (t - 15) = y at *;generalize F (t - 16) = q at *;generalize t - 2 = a2 at *;generalize t - 7 = a7 at *;generalize t - 15 = a15 at *;generalize t - 16 = a16 at *;have b1:=rotw_lt (w:=64) (n:=19) (x:=x) (by decide) x2;have b2:=rotw_lt (w:=64) (n:=61) (x:=x) (by decide) x2;have b3:=rotw_lt (w:=64) (n:=1) (x:=y) (by decide) x15;have b4:=rotw_lt (w:=64) (n:=8) (x:=y) (by decide) x15;have R1:=fun w1=>Lib.hid (rot64_f x 19 x2 (by decide) (by decide) w1);have R2:=fun w1=>Lib.hid (rot64_f x 61 x2 (by decide) (by decide) w1);have R3:=fun w1=>Lib.hid (rot64_f y 1 x15 (by decide) (by decide) w1);have R4:=fun w1=>Lib.hid (rot64_f y 8 x15 (by decide) (by decide) w1);have s1 : loww 64 (19,61,6) x = rotw 64 19 x ^^^ rotw 64 61 x ^^^ x / 64:=rfl;have s0 : loww 64 (1,8,7) y = rotw 64 1 y ^^^ rotw 64 8 y ^^^ y / 128:=rfl;rw [s1,s0] at hF;generalize rotw 64 19 x = r1 at *;generalize rotw 64 61 x = r2 at *;generalize rotw 64 1 y = r3 at *;generalize rotw 64 8 y = r4 at *
     have d6 : (x : Int) / 64 = ((x / 64 : Nat) : Int):=by omega
     have d7 : (y : Int) / 128 = ((y / 128 : Nat) : Int):=by omega
     have hd6 : x / 64 < 18446744073709551616:=by omega
     have hd7 : y / 128 < 18446744073709551616:=by omega
     generalize x / 64 = u6 at *;generalize y / 128 = u7 at *;have o1:=u64_xor_nat r1 r2 b1 b2;have o2:=u64_xor_nat (r1 ^^^ r2) u6 (xor_lt b1 b2) hd6;have o3:=u64_xor_nat r3 r4 b3 b4;have o4:=u64_xor_nat (r3 ^^^ r4) u7 (xor_lt b3 b4) hd7;have c1:=xor_lt (xor_lt b1 b2) hd6;have c0:=xor_lt (xor_lt b3 b4) hd7;generalize r1 ^^^ r2 ^^^ u6 = v1 at *;generalize r3 ^^^ r4 ^^^ u7 = v0 at *;generalize r1 ^^^ r2 = v2 at *;generalize r3 ^^^ r4 = v3 at *
     have w1 : IntKind.u64.wrap ((v1 : Int) + (p : Int)) = (((v1 + p) % 18446744073709551616 : Nat) : Int):=by rw [IntKind.wrap_u64]; omega
     have w2 : IntKind.u64.wrap ((((v1 + p) % 18446744073709551616 : Nat) : Int) + (v0 : Int)) = ((((v1 + p) % 18446744073709551616 + v0) % 18446744073709551616 : Nat) : Int):=by rw [IntKind.wrap_u64]; omega
     have w3 : IntKind.u64.wrap (((((v1 + p) % 18446744073709551616 + v0) % 18446744073709551616 : Nat) : Int) + (q : Int)) = ((F t : Nat) : Int):=by rw [hF,IntKind.wrap_u64]; omega
     have HN:=Lib.hid hN;clear hS hN hF s1 s0 b1 b2 b3 b4 hd6 hd7 c1 c0;generalize ((v1 + p) % 18446744073709551616 + v0) % 18446744073709551616 = v5 at *;generalize (v1 + p) % 18446744073709551616 = v4 at *;generalize F t = z at *
     go_wp2
     go_region
     clear k2 k15;generalize wr.drew = W2 at *
     go_wp2_with (fail)
     refine (R1 _).out.mono ?_
     rintro e w4 ⟨rfl,rfl⟩
     go_wp2_with (fail)
     refine (R2 _).out.mono ?_
     rintro e w4 ⟨rfl,rfl⟩
     go_wp2_with (fail)
     refine (R3 _).out.mono ?_
     rintro e w4 ⟨rfl,rfl⟩
     go_wp2_with (fail)
     refine (R4 _).out.mono ?_
     rintro e w4 ⟨rfl,rfl⟩
     go_wp2_with (fail)
     go_still_tail 15,(by kernel_rfl)
     go_wp2
     go_roundw
     case rel=>exact ⟨t + 1,by omega,by omega,by go_num,HN.out.drew⟩
     case measure=>simp [intOf]; omega
    ·obtain rfl : t = 80:=by omega
     obtain ⟨b0,b1,b2,be⟩:=hS
     have hz : (Us (mxl F z80 80)).toArray.size = 80:=by rw [List.size_toArray,Us_len,mxl_len,z80_len]
     clear b0
     go_wp2_with (first
      | (refine wpList_load_row rfl 148 _ rfl (w.heap.size + 1 + 1) rfl 148 (Us (mxl F z80 80)).toArray (0,0) _ b2 Tryz.underlying148 rfl (size_x80 _ hz) ?_)
      | (refine wpList_store_row rfl 148 _ _ rfl (w.heap.size + 1) rfl (Us (mxl F z80 80)).toArray rfl 148 _ b1 (size_x80 _ hz) (by rw [hz,List.size_toArray,Us_len,z80_len]) (Us_one _) ?_))
     refine bodyPost_ret (results_cell_row rfl _ _ (w.heap.size + 1) 148 (Us (mxl F z80 80)).toArray (0,0) _ rfl (b1.row _) Tryz.underlying148 rfl (size_x80 _ hz)) rfl ⟨rfl,?_⟩;exact below_setRow be (by omega) _
end Go.Proofs.YtlcbhbahchiofaaGreatDoor
/-
  THE DIGESTS: turn512: the eight words turned by a block.
-/
namespace Go.Proofs.YtlcbhbahchiofaaGreatDoor
open Go.RowKit Go.IntWalk Nums

theorem own_long512 : Own 91:=fun _ _=>by go_simp
theorem size_w8 (cs : Array Value) (h : cs.size = 8) : (Tryz.prog.info? 120).map (·.size) = some cs.size:=by
 rw [h]
 kernel_rfl
theorem size_b128 (cs : Array Value) (h : cs.size = 128) : (Tryz.prog.info? 121).map (·.size) = some cs.size:=by
 rw [h]
 kernel_rfl
theorem len_b128 {l : List UInt8} (h : l.length = 128) : (By l).toArray.size = 128:=by rw [List.size_toArray,By_len,h]
def z8w : Array Value:=(Us [0,0,0,0,0,0,0,0]).toArray
structure Ts (w : World) : Prop where
  cell : ∀ i,i < 80 → w.cell? ⟨1,i,none⟩ = some (.int .u64 (cbs[i]! : Nat))
  lt : 1 < w.heap.size
theorem Ts.below {w w' : World} (h : Ts w) (hb : Below w.heap.size w w') : Ts w' :=
 ⟨fun i hi=>(hb.cell (p:=⟨1,i,none⟩) h.lt).trans (h.cell i hi),Nat.lt_of_lt_of_le h.lt hb.size⟩
theorem Ts.drew {w : World} (h : Ts w) : Ts w.drew:=⟨h.cell,h.lt⟩
theorem cbs_lt {t : Nat} (h : t < 80) : cbs[t]! < 18446744073709551616:=by
 have h1 : ∀ x ∈ cbs,x < 18446744073709551616:=by decide
 have h2 : t < cbs.length:=h;rw [getElem!_pos cbs t h2];exact h1 _ (List.getElem_mem _)

section
variable {ops : Array Oper} {C0 : World → Prop} {Q : Act → Prop} {a : Act} {o : Oper} {rest : List Oper}
theorem b_by128 {l : List UInt8} (g : Nat) (hl : l.length = 128) (x : Operand) (hg : Region.wanted o (yielded ops a.tmps) = true) (ho : o.op = .load 121 x) (hx : a.eval x = .pointer (some ⟨g,0,none⟩))
  (hc : ∀ w,C0 w → Blk w g 121 (By l).toArray) (hk : wpB Tryz.prog ops C0 Q rest (a.put o.dst (.agg (By l).toArray))) : wpB Tryz.prog ops C0 Q (o :: rest) a :=
 b_mid hg 121 x ho g 0 hx (By l) _ (fun w h=>(hc w h).range) Tryz.underlying121 rfl (size_b128 (By l).toArray (len_b128 hl)) hk
theorem b_idx8 {x : Operand} (g k : Nat) (hk8 : k < 8) (hg : Region.wanted o (yielded ops a.tmps) = true) (ho : o.op = .indexAddr 120 x (.const (.int .i64 (k : Int)))) (hx : a.eval x = .pointer (some ⟨g,0,none⟩))
  (hk : wpB Tryz.prog ops C0 Q rest (a.put o.dst (.pointer (some ⟨g,k,none⟩)))) : wpB Tryz.prog ops C0 Q (o :: rest) a :=
 b_val hg (fun w _=>by
  have h1 : (k : Int) < 8:=by omega
  have h2 : (0 : Int) ≤ (k : Int):=by omega
  unfold execOp
  simp only [ho,hx]
  go_simp) hk
theorem b_cellW {x : Operand} (g k v : Nat) (hg : Region.wanted o (yielded ops a.tmps) = true) (ho : o.op = .load 51 x) (hx : a.eval x = .pointer (some ⟨g,k,none⟩)) (hc : ∀ w,C0 w → w.cell? ⟨g,k,none⟩ = some (.int .u64 (v : Int)))
  (hk : wpB Tryz.prog ops C0 Q rest (a.put o.dst (.int .u64 (v : Int)))) : wpB Tryz.prog ops C0 Q (o :: rest) a :=
 b_val hg (fun w hw=>by
  have h1:=hc w hw
  unfold execOp
  simp only [ho,hx]
  go_simp) hk
theorem b_assignV {x : Operand} (v : Value) (hg : Region.wanted o (yielded ops a.tmps) = true) (ho : o.op = .assign x) (hx : a.eval x = v) (hk : wpB Tryz.prog ops C0 Q rest (a.put o.dst v)) : wpB Tryz.prog ops C0 Q (o :: rest) a:=by
 subst hx;exact b_assign hg ho hk
end

theorem not64 {e : Nat} (he : e < 18446744073709551616) : bits .xor .u64 (if IntKind.u64.signed = true then -1 else IntKind.u64.max) (e : Int) = ((2 ^ 64 - 1 - e : Nat) : Int):=by
 have h:=u64_xor_nat 18446744073709551615 e (by omega) he
 have h2 : 18446744073709551615 ^^^ e = 2 ^ 64 - 1 - e:=by
  apply Nat.eq_of_testBit_eq
  intro i
  rw [show 2 ^ 64 - 1 - e = 2 ^ 64 - (e + 1) by omega,Nat.testBit_two_pow_sub_succ he,Nat.testBit_xor,show 18446744073709551615 = 2 ^ 64 - 1 from rfl,Nat.testBit_two_pow_sub_one]
  by_cases hi : i < 64
  ·simp [hi]
  ·have h3 : e.testBit i = false:=Nat.testBit_lt_two_pow (Nat.lt_of_lt_of_le he (Nat.pow_le_pow_right (n:=2) (by decide) (show 64 ≤ i by omega)))
   simp [hi,h3]
 rw [h2] at h;exact h

structure TS5 (w wr : World) (o : Oct) (gx : Nat) (l : List Nat) : Prop where
  b0 : Blk wr w.heap.size 120 (Us o.list).toArray
  b2 : Blk wr (w.heap.size + 1 + 1) 120 z8w
  bx : Blk wr gx 148 (Us l).toArray
  tw : Ts wr
  be : Below w.heap.size w wr
theorem TS5.up {w wr w1 : World} {o : Oct} {gx : Nat} {l : List Nat} (h : TS5 w wr o gx l) (k : Up wr w1) : TS5 w w1 o gx l:=⟨k.blk h.b0,k.blk h.b2,k.blk h.bx,h.tw.below k,below_up h.be k⟩
theorem TS5.drew {w wr : World} {o : Oct} {gx : Nat} {l : List Nat} (h : TS5 w wr o gx l) : TS5 w wr.drew o gx l:=⟨h.b0,h.b2,h.bx,h.tw.drew,h.be.drew⟩

set_option maxRecDepth 100000 in
set_option maxHeartbeats 8000000 in
theorem turn512_f {o : Oct} (ho : OB 64 o) {b : List UInt8} (hb : b.length = 128) (w : World) (hT : Ts w) :
  Calls Tryz.prog 70 #[.agg (Us o.list).toArray,.agg (By b).toArray] w fun e w'=>e = .returned (.agg (Us (turnw s512 o b).list).toArray) ∧ Below w.heap.size w w':=by
 have HL:=fun w1=>long512_f hb w1;have hxl : ∀ t,t < 80 → (mxl (sx s512 b) z80 80)[t]! = sx s512 b t:=fun t h=>mxl_in h (by rw [z80_len]; exact h);have hxb:=sx_lt s512 b (by decide)
 have hxn : (mxl (sx s512 b) z80 80).length = 80:=by rw [mxl_len,z80_len]
 have hO:=fun t=>OB.rnds (s:=s512) (b:=b) ho t;have hstep : ∀ t,rnds s512 b o (t + 1) = rnd s512 (cbs[t]!) (sx s512 b t) (rnds s512 b o t):=fun t=>rfl;have h0 : rnds s512 b o 0 = o:=rfl;have hend : turnw s512 o b = add8 64 o (rnds s512 b o 80):=rfl;rw [hend];clear hend
 have hzx : (Us (mxl (sx s512 b) z80 80)).toArray.size = 80:=by rw [List.size_toArray,Us_len,hxn]
 generalize mxl (sx s512 b) z80 80 = l at *;generalize sx s512 b = F at *;generalize rnds s512 b o = R at *
 go_enter Tryz.func70,Tryz.ntmps70
 refine wp_seq_k fun K hK=>?_;refine wp_region_lit ?_;refine wpl_box (Us o.list).toArray rfl rfl rfl ?_;refine wpl_box (By b).toArray rfl rfl rfl ?_;refine wpl_alloc (zs:=z8w) rfl rfl (by kernel_rfl) ?_;refine wpl_nil ?_
 go_simp
 refine hK _ _ ?_;clear hK K;refine wp_at (fun W=>Blk W w.heap.size 120 (Us o.list).toArray ∧ Blk W (w.heap.size + 1) 121 (By b).toArray ∧ Blk W (w.heap.size + 1 + 1) 120 z8w ∧ Ts W ∧ Below w.heap.size w W) ⟨blk3_0 w _ _ _ _,blk3_1 w _ _ _ _,blk3_2 w _ _ _ _,hT.below ((((Below.refl _ _).alloc (Nat.le_refl _) _).alloc (by simp) _).alloc (by simp; omega) _),(((Below.refl _ _).alloc (Nat.le_refl _) _).alloc (by simp) _).alloc (by simp; omega) _⟩ ?_
 rintro W ⟨k0,k1,k2,hTW,hbe⟩
 refine wp_seq_k fun K hK=>?_;refine reg_varF 2 5 148 (.tmp 20) (Us z80).toArray rfl rfl rfl rfl rfl rfl rfl (exec_alloc rfl zx80) ?_;simp only [List.take_succ_cons,List.take_zero];refine b_by128 (w.heap.size + 1) hb _ rfl rfl rfl (fun _ h=>h.blk k1) ?_;simp only [Act.put,List.setIfInBounds_toArray,List.set_cons_zero,List.set_cons_succ];refine b_one rfl own_long512 (fun w1=>HL w1) rfl rfl ?_;simp only [Act.put,List.setIfInBounds_toArray,List.set_cons_zero,List.set_cons_succ];refine wpB_nil ⟨(Us l).toArray,fun _=>rfl,fun _=>rfl,by rw [hzx,List.size_toArray,Us_len,z80_len],size_x80 _ hzx,Us_one _,fun gx W3 hgx hw1 hbx=>?_⟩;simp only [Exit.then,Act.put,List.setIfInBounds_toArray,List.set_cons_zero,List.set_cons_succ];refine hK _ _ ?_;clear hK K;have hS : TS5 w W3 o gx l:=⟨hw1.blk k0,hw1.blk k2,hbx,hTW.below hw1,below_up hbe hw1⟩;clear k0 k1 k2 hTW hbe hw1 hbx HL hT;have hb0:=hS.b0;have HS:=Lib.hid (And.intro hS h0);clear hS h0;refine wp_seq_k fun K hK=>?_;refine reg_q (by kernel_rfl) (tail_ok (by kernel_rfl)) (fun _ _ d _ _ h=>by cases d <;> exact h) ?_;refine b_idx8 w.heap.size 0 (by decide) rfl rfl rfl ?_;simp only [Act.put,List.setIfInBounds_toArray,List.set_cons_zero,List.set_cons_succ];refine b_cellW w.heap.size 0 o.a rfl rfl rfl (fun _ h=>(h.blk hb0).cell 0) ?_;simp only [Act.put,List.setIfInBounds_toArray,List.set_cons_zero,List.set_cons_succ];refine b_idx8 w.heap.size 1 (by decide) rfl rfl rfl ?_;simp only [Act.put,List.setIfInBounds_toArray,List.set_cons_zero,List.set_cons_succ];refine b_cellW w.heap.size 1 o.b rfl rfl rfl (fun _ h=>(h.blk hb0).cell 1) ?_;simp only [Act.put,List.setIfInBounds_toArray,List.set_cons_zero,List.set_cons_succ];refine b_idx8 w.heap.size 2 (by decide) rfl rfl rfl ?_;simp only [Act.put,List.setIfInBounds_toArray,List.set_cons_zero,List.set_cons_succ];refine b_cellW w.heap.size 2 o.c rfl rfl rfl (fun _ h=>(h.blk hb0).cell 2) ?_;simp only [Act.put,List.setIfInBounds_toArray,List.set_cons_zero,List.set_cons_succ];refine b_idx8 w.heap.size 3 (by decide) rfl rfl rfl ?_;simp only [Act.put,List.setIfInBounds_toArray,List.set_cons_zero,List.set_cons_succ];refine b_cellW w.heap.size 3 o.d rfl rfl rfl (fun _ h=>(h.blk hb0).cell 3) ?_;simp only [Act.put,List.setIfInBounds_toArray,List.set_cons_zero,List.set_cons_succ];refine b_idx8 w.heap.size 4 (by decide) rfl rfl rfl ?_;simp only [Act.put,List.setIfInBounds_toArray,List.set_cons_zero,List.set_cons_succ];refine b_cellW w.heap.size 4 o.e rfl rfl rfl (fun _ h=>(h.blk hb0).cell 4) ?_;simp only [Act.put,List.setIfInBounds_toArray,List.set_cons_zero,List.set_cons_succ];refine b_idx8 w.heap.size 5 (by decide) rfl rfl rfl ?_;simp only [Act.put,List.setIfInBounds_toArray,List.set_cons_zero,List.set_cons_succ];refine b_cellW w.heap.size 5 o.f rfl rfl rfl (fun _ h=>(h.blk hb0).cell 5) ?_;simp only [Act.put,List.setIfInBounds_toArray,List.set_cons_zero,List.set_cons_succ];refine b_idx8 w.heap.size 6 (by decide) rfl rfl rfl ?_
 simp only [Act.put,List.setIfInBounds_toArray,List.set_cons_zero,List.set_cons_succ];refine b_cellW w.heap.size 6 o.g rfl rfl rfl (fun _ h=>(h.blk hb0).cell 6) ?_;simp only [Act.put,List.setIfInBounds_toArray,List.set_cons_zero,List.set_cons_succ];refine b_idx8 w.heap.size 7 (by decide) rfl rfl rfl ?_;simp only [Act.put,List.setIfInBounds_toArray,List.set_cons_zero,List.set_cons_succ];refine b_cellW w.heap.size 7 o.h rfl rfl rfl (fun _ h=>(h.blk hb0).cell 7) ?_;simp only [Act.put,List.setIfInBounds_toArray,List.set_cons_zero,List.set_cons_succ];refine b_assignV (.int .u64 (o.a : Int)) rfl rfl rfl ?_;simp only [Act.put,List.setIfInBounds_toArray,List.set_cons_zero,List.set_cons_succ];refine b_assignV (.int .u64 (o.b : Int)) rfl rfl rfl ?_;simp only [Act.put,List.setIfInBounds_toArray,List.set_cons_zero,List.set_cons_succ];refine b_assignV (.int .u64 (o.c : Int)) rfl rfl rfl ?_;simp only [Act.put,List.setIfInBounds_toArray,List.set_cons_zero,List.set_cons_succ];refine b_assignV (.int .u64 (o.d : Int)) rfl rfl rfl ?_;simp only [Act.put,List.setIfInBounds_toArray,List.set_cons_zero,List.set_cons_succ];refine b_assignV (.int .u64 (o.e : Int)) rfl rfl rfl ?_;simp only [Act.put,List.setIfInBounds_toArray,List.set_cons_zero,List.set_cons_succ];refine b_assignV (.int .u64 (o.f : Int)) rfl rfl rfl ?_;simp only [Act.put,List.setIfInBounds_toArray,List.set_cons_zero,List.set_cons_succ];refine b_assignV (.int .u64 (o.g : Int)) rfl rfl rfl ?_;simp only [Act.put,List.setIfInBounds_toArray,List.set_cons_zero,List.set_cons_succ];refine b_assignV (.int .u64 (o.h : Int)) rfl rfl rfl ?_;simp only [Act.put,List.setIfInBounds_toArray,List.set_cons_zero,List.set_cons_succ];refine wpB_nil ?_
 intro W4 hw1
 simp only [Exit.then];refine hK _ _ ?_;clear hK K hb0;have HS:=Lib.hid (And.intro (HS.out.1.up hw1) HS.out.2);clear hw1
 go_wp2
 go_loopw [37,6,7,8,9,10,11,12,13] (fun i va vb vc vd ve vf vg vh wr=>∃ t : Nat,t ≤ 80 ∧ i = .int .i64 t ∧ va = .int .u64 (R t).a ∧ vb = .int .u64 (R t).b ∧ vc = .int .u64 (R t).c ∧ vd = .int .u64 (R t).d ∧ ve = .int .u64 (R t).e ∧ vf = .int .u64 (R t).f ∧ vg = .int .u64 (R t).g ∧ vh = .int .u64 (R t).h ∧ TS5 w wr o gx l) (fun i _ _ _ _ _ _ _ _ _=>80 - (intOf i).toNat)
 case atStart =>
  obtain ⟨hS,h0⟩:=HS.out;refine ⟨0,by omega,rfl,?_⟩;rw [h0];exact ⟨rfl,rfl,rfl,rfl,rfl,rfl,rfl,rfl,hS⟩
 case round =>
  clear HS;obtain ⟨t,ht,rfl,rfl,rfl,rfl,rfl,rfl,rfl,rfl,rfl,hS⟩:=hrel
  by_cases htl : t < 80
  ·have hs:=hstep t
   obtain ⟨ba,bb,bc,bd,be,bf,bg,bh⟩:=hO t;have hX : F t < 18446744073709551616:=hxb t;have hKt:=cbs_lt htl;have cx:=(hS.drew.bx.cell t).trans (Us_at (by omega));rw [hxl t htl] at cx;have ck:=hS.drew.tw.cell t htl;generalize R t = q at *;obtain ⟨a,b',c,d,e,f,g,h⟩:=q;generalize F t = X at *;generalize cbs[t]! = Kt at *
   dsimp only at ba bb bc bd be bf bg bh ⊢
   have e1 : bigw 64 (14,18,41) e = rotw 64 14 e ^^^ rotw 64 18 e ^^^ rotw 64 41 e:=rfl;have e0 : bigw 64 (28,34,39) a = rotw 64 28 a ^^^ rotw 64 34 a ^^^ rotw 64 39 a:=rfl;have r1:=rotw_lt (w:=64) (n:=14) (x:=e) (by decide) be;have r2:=rotw_lt (w:=64) (n:=18) (x:=e) (by decide) be;have r3:=rotw_lt (w:=64) (n:=41) (x:=e) (by decide) be;have r4:=rotw_lt (w:=64) (n:=28) (x:=a) (by decide) ba;have r5:=rotw_lt (w:=64) (n:=34) (x:=a) (by decide) ba;have r6:=rotw_lt (w:=64) (n:=39) (x:=a) (by decide) ba;have R1:=fun w1=>Lib.hid (rot64_f e 14 be (by decide) (by decide) w1);have R2:=fun w1=>Lib.hid (rot64_f e 18 be (by decide) (by decide) w1);have R3:=fun w1=>Lib.hid (rot64_f e 41 be (by decide) (by decide) w1);have R4:=fun w1=>Lib.hid (rot64_f a 28 ba (by decide) (by decide) w1);have R5:=fun w1=>Lib.hid (rot64_f a 34 ba (by decide) (by decide) w1);have R6:=fun w1=>Lib.hid (rot64_f a 39 ba (by decide) (by decide) w1);have hnew : rnd s512 Kt X ⟨a,b',c,d,e,f,g,h⟩ = ⟨(h + bigw 64 (14,18,41) e + chw 64 e f g + Kt + X + (bigw 64 (28,34,39) a + maw a b' c)) % 18446744073709551616,a,b',c,(d + (h + bigw 64 (14,18,41) e + chw 64 e f g + Kt + X)) % 18446744073709551616,e,f,g⟩:=rfl;rw [hnew] at hs;clear hnew;have u1:=bigw_lt (w:=64) (t:=(14,18,41)) (x:=e) (by decide) be;have u0:=bigw_lt (w:=64) (t:=(28,34,39)) (x:=a) (by decide) ba;have uc:=chw_lt (w:=64) (e:=e) (f:=f) (g:=g) be;have um:=maw_lt (w:=64) (a:=a) (b:=b') (c:=c) ba bb;have x1:=u64_xor_nat _ _ r1 r2;have x2:=u64_xor_nat _ _ (xor_lt r1 r2) r3;have x3:=u64_xor_nat _ _ r4 r5;have x4:=u64_xor_nat _ _ (xor_lt r4 r5) r6;rw [← e1] at x2;rw [← e0] at x4;generalize bigw 64 (14,18,41) e = s1 at *;generalize bigw 64 (28,34,39) a = s0 at *;generalize rotw 64 14 e ^^^ rotw 64 18 e = y1 at *;generalize rotw 64 28 a ^^^ rotw 64 34 a = y0 at *;generalize rotw 64 14 e = p1 at *;generalize rotw 64 18 e = p2 at *;generalize rotw 64 41 e = p3 at *;generalize rotw 64 28 a = p4 at *;generalize rotw 64 34 a = p5 at *;generalize rotw 64 39 a = p6 at *;have n1:=u64_and_nat e f be bf;have n2:=u64_and_nat (2 ^ 64 - 1 - e) g (by omega) bg;have n3 : bits .xor .u64 ((e &&& f : Nat) : Int) (((2 ^ 64 - 1 - e) &&& g : Nat) : Int) = ((chw 64 e f g : Nat) : Int):=u64_xor_nat _ _ (and_lt (w:=64) be) (and_lt (w:=64) (Nat.lt_of_le_of_lt (Nat.sub_le (2 ^ 64 - 1) e) (by decide)));have n4:=u64_and_nat a b' ba bb;have n5:=u64_and_nat a c ba bc;have n6:=u64_and_nat b' c bb bc;have n7:=u64_xor_nat (a &&& b') (a &&& c) (and_lt ba) (and_lt ba);have n8 : bits .xor .u64 (((a &&& b') ^^^ (a &&& c) : Nat) : Int) ((b' &&& c : Nat) : Int) = ((maw a b' c : Nat) : Int):=u64_xor_nat _ _ (xor_lt (and_lt ba) (and_lt ba)) (and_lt bb);generalize chw 64 e f g = ch at *;generalize maw a b' c = ma at *;generalize (a &&& b') ^^^ (a &&& c) = m4 at *;generalize a &&& b' = m1 at *;generalize a &&& c = m2 at *
   generalize b' &&& c = m3 at *;generalize e &&& f = m5 at *;generalize (2 ^ 64 - 1 - e) &&& g = m6 at *;have nn:=not64 be;generalize 2 ^ 64 - 1 - e = ne at *;obtain ⟨q1,hq1⟩ : ∃ z,z = (h + s1) % 18446744073709551616:=⟨_,rfl⟩;obtain ⟨q2,hq2⟩ : ∃ z,z = (q1 + ch) % 18446744073709551616:=⟨_,rfl⟩;obtain ⟨q3,hq3⟩ : ∃ z,z = (q2 + Kt) % 18446744073709551616:=⟨_,rfl⟩;obtain ⟨q4,hq4⟩ : ∃ z,z = (q3 + X) % 18446744073709551616:=⟨_,rfl⟩;obtain ⟨q5,hq5⟩ : ∃ z,z = (s0 + ma) % 18446744073709551616:=⟨_,rfl⟩;obtain ⟨q6,hq6⟩ : ∃ z,z = (d + q4) % 18446744073709551616:=⟨_,rfl⟩;obtain ⟨q7,hq7⟩ : ∃ z,z = (q4 + q5) % 18446744073709551616:=⟨_,rfl⟩
   have t1 : IntKind.u64.wrap ((h : Int) + (s1 : Int)) = (q1 : Int):=by rw [IntKind.wrap_u64]; omega
   have t2 : IntKind.u64.wrap ((q1 : Int) + (ch : Int)) = (q2 : Int):=by rw [IntKind.wrap_u64]; omega
   have t3 : IntKind.u64.wrap ((q2 : Int) + (Kt : Int)) = (q3 : Int):=by rw [IntKind.wrap_u64]; omega
   have t4 : IntKind.u64.wrap ((q3 : Int) + (X : Int)) = (q4 : Int):=by rw [IntKind.wrap_u64]; omega
   have t5 : IntKind.u64.wrap ((s0 : Int) + (ma : Int)) = (q5 : Int):=by rw [IntKind.wrap_u64]; omega
   have t6 : IntKind.u64.wrap ((d : Int) + (q4 : Int)) = (q6 : Int):=by rw [IntKind.wrap_u64]; omega
   have t7 : IntKind.u64.wrap ((q4 : Int) + (q5 : Int)) = (q7 : Int):=by rw [IntKind.wrap_u64]; omega
   have h6 : (d + (h + s1 + ch + Kt + X)) % 18446744073709551616 = q6:=by omega
   have h7 : (h + s1 + ch + Kt + X + (s0 + ma)) % 18446744073709551616 = q7:=by omega
   rw [h6,h7] at hs;clear hq1 hq2 hq3 hq4 hq5 hq6 hq7 h6 h7;have HN:=Lib.hid (And.intro hs hS.drew);clear hs hS e1 e0 r1 r2 r3 r4 r5 r6
   go_wp2_with (fail)
   refine (R1 _).out.mono ?_
   rintro z w4 ⟨rfl,rfl⟩
   go_wp2_with (fail)
   refine (R2 _).out.mono ?_
   rintro z w4 ⟨rfl,rfl⟩
   go_wp2_with (fail)
   refine (R3 _).out.mono ?_
   rintro z w4 ⟨rfl,rfl⟩
   go_wp2_with (fail)
   refine (R4 _).out.mono ?_
   rintro z w4 ⟨rfl,rfl⟩
   go_wp2_with (fail)
   refine (R5 _).out.mono ?_
   rintro z w4 ⟨rfl,rfl⟩
   go_wp2_with (fail)
   refine (R6 _).out.mono ?_
   rintro z w4 ⟨rfl,rfl⟩
   go_wp2_with (fail)
   go_region
   go_wp2
   go_roundw
   case rel =>
    obtain ⟨hs,hS⟩:=HN.out;refine ⟨t + 1,by omega,by go_num,?_⟩;rw [hs];exact ⟨rfl,rfl,rfl,rfl,rfl,rfl,rfl,rfl,hS⟩
   case measure=>simp [intOf]; omega
  ·obtain rfl : t = 80:=by omega
   obtain ⟨ba,bb,bc,bd,be,bf,bg,bh⟩:=hO 80;obtain ⟨ha,hb',hc,hd,he,hf,hg,hh⟩:=ho;generalize hq : R 80 = q at *;obtain ⟨a,b',c,d,e,f,g,h⟩:=q;have HQ:=Lib.hid hq;clear hq
   dsimp only at ba bb bc bd be bf bg bh ⊢
   obtain ⟨k0,k2,kx,kt,kb⟩:=hS;have c0 : wr.cell? ⟨w.heap.size,0,none⟩ = some (.int .u64 (o.a : Int)):=k0.cell 0;have c1 : wr.cell? ⟨w.heap.size,1,none⟩ = some (.int .u64 (o.b : Int)):=k0.cell 1;have c2 : wr.cell? ⟨w.heap.size,2,none⟩ = some (.int .u64 (o.c : Int)):=k0.cell 2;have c3 : wr.cell? ⟨w.heap.size,3,none⟩ = some (.int .u64 (o.d : Int)):=k0.cell 3;have c4 : wr.cell? ⟨w.heap.size,4,none⟩ = some (.int .u64 (o.e : Int)):=k0.cell 4;have c5 : wr.cell? ⟨w.heap.size,5,none⟩ = some (.int .u64 (o.f : Int)):=k0.cell 5;have c6 : wr.cell? ⟨w.heap.size,6,none⟩ = some (.int .u64 (o.g : Int)):=k0.cell 6;have c7 : wr.cell? ⟨w.heap.size,7,none⟩ = some (.int .u64 (o.h : Int)):=k0.cell 7
   have w0 : IntKind.u64.wrap ((o.a : Int) + (a : Int)) = (((o.a + a) % 18446744073709551616 : Nat) : Int):=by rw [IntKind.wrap_u64]; omega
   have w1 : IntKind.u64.wrap ((o.b : Int) + (b' : Int)) = (((o.b + b') % 18446744073709551616 : Nat) : Int):=by rw [IntKind.wrap_u64]; omega
   have w2 : IntKind.u64.wrap ((o.c : Int) + (c : Int)) = (((o.c + c) % 18446744073709551616 : Nat) : Int):=by rw [IntKind.wrap_u64]; omega
   have w3 : IntKind.u64.wrap ((o.d : Int) + (d : Int)) = (((o.d + d) % 18446744073709551616 : Nat) : Int):=by rw [IntKind.wrap_u64]; omega
   have w4 : IntKind.u64.wrap ((o.e : Int) + (e : Int)) = (((o.e + e) % 18446744073709551616 : Nat) : Int):=by rw [IntKind.wrap_u64]; omega
   have w5 : IntKind.u64.wrap ((o.f : Int) + (f : Int)) = (((o.f + f) % 18446744073709551616 : Nat) : Int):=by rw [IntKind.wrap_u64]; omega
   have w6 : IntKind.u64.wrap ((o.g : Int) + (g : Int)) = (((o.g + g) % 18446744073709551616 : Nat) : Int):=by rw [IntKind.wrap_u64]; omega
   have w7 : IntKind.u64.wrap ((o.h : Int) + (h : Int)) = (((o.h + h) % 18446744073709551616 : Nat) : Int):=by rw [IntKind.wrap_u64]; omega
   have hres : add8 64 o ⟨a,b',c,d,e,f,g,h⟩ = ⟨(o.a + a) % 18446744073709551616,(o.b + b') % 18446744073709551616,(o.c + c) % 18446744073709551616,(o.d + d) % 18446744073709551616,(o.e + e) % 18446744073709551616,(o.f + f) % 18446744073709551616,(o.g + g) % 18446744073709551616,(o.h + h) % 18446744073709551616⟩:=rfl;generalize (o.a + a) % 18446744073709551616 = z0 at *;generalize (o.b + b') % 18446744073709551616 = z1 at *;generalize (o.c + c) % 18446744073709551616 = z2 at *;generalize (o.d + d) % 18446744073709551616 = z3 at *;generalize (o.e + e) % 18446744073709551616 = z4 at *;generalize (o.f + f) % 18446744073709551616 = z5 at *;generalize (o.g + g) % 18446744073709551616 = z6 at *;generalize (o.h + h) % 18446744073709551616 = z7 at *;have HR:=Lib.hid hres;clear hres ba bb bc bd be bf bg bh ha hb' hc hd he hf hg hh k0 kx kt;have HK:=Lib.hid (And.intro k2 kb);clear k2 kb;have hz : (Us [z0,z1,z2,z3,z4,z5,z6,z7]).toArray.size = 8:=rfl;have k2:=HK.out.1
   go_wp2_with (refine wpList_store_row rfl 120 _ _ rfl (w.heap.size + 1 + 1) rfl (Us [z0,z1,z2,z3,z4,z5,z6,z7]).toArray rfl 120 _ k2 (size_w8 _ hz) (by rw [hz]; rfl) (Us_one _) ?_)
   refine bodyPost_ret (results_cell_row rfl _ _ (w.heap.size + 1 + 1) 120 (Us [z0,z1,z2,z3,z4,z5,z6,z7]).toArray (0,0) _ rfl (k2.row _) Tryz.underlying120 rfl (size_w8 _ hz)) rfl ⟨by rw [HQ.out,HR.out]; rfl,?_⟩;exact below_setRow HK.out.2 (by omega) _
end Go.Proofs.YtlcbhbahchiofaaGreatDoor
/-
  THE DIGESTS: lay512: the eight words' bytes, the greatest first.
-/
namespace Nums
def pf (D : List UInt8) (p : Nat → Bool) : List UInt8:=(List.range D.length).map fun m=>if p m then D[m]! else 0
theorem pf_len (D : List UInt8) (p : Nat → Bool) : (pf D p).length = D.length:=by simp [pf]
theorem pf_congr {D : List UInt8} {p q : Nat → Bool} (h : ∀ m,m < D.length → p m = q m) : pf D p = pf D q:=by
 apply List.ext_getElem (by simp [pf])
 intro i h1 h2
 have hi : i < D.length:=by simpa [pf] using h1
 simp [pf,h i hi]
theorem pf_set {D : List UInt8} {p q : Nat → Bool} {k : Nat} (h : ∀ m,m < D.length → q m = (p m || decide (m = k))) : (pf D p).set k D[k]! = pf D q:=by
 apply List.ext_getElem (by simp [pf])
 intro i h1 h2
 have hi : i < D.length:=by simpa [pf] using h2
 rw [List.getElem_set]
 by_cases e : k = i
 ·subst e
  simp [pf,h k hi]
 ·rw [if_neg e]
  have e2 : decide (i = k) = false:=decide_eq_false (fun h=>e h.symm)
  simp [pf,h i hi,e2]
theorem pf_all {D : List UInt8} {p : Nat → Bool} (h : ∀ m,m < D.length → p m = true) : pf D p = D:=by
 apply List.ext_getElem (by simp [pf])
 intro i h1 h2
 simp [pf,h i h2,h2]
theorem pf_none {D : List UInt8} {p : Nat → Bool} (h : ∀ m,m < D.length → p m = false) : pf D p = List.replicate D.length 0:=by
 apply List.ext_getElem (by simp [pf])
 intro i h1 h2
 have hi : i < D.length:=by simpa [pf] using h1
 simp [pf,h i hi]
theorem flat_get {n : Nat} (f : Nat → List UInt8) (hf : ∀ x,(f x).length = n) : ∀ (l : List Nat) {i j : Nat},i < l.length → j < n → ((l.map f).flatten)[n * i + j]! = (f l[i]!)[j]!
 | [],i,_,h,_=>absurd h (by simp)
 | x :: l,0,j,_,hj=>by
  rw [List.map_cons,List.flatten_cons,Nat.mul_zero,Nat.zero_add]
  have h1 : j < (f x).length:=by rw [hf]; exact hj
  rw [getElem!_pos (f x ++ (l.map f).flatten) j (by rw [List.length_append]; omega),List.getElem_append_left h1];exact (getElem!_pos (f x) j h1).symm
 | x :: l,i + 1,j,h,hj=>by
  have ih:=flat_get f hf l (i:=i) (j:=j) (by simpa using h) hj
  have e : ((x :: l).map f).flatten = f x ++ (l.map f).flatten:=by rw [List.map_cons,List.flatten_cons]
  have e2 : (x :: l)[i + 1]! = l[i]!:=rfl;rw [e2,← ih,e];have hx:=hf x
  have hi : n * (i + 1) + j = (f x).length + (n * i + j):=by rw [hx,Nat.mul_add]; omega
  rw [hi]
  by_cases hb : n * i + j < (l.map f).flatten.length
  ·rw [getElem!_pos (l.map f).flatten _ hb,getElem!_pos (f x ++ (l.map f).flatten) _ (by rw [List.length_append]; omega),List.getElem_append_right (by omega)]
   congr 1
   omega
  ·rw [getElem!_neg (l.map f).flatten _ hb,getElem!_neg (f x ++ (l.map f).flatten) _ (by rw [List.length_append]; omega)]
theorem flat_lenB {n : Nat} (f : Nat → List UInt8) (hf : ∀ x,(f x).length = n) : ∀ (l : List Nat),((l.map f).flatten).length = n * l.length
 | []=>rfl
 | x :: l=>by rw [List.map_cons,List.flatten_cons,List.length_append,hf,flat_lenB f hf l,List.length_cons,Nat.mul_add]; omega
theorem layw_len (s : Sha) (x : Nat) : (layw s x).length = s.w / 8:=by
 unfold layw
 rw [List.length_reverse,bytes_len]
end Nums
namespace Go.Proofs.YtlcbhbahchiofaaGreatDoor
open Go.RowKit Go.IntWalk Nums

theorem layw_get {s : Sha} {x j : Nat} (h : j < s.w / 8) : ((layw s x)[s.w / 8 - 1 - j]!).toNat = x / 256 ^ j % 256:=by
 have hl : (Nums.bytes (s.w / 8) x).length = s.w / 8:=bytes_len _ _
 have e : (layw s x)[s.w / 8 - 1 - j]! = (Nums.bytes (s.w / 8) x)[j]!:=by
  unfold layw
  rw [getElem!_pos _ _ (by rw [List.length_reverse,hl]; omega),List.getElem_reverse,getElem!_pos _ j (by rw [hl]; exact h)]
  congr 1
  rw [hl]
  omega
 rw [e,bytes_get _ _ h]

theorem size_b64 (cs : Array Value) (h : cs.size = 64) : (Tryz.prog.info? 43).map (·.size) = some cs.size:=by
 rw [h]
 kernel_rfl
def z64b : List UInt8:=List.replicate 64 0
theorem zb64 : (Tryz.prog.info? 43).bind (fun i=>i.zero.map (·.cells)) = some (By z64b).toArray:=by kernel_rfl

structure LY (w wr : World) (cs : Array Value) (m : List UInt8) : Prop where
  b0 : Blk wr w.heap.size 120 cs
  b1 : Blk wr (w.heap.size + 1) 43 (By z64b).toArray
  b2 : Blk wr (w.heap.size + 1 + 1) 43 (By m).toArray
  be : Below w.heap.size w wr
theorem LY.set {w wr : World} {cs : Array Value} {m : List UInt8} (h : LY w wr cs m) (k : Nat) (x : UInt8) : LY w (wr.setCell ⟨w.heap.size + 1 + 1,k,none⟩ (.int .u8 (x.toNat : Int))) cs (m.set k x) where
 b0:=h.b0.far (by show w.heap.size ≠ w.heap.size + 1 + 1; omega) _
 b1:=h.b1.far (by show w.heap.size + 1 ≠ w.heap.size + 1 + 1; omega) _
 b2:=by
  have h4:=h.b2.set k (.int .u8 (x.toNat : Int));rw [By_set] at h4;exact h4
 be:=h.be.setCell (by show w.heap.size ≤ w.heap.size + 1 + 1; omega) _

set_option maxRecDepth 100000 in
set_option maxHeartbeats 2000000 in
theorem lay512_f {l : List Nat} (hl : l.length = 8) (hw : ∀ x ∈ l,x < 18446744073709551616) (w : World) :
  Calls Tryz.prog 71 #[.agg (Us l).toArray] w fun e w'=>e = .returned (.agg (By (l.map (layw s512)).flatten).toArray) ∧ Below w.heap.size w w':=by
 have hD:=flat_lenB (layw s512) (n:=8) (fun x=>layw_len s512 x) l;rw [hl] at hD
 have hg : ∀ i j,i < 8 → j < 8 → (((l.map (layw s512)).flatten)[8 * i + 7 - j]!).toNat = l[i]! / 256 ^ j % 256:=fun i j hi hj=>by
  have h1:=flat_get (layw s512) (n:=8) (fun x=>layw_len s512 x) l (i:=i) (j:=7 - j) (by omega) (by omega);rw [show 8 * i + 7 - j = 8 * i + (7 - j) by omega,h1];exact layw_get (s:=s512) (j:=j) hj
 have hzs : (Us l).toArray.size = 8:=by rw [List.size_toArray,Us_len,hl]
 have hix : ∀ i,i < 8 → ∀ w1,(Instr.index 120 (.agg (Us l).toArray) (.int .i64 ((i : Nat) : Int))).run Tryz.prog w1 = .ok (.int .u64 (l[i]! : Nat)) w1:=fun i hi w1=>by
  have h0 : (Us l).toArray[i]? = some (.int .u64 (l[i]! : Nat)):=Us_at (by omega)
  have h1 : ((i : Nat) : Int) < 8:=by omega
  have h2 : (0 : Int) ≤ (i : Nat):=by omega
  generalize l[i]! = c at *;generalize (Us l).toArray = cs at *
  unfold Instr.index Go.part
  go_simp
  obtain ⟨_,h⟩:=Array.getElem?_eq_some_iff.1 h0;exact h
 have hwl : ∀ i,i < 8 → l[i]! < 18446744073709551616:=fun i hi=>by
  rw [getElem!_pos l i (by omega)];exact hw _ (List.getElem_mem _)
 generalize (l.map (layw s512)).flatten = D at *;generalize (Us l).toArray = cs at *
 go_enter Tryz.func71,Tryz.ntmps71
 refine wp_seq_k fun K hK=>?_;refine wp_region_lit ?_;refine wpl_box cs rfl rfl rfl ?_;refine wpl_alloc (zs:=(By z64b).toArray) rfl rfl zb64 ?_;refine wpl_nil ?_
 go_simp
 refine hK _ _ ?_;clear hK K;refine wp_seq_k fun K hK=>?_;refine wp_region_lit ?_;refine wpl_alloc (zs:=(By z64b).toArray) rfl rfl zb64 ?_;refine wpl_nil ?_
 go_simp
 refine hK _ _ ?_;clear hK K;refine wp_at (fun W=>LY w W cs z64b) ⟨blk3_0 w _ _ _ _,blk3_1 w _ _ _ _,blk3_2 w _ _ _ _,(((Below.refl _ _).alloc (Nat.le_refl _) _).alloc (by simp) _).alloc (by simp; omega) _⟩ ?_
 intro W hW
 have k0:=hW.b0;have HW:=Lib.hid hW;clear hW
 go_wp2_with (refine wpList_load_row rfl 120 _ rfl w.heap.size rfl 120 cs (0,0) _ k0 Tryz.underlying120 rfl (size_w8 _ hzs) ?_)
 clear k0
 go_loopw [8] (fun i wr=>∃ t : Nat,t ≤ 8 ∧ i = .int .i64 t ∧ LY w wr cs (pf D fun m=>decide (m < 8 * t))) (fun i _=>8 - (intOf i).toNat)
 case atStart =>
  refine ⟨0,by omega,rfl,?_⟩;rw [pf_none (fun m _=>decide_eq_false (by omega)),hD];exact HW.out
 case round =>
  clear HW;obtain ⟨t,ht,rfl,hS⟩:=hrel
  by_cases htl : t < 8
  ·have hi:=hix t htl
   have hx:=hwl t htl;have hby:=fun j hj=>hg t j htl hj;generalize l[t]! = x at *
   have g4 : (0 : Int) ≤ (t : Int):=by omega
   have HS:=Lib.hid hS;clear hS hg hix hwl
   go_wp2
   go_loopw [12,5] (fun j v wq=>∃ n : Nat,n ≤ 8 ∧ j = .int .i64 n ∧ v = .int .u64 ((x / 256 ^ n : Nat) : Int) ∧ LY w wq cs (pf D fun m=>decide (m < 8 * t ∨ 8 * t + 8 - n ≤ m ∧ m < 8 * t + 8))) (fun j _ _=>8 - (intOf j).toNat)
   case atStart =>
    refine ⟨0,by omega,rfl,by rw [Nat.pow_zero,Nat.div_one],?_⟩;rw [pf_congr (q:=fun m=>decide (m < 8 * t)) (fun m _=>decide_eq_decide.2 (by omega))];exact HS.out
   case round =>
    clear HS;obtain ⟨n,hn,rfl,rfl,hS⟩:=hrel
    by_cases hnl : n < 8
    ·have hN:=hS.set (8 * t + 7 - n) D[8 * t + 7 - n]!
     rw [pf_set (q:=fun m=>decide (m < 8 * t ∨ 8 * t + 8 - (n + 1) ≤ m ∧ m < 8 * t + 8)) (fun m _=>by rw [← Bool.decide_or]; exact decide_eq_decide.2 (by omega))] at hN;have hb:=hby n hnl
     have hdiv : x / 256 ^ (n + 1) = x / 256 ^ n / 256:=by rw [Nat.pow_succ,Nat.div_div_eq_div_mul]
     have hle : x / 256 ^ n < 18446744073709551616:=Nat.lt_of_le_of_lt (Nat.div_le_self _ _) hx;have c2:=(hS.b2.cell (8 * t + 7 - n)).trans (By_get (by rw [pf_len,hD]; omega));have f2:=hS.b2.free (8 * t + 7 - n);generalize x / 256 ^ n = y at *
     have q4 : IntKind.u8.wrap (y : Int) = ((D[8 * t + 7 - n]!).toNat : Int):=by
      rw [IntKind.wrap_u8',hb]
      omega
     have g5 : (0 : Int) ≤ (n : Int):=by omega
     have q5 : (y : Int) / 256 = ((y / 256 : Nat) : Int):=by omega
     have HN:=Lib.hid (And.intro hN hdiv);clear hS hN hdiv hb hby hi;generalize (D[8 * t + 7 - n]!).toNat = v at *;generalize ((pf D fun m=>decide (m < 8 * t ∨ 8 * t + 8 - n ≤ m ∧ m < 8 * t + 8))[8 * t + 7 - n]!).toNat = old at *;generalize y / 256 = y2 at *
     go_wp2
     go_roundw
     case rel =>
      obtain ⟨hN,hdiv⟩:=HN.out;refine ⟨n + 1,by omega,by go_num,by rw [hdiv],hN⟩
     case measure=>simp [intOf]; omega
    ·obtain rfl : n = 8:=by omega
     rw [pf_congr (q:=fun m=>decide (m < 8 * (t + 1))) (fun m _=>decide_eq_decide.2 (by omega))] at hS;have HS:=Lib.hid hS;clear hS
     go_wp2
     go_roundw
     case rel=>exact ⟨t + 1,by omega,by go_num,HS.out⟩
     case measure=>simp [intOf]; omega
  ·obtain rfl : t = 8:=by omega
   rw [pf_all (fun m hm=>decide_eq_true (by omega))] at hS;obtain ⟨b0,b1,b2,be⟩:=hS
   have hz : (By D).toArray.size = 64:=by rw [List.size_toArray,By_len,hD]
   clear b0
   go_wp2_with (first
    | (refine wpList_load_row rfl 43 _ rfl (w.heap.size + 1 + 1) rfl 43 (By D).toArray (0,0) _ b2 Tryz.underlying43 rfl (size_b64 _ hz) ?_)
    | (refine wpList_store_row rfl 43 _ _ rfl (w.heap.size + 1) rfl (By D).toArray rfl 43 _ b1 (size_b64 _ hz) (by rw [hz]; rfl) (By_one _) ?_))
   refine bodyPost_ret (results_cell_row rfl _ _ (w.heap.size + 1) 43 (By D).toArray (0,0) _ rfl (b1.row _) Tryz.underlying43 rfl (size_b64 _ hz)) rfl ⟨rfl,?_⟩;exact below_setRow be (by omega) _
end Go.Proofs.YtlcbhbahchiofaaGreatDoor
/-
  STEPS: 'clear(b)' of a slice of bytes; bytes of which the first are others; calls of closures.
-/
namespace Go.Proofs.YtlcbhbahchiofaaGreatDoor
open Go.RowKit Go.IntWalk

theorem setRow_same {w : World} {g t : Nat} {cs : Array Value} (h : Blk w g t cs) : w.setRow g cs = w:=setRow_self w g cs t (0,0) h

def clr (z : List UInt8) (o : Nat) : List UInt8:=z.take o ++ List.replicate (z.length - o) 0
theorem clr_len {z : List UInt8} {o : Nat} (h : o ≤ z.length) : (clr z o).length = z.length:=by
 simp [clr]
 omega
theorem wpl_clear {ops : Array Oper} {rest : List Oper} {op : Oper} {a : Act} {w : World} {Q : Exit → Act → World → Prop} (x : Operand) (hgd : op.guard = none) (ho : op.op = .call { callee:=.builtin .clear,args:=#[x],argTypes:=#[22] })
  (g o n c : Nat) (A : Option Addr) (hx : a.eval x = .slice A n c) (hA : 0 < n → A = some ⟨g,o,none⟩) (z : List UInt8) (t : Nat) (hz : Blk w g t (By z).toArray) (hn : o + n = z.length)
  (z' : List UInt8) (hz' : Hid (clr z o = z')) (h : wpList Tryz.prog ops Q rest (a.put op.dst (.tuple #[])) (w.setRow g (By z').toArray)) : wpList Tryz.prog ops Q (op :: rest) a w:=by
 rw [← hz'.out] at h;refine wpList_plain hgd fun K hK=>?_
 have hrun : (Builtin.clear_ #[22] op.type #[.slice A n c]).run Tryz.prog w = .ok (.tuple #[]) (w.setRow g (By (clr z o)).toArray):=by
  by_cases h0 : n = 0
  ·subst h0
   have e : clr z o = z:=by
    unfold clr
    rw [← hn,Nat.add_zero,Nat.sub_self,List.replicate_zero,List.append_nil,List.take_of_length_le (by omega)]
   rw [e,setRow_same hz];have hu:=Tryz.underlying22
   cases A <;> simp [Builtin.clear_,run_underlying hu]
  ·obtain rfl:=hA (by omega)
   have hst:=run_storeCells_at (P:=Tryz.prog) g o t (List.replicate n (.int .u8 0)) 0 (By z).toArray w hz (by rw [List.length_replicate,List.size_toArray,By_len]; omega) (by intro v hv; rw [List.eq_of_mem_replicate hv]; rfl)
   have e : ((By z).toArray.toList.take (o + 0) ++ List.replicate n (.int .u8 0) ++ (By z).toArray.toList.drop (o + 0 + (List.replicate n (Value.int .u8 0)).length)) = By (clr z o):=by
    have hd : (By z).drop (o + n) = []:=List.drop_eq_nil_of_le (by rw [By_len]; omega);simp only [List.length_replicate,Nat.add_zero,hd,List.append_nil]
    unfold clr
    rw [By_app,← hn,Nat.add_sub_cancel_left]
    simp [By]
   rw [e] at hst
   have hzc : (Builtin.zeroCells #[.int .u8 0] n).toList = List.replicate n (.int .u8 0):=by
    simp [Builtin.zeroCells]
    apply List.ext_getElem
    ·simp
    ·intro i h1 h2
     simp [Nat.mod_one]
   obtain ⟨m,rfl⟩ : ∃ m,n = m + 1:=⟨n - 1,by omega⟩;have hu:=Tryz.underlying22
   simp [Builtin.clear_,run_underlying hu,Value.cells,hzc,hst]
 unfold Oper.wp
 simp [execOp,ho,resolve,invoke,builtin,hx,hrun,Result.andThen]
 exact hK _ _ h
end Go.Proofs.YtlcbhbahchiofaaGreatDoor
/-
  THE DIGESTS: what a full block does (the function that Sum512 hands over), and the message's end.
-/
namespace Go.Proofs.YtlcbhbahchiofaaGreatDoor
open Go.RowKit Go.IntWalk Nums

structure S5 (B gh gb : Nat) (w0 w : World) (o : Oct) (b : List UInt8) : Prop where
  h : Blk w gh 120 (Us o.list).toArray
  m : Blk w gb 121 (By b).toArray
  ob : OB 64 o
  len : b.length = 128
  ts : Ts w
  be : Below B w0 w
  bh : B ≤ gh
  bb : B ≤ gb
  ne : gh ≠ gb
  ht : 1 < B
theorem Ts.belowB {B : Nat} {w w' : World} (h : Ts w) (hb : Below B w w') (hB : 1 < B) : Ts w' :=
 ⟨fun i hi=>(hb.cell (p:=⟨1,i,none⟩) hB).trans (h.cell i hi),Nat.lt_of_lt_of_le h.lt hb.size⟩
section
variable {B gh gb : Nat} {w0 w w' : World} {o : Oct} {b : List UInt8}
theorem S5.up (h : S5 B gh gb w0 w o b) (k : Below w.heap.size w w') (hB : B ≤ w.heap.size) : S5 B gh gb w0 w' o b :=
 ⟨h.h.later k,h.m.later k,h.ob,h.len,h.ts.below k,h.be.trans (k.mono hB),h.bh,h.bb,h.ne,h.ht⟩
theorem S5.rebase (h : S5 B gh gb w0 w o b) : S5 B gh gb w w o b:=⟨h.h,h.m,h.ob,h.len,h.ts,Below.refl _ _,h.bh,h.bb,h.ne,h.ht⟩
theorem S5.since {w1 : World} (h : S5 B gh gb w0 w o b) (k : Below B w1 w0) : S5 B gh gb w1 w o b:=⟨h.h,h.m,h.ob,h.len,h.ts,k.trans h.be,h.bh,h.bb,h.ne,h.ht⟩
theorem S5.size (h : S5 B gh gb w0 w o b) : B ≤ w.heap.size:=Nat.le_of_lt (Nat.lt_of_le_of_lt h.bh h.h.lt)
theorem S5.setH (h : S5 B gh gb w0 w o b) {p : Oct} (hp : OB 64 p) : S5 B gh gb w0 (w.setRow gh (Us p.list).toArray) p b :=
 ⟨h.h.row _,h.m.rowFar (Ne.symm h.ne) _,hp,h.len,h.ts.belowB (below_setRow (Below.refl B w) h.bh _) h.ht,below_setRow h.be h.bh _,h.bh,h.bb,h.ne,h.ht⟩
theorem S5.setM (h : S5 B gh gb w0 w o b) {c : List UInt8} (hc : c.length = 128) : S5 B gh gb w0 (w.setRow gb (By c).toArray) o c :=
 ⟨h.h.rowFar h.ne _,h.m.row _,h.ob,hc,h.ts.belowB (below_setRow (Below.refl B w) h.bb _) h.ht,below_setRow h.be h.bb _,h.bh,h.bb,h.ne,h.ht⟩
theorem S5.setB (h : S5 B gh gb w0 w o b) (k : Nat) (x : UInt8) : S5 B gh gb w0 (w.setCell ⟨gb,k,none⟩ (.int .u8 (x.toNat : Int))) o (b.set k x) where
 h:=h.h.far (by show gh ≠ gb; exact h.ne) _
 m:=by
  have h4:=h.m.set k (.int .u8 (x.toNat : Int));rw [By_set] at h4;exact h4
 ob:=h.ob
 len:=by rw [List.length_set]; exact h.len
 ts:=h.ts.belowB ((Below.refl B w).setCell (p:=⟨gb,k,none⟩) h.bb _) h.ht
 be:=h.be.setCell h.bb _
 bh:=h.bh
 bb:=h.bb
 ne:=h.ne
 ht:=h.ht
end

set_option maxRecDepth 100000 in
set_option maxHeartbeats 1000000 in
theorem take512_f {B gh gb : Nat} {w0 w : World} {o : Oct} {b : List UInt8} (h : S5 B gh gb w0 w o b) :
  Calls Tryz.prog 69 #[.pointer (some ⟨gh,0,none⟩),.pointer (some ⟨gb,0,none⟩)] w fun e w'=>e = .returned (.tuple #[]) ∧ S5 B gh gb w0 w' (turnw s512 o b) b:=by
 have HT:=turn512_f h.ob h.len w h.ts;have kh:=h.h;have km:=h.m;have hz : (Us o.list).toArray.size = 8:=rfl;have hz2 : (Us (turnw s512 o b).list).toArray.size = 8:=rfl;have hb128:=len_b128 h.len;have hp:=OB.turnw s512 o b;have HK:=Lib.hid h;clear h;generalize turnw s512 o b = p at *
 go_enter Tryz.func69,Tryz.ntmps69
 go_wp2_with (first
  | (refine wpList_load_row rfl 120 _ rfl gh rfl 120 (Us o.list).toArray (0,0) _ kh Tryz.underlying120 rfl (size_w8 _ hz) ?_)
  | (refine wpList_load_row rfl 121 _ rfl gb rfl 121 (By b).toArray (0,0) _ km Tryz.underlying121 rfl (size_b128 _ hb128) ?_))
 refine HT.mono ?_
 rintro e w1 ⟨rfl,hw1⟩
 have h1:=HK.out.up hw1 HK.out.size;have kh1:=h1.h;have H2:=Lib.hid (h1.setH hp);clear h1 hw1 HT kh km
 go_wp2_with (refine wpList_store_row rfl 120 _ _ rfl gh rfl (Us p.list).toArray rfl 120 _ kh1 (size_w8 _ hz2) (by rw [hz,hz2]) (Us_one _) ?_)
 go_end0
 exact ⟨rfl,H2.out⟩

/-! ### The message's end -/
theorem be64_len (v : Nat) : (be64 v).length = 8:=by
 unfold be64
 rw [List.length_reverse,bytes_len]
theorem be64_mod (v : Nat) : be64 (v % 18446744073709551616) = be64 v:=by
 unfold be64
 congr 1
 refine le_inj (by rw [bytes_len,bytes_len]) ?_;rw [le_bytes,le_bytes];exact Nat.mod_mod _ _
theorem be64_get {v i : Nat} (h : i < 8) : ((be64 v)[7 - i]!).toNat = v / 256 ^ i % 256:=by
 have hl : (Nums.bytes 8 v).length = 8:=bytes_len _ _
 have e : (be64 v)[7 - i]! = (Nums.bytes 8 v)[i]!:=by
  unfold be64
  rw [getElem!_pos _ _ (by rw [List.length_reverse,hl]; omega),List.getElem_reverse,getElem!_pos _ i (by rw [hl]; exact h)]
  congr 1
  rw [hl]
  omega
 rw [e,bytes_get _ _ h]
def eig (c e : List UInt8) (n i : Nat) : List UInt8:=c.take (n - i) ++ e.drop (8 - i)
theorem eig_len {c e : List UInt8} {n i : Nat} (hc : c.length = n) (he : e.length = 8) (hi : i ≤ 8) (hn : 8 ≤ n) : (eig c e n i).length = n:=by
 unfold eig
 rw [List.length_append,List.length_take,List.length_drop]
 omega
theorem eig_zero {c e : List UInt8} {n : Nat} (hc : c.length = n) (he : e.length = 8) : eig c e n 0 = c:=by
 unfold eig
 rw [List.take_of_length_le (by omega),List.drop_of_length_le (by omega),List.append_nil]
theorem eig_set {c e : List UInt8} {n i : Nat} (hc : c.length = n) (he : e.length = 8) (hi : i < 8) (hn : 8 ≤ n) : (eig c e n i).set (n - 1 - i) e[7 - i]! = eig c e n (i + 1):=by
 unfold eig
 have h1 : c.take (n - i) = c.take (n - (i + 1)) ++ [c[n - (i + 1)]!]:=by
  rw [show n - i = n - (i + 1) + 1 by omega,List.take_succ_eq_append_getElem (by omega),getElem!_pos c _ (by omega)]
 have h2 : e.drop (8 - (i + 1)) = e[7 - i]! :: e.drop (8 - i):=by
  rw [List.drop_eq_getElem_cons (by omega),getElem!_pos e _ (by omega)]
  congr 1
  ·congr 1
   omega
  ·congr 1
   omega
 have hl : (c.take (n - (i + 1))).length = n - (i + 1):=by rw [List.length_take]; omega
 rw [h1,h2,List.append_assoc,List.set_append_right _ _ (by omega),hl,show n - 1 - i - (n - (i + 1)) = 0 by omega]
 rfl

theorem clr_set {b : List UInt8} {n r : Nat} (hb : b.length = n) (hr : r < n) : clr (b.set r 128) (r + 1) = b.take r ++ 128 :: List.replicate (n - 1 - r) 0:=by
 unfold clr
 rw [List.length_set,hb]
 have h1 : (b.set r 128).take (r + 1) = b.take r ++ [128]:=by
  rw [List.take_succ_eq_append_getElem (by rw [List.length_set]; omega),List.getElem_set_self,List.take_set_of_le (Nat.le_refl r)]
 rw [h1,List.append_assoc,show n - (r + 1) = n - 1 - r by omega]
 rfl
theorem clr_all (c : List UInt8) : clr c 0 = List.replicate c.length 0:=by
 unfold clr
 simp
theorem end_one {s : Sha} {b : List UInt8} {n r v : Nat} {o : Oct} (hn : 64 ≤ n) (hb : b.length = n) (hr : r < n) (h : r + 1 ≤ n - n / 8) :
  turnw s o (eig (b.take r ++ 128 :: List.replicate (n - 1 - r) 0) (be64 v) n 8) = runw s n o (b.take r ++ tailw n r v):=by
 have h8 : n / 8 * 8 ≤ n:=Nat.div_mul_le_self n 8
 have h9 : 2 ≤ n / 8:=by omega
 have e : eig (b.take r ++ 128 :: List.replicate (n - 1 - r) 0) (be64 v) n 8 = b.take r ++ tailw n r v:=by
  unfold eig tailw
  have hl : (b.take r).length = r:=by rw [List.length_take]; omega
  rw [if_pos h,List.take_append,hl,List.take_of_length_le (by omega),List.append_assoc,Nat.sub_self,List.drop_zero]
  congr 1
  rw [show n - 8 - r = (n - 9 - r) + 1 by omega,List.take_succ_cons,List.take_replicate,Nat.min_eq_left (by omega),List.cons_append]
 rw [e]
 have hl : (b.take r ++ tailw n r v).length = n:=by
  rw [← e,eig_len (by rw [List.length_append,List.length_take,List.length_cons,List.length_replicate]; omega) (be64_len _) (Nat.le_refl _) (by omega)]
 have h0:=runw_block (s:=s) (B:=n) (o:=o) (b:=b.take r ++ tailw n r v) (l:=[]) (by omega) hl;rw [List.append_nil] at h0;rw [h0,runw_short (by simp only [List.length_nil]; omega)]
theorem end_two {s : Sha} {b : List UInt8} {n r v : Nat} {o : Oct} (hn : 64 ≤ n) (hb : b.length = n) (hr : r < n) (h : ¬ r + 1 ≤ n - n / 8) :
  turnw s (turnw s o (b.take r ++ 128 :: List.replicate (n - 1 - r) 0)) (eig (List.replicate n 0) (be64 v) n 8) = runw s n o (b.take r ++ tailw n r v):=by
 have hl1 : (b.take r ++ 128 :: List.replicate (n - 1 - r) 0).length = n:=by
  rw [List.length_append,List.length_take,List.length_cons,List.length_replicate]
  omega
 have hl2 : (eig (List.replicate n 0) (be64 v) n 8).length = n:=eig_len (List.length_replicate) (be64_len _) (Nat.le_refl _) (by omega)
 have e : b.take r ++ tailw n r v = (b.take r ++ 128 :: List.replicate (n - 1 - r) 0) ++ eig (List.replicate n 0) (be64 v) n 8:=by
  unfold tailw eig
  rw [if_neg h,List.append_assoc,List.cons_append,Nat.sub_self,List.drop_zero,List.take_replicate,Nat.min_eq_left (by omega),← List.append_assoc (List.replicate _ 0),List.replicate_append_replicate]
  congr 4
  omega
 have h0:=runw_block (s:=s) (B:=n) (o:=turnw s o (b.take r ++ 128 :: List.replicate (n - 1 - r) 0)) (b:=eig (List.replicate n 0) (be64 v) n 8) (l:=[]) (by omega) hl2;rw [List.append_nil] at h0;rw [e,runw_block (by omega) hl1,h0,runw_short (by simp only [List.length_nil]; omega)]
end Go.Proofs.YtlcbhbahchiofaaGreatDoor
