/-
  SEVERAL TEXTS IN ONE: SgKey, SgSign, Scal, Below, Less, LessC, ModP, Mod, SumP, ScNew, LawR, SgVer, RgSig, RgW.
-/
import Derived.Test.YtminmeljonbogaaDoorMh
import Derived.Test.YtminmeljonbogaaDoorMj
import Derived.Test.YtminmeljonbogaaDoorMe
import Derived.Test.YtminmeljonbogaaDoorMa
import Derived.Deep.AppendLies
import Derived.Test.YtminmeljonbogaaDoorMc
import Derived.Deep.OwnRows
import Derived.OwnWalk
import Derived.Test.YtminmeljonbogaaDoorMi
/-
  THE PROGRAM'S SIGNATURES: spread, based, Public.
-/
namespace Go.Proofs.YtminmeljonbogaaDoor
open Go.RowKit Go.IntWalk Nums

theorem own_spread : Own 27:=fun _ _=>by go_simp
theorem own_based : Own 28:=fun _ _=>by go_simp
theorem own_number : Own 29:=fun _ _=>by go_simp
theorem own_public : Own 9:=fun _ _=>by go_simp

/-! ### Plain -/
theorem and248 (m : Nat) (h : m < 256) : bits .and .u8 (m : Int) 248 = ((m / 8 * 8 : Nat) : Int):=by
 have key : ∀ m : Nat,m < 256 → bits .and .u8 (m : Int) 248 = ((m / 8 * 8 : Nat) : Int):=by decide +kernel
 exact key m h
theorem or64 (m : Nat) (h : m < 256) : bits .or .u8 ((m % 128 : Nat) : Int) 64 = ((m % 64 + 64 : Nat) : Int):=by
 have key : ∀ m : Nat,m < 256 → bits .or .u8 ((m % 128 : Nat) : Int) 64 = ((m % 64 + 64 : Nat) : Int):=by decide +kernel
 exact key m h
theorem cop_set {d : List UInt8} (h : d.length = 32) {k : Nat} (hk : k < 32) (x : UInt8) : (cop z64 0 d).set k x = cop z64 0 (d.set k x):=by
 simp only [cop,h,List.length_set,List.take_zero,List.nil_append];rw [List.set_append_left _ _ (by omega)]
theorem cop_get {d : List UInt8} (h : d.length = 32) {k : Nat} (hk : k < 32) : (cop z64 0 d)[k]! = d[k]!:=by
 simp only [cop,List.take_zero,List.nil_append];rw [getElem!_pos _ k (by rw [List.length_append]; omega),getElem!_pos _ k (by omega),List.getElem_append_left]

set_option maxRecDepth 100000 in
set_option maxHeartbeats 2000000 in
theorem spread_f {seed : List UInt8} (hs : seed.length = 32) (w : World) (hT : Tsh w) :
  Calls Tryd.prog 27 #[.agg (By seed).toArray] w fun e w'=>e = .returned (.tuple #[.agg (Us (ws (le (sgAB seed) % LL))).toArray,.agg (By (sgPre seed)).toArray]) ∧ Below w.heap.size w w':=by
 have hD:=sgD_len seed
 have hd32 : ((sgD seed).take 32).length = 32:=by rw [List.length_take,hD]; rfl
 refine calls_F (vs:=[.agg (By seed).toArray]) 26 Tryd.func27 rfl (by rw [Tryd.ntmps27]; rfl) ?_;refine c_seq fun K hK=>?_;refine c_lit ?_;refine l_boxA (By seed).toArray rfl rfl rfl rfl rfl fun W1 g1 hw1 hg1 b1=>?_;refine l_allocA z4 rfl rfl rfl rfl (by kernel_rfl) fun W2 g2 hw2 hg2 b2=>?_;refine l_allocA z32 rfl rfl rfl rfl (by kernel_rfl) fun W3 g3 hw3 hg3 b3=>?_;refine l_nil ?_;refine hK _ _ ?_;clear hK K;have l1:=b1.lt;have l2:=b2.lt;have l3:=b3.lt;have s1:=hw1.size;have s2:=hw2.size
 have n12 : g1 ≠ g2:=by omega
 have n23 : g2 ≠ g3:=by omega
 have n13 : g1 ≠ g3:=by omega
 have q2 : w.heap.size ≤ g2:=by omega
 have q3 : w.heap.size ≤ g3:=by omega
 replace b1:=(b1.later hw2).later hw3;replace b2:=b2.later hw3;have hU : Up w W3:=(hw1.step hw2).step hw3;replace hT:=hT.below hU;clear hw1 hw2 hw3 hg1 hg2 hg3 l1 l2 l3 s1 s2;refine c_seq fun K hK=>?_;refine c_gF 4 ?_;refine g_op rfl ?_;refine f_slice32 g1 rfl rfl rfl rfl rfl ?_;refine g_go ?_;refine g_slices [.slice (some ⟨g1,0,none⟩) 32 32] [seed] W3.heap.size rfl rfl rfl rfl rfl rfl rfl (by decide) (by decide) (fun _ h=>h.size) (fun _ h _=>⟨SB.all (b1.later h) hs (by decide),trivial⟩) fun gs _ _ _=>?_;refine g_op rfl ?_
 refine f_call #[.slice (some ⟨gs,0,none⟩) 1 1] (.agg (By (sgD seed)).toArray) rfl rfl rfl own_sum512 (fun w1 h=>by
  have:=sum512_f (some ⟨gs,0,none⟩) [seed] 1 w1 (hT.below h.1) (h.2 1 _ rfl (by kernel_rfl) : NewS _ _ _ _ _).pt (Nat.le_refl _) (by decide)
  rwa [show [seed].flatten = seed from by simp] at this) rfl rfl ?_
 refine g_go ?_;refine g_alloc (By z64).toArray W3.heap.size rfl rfl rfl rfl rfl zero64 (fun _ h=>h.size) (fun g w w' h hr=>⟨h.1,h.2.later hr⟩) fun g4 w4 _ hg4 _=>?_;refine g_end fun W4 hw4 hF=>?_;have b4:=(hF 3 _ rfl).2;clear hF
 have n14 : g1 ≠ g4:=by have:=b1.lt; omega
 have n24 : g2 ≠ g4:=by have:=b2.lt; omega
 have n34 : g3 ≠ g4:=by have:=b3.lt; omega
 have q4 : w.heap.size ≤ g4:=Nat.le_trans hU.size hg4;refine l_set g4 _ (By (sgD seed)).toArray rfl rfl rfl rfl rfl b4 (size_64 hD) (by rw [List.size_toArray,List.size_toArray,By_len,By_len,hD]; rfl) (By_oneA _) ?_;refine l_nil ?_;refine hK _ _ ?_;clear hK K;replace b2:=(b2.later hw4).rowFar n24 (By (sgD seed)).toArray;replace b3:=(b3.later hw4).rowFar n34 (By (sgD seed)).toArray;replace b4:=b4.row (By (sgD seed)).toArray;replace hU:=up_row (hU.step hw4) q4 (By (sgD seed)).toArray;clear hT b1 n12 n13 n14 hg4 hw4;generalize W4.setRow g4 (By (sgD seed)).toArray = W5 at *;refine c_seq fun K hK=>?_;refine c_lit ?_;refine l_allocA (By z64).toArray rfl rfl rfl rfl zero64 fun W6 g5 hw6 hg5 b5=>?_;refine l_nil ?_;refine hK _ _ ?_;clear hK K
 have n25 : g2 ≠ g5:=by have:=b2.lt; omega
 have n35 : g3 ≠ g5:=by have:=b3.lt; omega
 have n45 : g4 ≠ g5:=by have:=b4.lt; omega
 have q5 : w.heap.size ≤ g5:=by rw [hg5]; exact hU.size
 replace b2:=b2.later hw6;replace b3:=b3.later hw6;replace b4:=b4.later hw6;replace hU:=hU.step hw6;clear hw6 hg5
 -- the number's bytes
 refine c_seq fun K hK=>?_;refine c_g 2 (by decide) (by kernel_rfl) (by kernel_rfl) ?_;refine g_op rfl ?_;refine f_slice64l g5 rfl rfl rfl rfl rfl ?_;refine g_go ?_;refine g_op rfl ?_;refine f_slice64l g4 rfl rfl rfl rfl rfl ?_;refine g_go ?_;refine g_end fun W7 hw7 _=>?_;replace b2:=b2.later hw7;replace b3:=b3.later hw7;replace b4:=b4.later hw7;replace b5:=b5.later hw7;replace hU:=hU.step hw7;refine l_copy g5 0 32 64 _ z64 ((sgD seed).take 32) (.slice (some ⟨g4,0,none⟩) 32 64) rfl rfl rfl rfl rfl rfl b5 (SB.arr b4 (by rw [List.drop_zero]) hd32 (by decide) (by decide)) (by rw [hd32]; decide) (by rw [hd32]; exact Nat.le_refl _) (by rw [hd32]; decide) fun b5=>?_;replace b2:=b2.rowFar n25 (By (cop z64 0 ((sgD seed).take 32))).toArray;replace b3:=b3.rowFar n35 (By (cop z64 0 ((sgD seed).take 32))).toArray;replace b4:=b4.rowFar n45 (By (cop z64 0 ((sgD seed).take 32))).toArray;replace hU:=up_row hU q5 (By (cop z64 0 ((sgD seed).take 32))).toArray;generalize W7.setRow g5 (By (cop z64 0 ((sgD seed).take 32))).toArray = W8 at *;refine l_nil ?_;refine hK _ _ ?_;clear hK K hw7;obtain ⟨d,hd⟩ : ∃ d,d = (sgD seed).take 32:=⟨_,rfl⟩;rw [← hd] at b5 hd32;have x0:=(d[0]!).toNat_lt;have c0:=(b5.cell 0).trans (By_get (l:=cop z64 0 d) (j:=0) (by rw [cop_len64 hd32]; decide));rw [cop_get hd32 (by decide)] at c0
 have e0 : ((UInt8.ofNat ((d[0]!).toNat / 8 * 8)).toNat : Int) = (((d[0]!).toNat / 8 * 8 : Nat) : Int):=by rw [ofNat_toNat (by omega)]
 refine c_seq fun K hK=>?_;refine c_tF 4 ?_;refine f_ix _ 0 ⟨g5,0,none⟩ rfl rfl rfl rfl rfl rfl (ix64 _ 0 (by decide)) ?_;refine f_load ⟨g5,0,none⟩ (.int .u8 ((d[0]!).toNat : Int)) (by decide) rfl rfl rfl rfl rfl (fun _ h1=>(h1.cell b5.lt).trans c0) ?_;refine f_andB _ 248 (((d[0]!).toNat / 8 * 8 : Nat) : Int) rfl rfl rfl rfl rfl rfl (and248 _ x0) ?_;refine f_ix _ 0 ⟨g5,0,none⟩ rfl rfl rfl rfl rfl rfl (ix64 _ 0 (by decide)) ?_;refine f_store ⟨g5,0,none⟩ (((d[0]!).toNat / 8 * 8 : Nat) : Int) _ (.inr ⟨rfl,rfl⟩) rfl rfl rfl rfl rfl c0 (b5.free 0) b5.lt fun w9 hw9=>?_;replace b2:=(b2.later hw9).far (p:=⟨g5,0,none⟩) n25 (.int .u8 (((d[0]!).toNat / 8 * 8 : Nat) : Int));replace b3:=(b3.later hw9).far (p:=⟨g5,0,none⟩) n35 (.int .u8 (((d[0]!).toNat / 8 * 8 : Nat) : Int));replace b4:=(b4.later hw9).far (p:=⟨g5,0,none⟩) n45 (.int .u8 (((d[0]!).toNat / 8 * 8 : Nat) : Int));replace b5:=(b5.later hw9).set 0 (.int .u8 (((d[0]!).toNat / 8 * 8 : Nat) : Int));replace hU : Up w _:=(hU.step hw9).setCell (p:=⟨g5,0,none⟩) q5 (.int .u8 (((d[0]!).toNat / 8 * 8 : Nat) : Int));rw [← e0,By_set,cop_set hd32 (by decide)] at b5;rw [← e0] at b2 b3 b4 hU ⊢;have e1 : d.set 0 (UInt8.ofNat ((d[0]!).toNat / 8 * 8)) = lowB d:=rfl;rw [e1] at b5;generalize w9.setCell ⟨g5,0,none⟩ (.int .u8 ((UInt8.ofNat ((d[0]!).toNat / 8 * 8)).toNat : Int)) = W9 at *;refine hK _ _ ?_;clear hK K hw9 c0 x0 e0 e1
 have hl32 : (lowB d).length = 32:=by rw [lowB_len,hd32]
 have x1:=((lowB d)[31]!).toNat_lt;have c1:=(b5.cell 31).trans (By_get (l:=cop z64 0 (lowB d)) (j:=31) (by rw [cop_len64 hl32]; decide));rw [cop_get hl32 (by decide)] at c1
 have e0 : ((UInt8.ofNat (((lowB d)[31]!).toNat % 64 + 64)).toNat : Int) = ((((lowB d)[31]!).toNat % 64 + 64 : Nat) : Int):=by rw [ofNat_toNat (by omega)]
 refine c_seq fun K hK=>?_;refine c_tF 5 ?_;refine f_ix _ 31 ⟨g5,31,none⟩ rfl rfl rfl rfl rfl rfl (ix64 _ 31 (by decide)) ?_;refine f_load ⟨g5,31,none⟩ (.int .u8 (((lowB d)[31]!).toNat : Int)) (by decide) rfl rfl rfl rfl rfl (fun _ h1=>(h1.cell b5.lt).trans c1) ?_;refine f_andB _ 127 ((((lowB d)[31]!).toNat % 128 : Nat) : Int) rfl rfl rfl rfl rfl rfl (low7 _ x1) ?_;refine f_orB _ 64 ((((lowB d)[31]!).toNat % 64 + 64 : Nat) : Int) rfl rfl rfl rfl rfl rfl (or64 _ x1) ?_;refine f_ix _ 31 ⟨g5,31,none⟩ rfl rfl rfl rfl rfl rfl (ix64 _ 31 (by decide)) ?_;refine f_store ⟨g5,31,none⟩ ((((lowB d)[31]!).toNat % 64 + 64 : Nat) : Int) _ (.inr ⟨rfl,rfl⟩) rfl rfl rfl rfl rfl c1 (b5.free 31) b5.lt fun w9 hw9=>?_;replace b2:=(b2.later hw9).far (p:=⟨g5,31,none⟩) n25 (.int .u8 ((((lowB d)[31]!).toNat % 64 + 64 : Nat) : Int));replace b3:=(b3.later hw9).far (p:=⟨g5,31,none⟩) n35 (.int .u8 ((((lowB d)[31]!).toNat % 64 + 64 : Nat) : Int));replace b4:=(b4.later hw9).far (p:=⟨g5,31,none⟩) n45 (.int .u8 ((((lowB d)[31]!).toNat % 64 + 64 : Nat) : Int));replace b5:=(b5.later hw9).set 31 (.int .u8 ((((lowB d)[31]!).toNat % 64 + 64 : Nat) : Int));replace hU : Up w _:=(hU.step hw9).setCell (p:=⟨g5,31,none⟩) q5 (.int .u8 ((((lowB d)[31]!).toNat % 64 + 64 : Nat) : Int));rw [← e0,By_set,cop_set hl32 (by decide)] at b5;rw [← e0] at b2 b3 b4 hU ⊢
 have e1 : (lowB d).set 31 (UInt8.ofNat (((lowB d)[31]!).toNat % 64 + 64)) = sgAB seed:=by rw [hd]; rfl
 rw [e1] at b5;generalize w9.setCell ⟨g5,31,none⟩ (.int .u8 ((UInt8.ofNat (((lowB d)[31]!).toNat % 64 + 64)).toNat : Int)) = W10 at *;refine k_sub (E':=[(2,.pointer (some ⟨g2,0,none⟩)),(3,.pointer (some ⟨g3,0,none⟩)),(4,.pointer (some ⟨g4,0,none⟩)),(5,.pointer (some ⟨g5,0,none⟩))]) ⟨rfl,rfl,rfl,rfl,trivial⟩ ?_;refine hK _ _ ?_;clear hK K hw9 c1 x1 e0 e1 hl32 hd hd32 d;have hA:=sgAB_len seed;have hle:=le_cop hA;have hlen:=cop_len64 hA;have hpl:=sgPre_len seed
 -- what is handed back
 refine c_seq fun K hK=>?_;refine c_gR (Rel:=KeepG g2 59 (Us (ws (le (sgAB seed) % LL))).toArray) (C0:=KeepG g2 59 (Us (ws (le (sgAB seed) % LL))).toArray W10) 6 (fun _ _ h k=>h.trans k) (KeepG.of (Up.drew W10)) (by decide) (by kernel_rfl) (by kernel_rfl) ?_;refine g_op rfl ?_;refine f_b64 g5 hlen rfl rfl rfl rfl rfl (fun _ h=>(h.1.far b5 n25.symm).range) ?_;refine g_go ?_;refine g_op rfl ?_
 refine f_call #[.agg (By (cop z64 0 (sgAB seed))).toArray] (.agg (Us (ws (le (sgAB seed) % LL))).toArray) rfl rfl rfl own_wide (fun w1 _=>by
  have:=wide_f hlen w1
  rwa [hle] at this) rfl rfl ?_
 refine g_go ?_;refine g_op rfl ?_;refine f_slice64h g4 rfl rfl rfl rfl rfl ?_;refine g_go ?_;refine g_op rfl ?_;refine f_arrp (some ⟨g4,32,none⟩) 32 rfl rfl rfl rfl rfl ?_;refine g_go ?_;refine g_op rfl ?_
 refine f_by g4 32 hpl rfl rfl rfl rfl rfl (fun _ h=>by
  have:=(h.1.far b4 n24.symm).part 32 32
  have e : ((By (sgD seed)).drop 32).take 32 = By (sgPre seed):=by
   rw [sgPre,By,By,← List.map_drop,← List.map_take,List.take_of_length_le (by rw [List.length_drop,hD]; decide)]
  rwa [e] at this) ?_
 refine g_go ?_;refine g_store g2 (Us (ws (le (sgAB seed) % LL))).toArray rfl rfl rfl rfl rfl rfl (size_S _) (Us_oneA _) (fun w1 h=>?_) (fun w1 w2 h hr=>hr.self h) ?_
 ·rcases h.here b2.lt with h1 | h1
  ·exact ⟨_,h1.trans b2,by rw [us_size (ws_len _)]; rfl,KeepG.set (h1.trans b2)⟩
  ·exact ⟨_,h1,rfl,KeepG.set h1⟩
 refine g_end fun W11 hw11 hF=>?_;have d2 : Blk W11 g2 59 (Us (ws (le (sgAB seed) % LL))).toArray:=hF 5 _ rfl;have d3:=hw11.far b3 n23.symm;refine l_set g3 _ (By (sgPre seed)).toArray rfl rfl rfl rfl rfl d3 (size_H hpl) (by rw [len_by hpl]; rfl) (By_oneA _) ?_;refine l_nil ?_;refine hK _ _ ?_;clear hK K;have r2:=d2.rowFar n23 (By (sgPre seed)).toArray;have r3:=d3.row (By (sgPre seed)).toArray;have r:=up_row (hw11.up hU q2) q3 (By (sgPre seed)).toArray;refine c_ret fun a ha=>?_;exact bodyPost_ret (results_cells rfl _ _ g2 g3 _ _ _ _ (0,0) (0,0) _ _ (ha.at rfl) (ha.at rfl) r2 r3 Tryd.underlying59 rfl (size_S _) Tryd.underlying22 rfl (size_H hpl)) ha.defers ⟨rfl,r⟩

set_option maxRecDepth 100000 in
set_option maxHeartbeats 1000000 in
theorem based_f {n : Nat} (hn : n < LL) (w : World) (hT : Tw w) :
  Calls Tryd.prog 28 #[.agg (Us (ws n)).toArray] w fun e w'=>e = .returned (.agg (By (encP (Ed.mul dd n base))).toArray) ∧ Below w.heap.size w w':=by
 have hb:=bytes_len 32 n;have hle:=le_bytesL hn;refine calls_F (vs:=[.agg (Us (ws n)).toArray]) 8 Tryd.func28 rfl (by rw [Tryd.ntmps28]; rfl) ?_;refine c_seq fun K hK=>?_;refine c_lit ?_;refine l_boxA (Us (ws n)).toArray rfl rfl rfl rfl rfl fun W1 g1 hw1 hg1 b1=>?_;refine l_allocA z32 rfl rfl rfl rfl (by kernel_rfl) fun W2 g2 hw2 hg2 b2=>?_;refine l_nil ?_;refine hK _ _ ?_;clear hK K;replace b1:=b1.later hw2;have hU : Up w W2:=hw1.step hw2;replace hT:=hT.below hU
 have q2 : w.heap.size ≤ g2:=by rw [hg2]; exact hw1.size
 clear hw1 hw2 hg1 hg2;refine c_seq fun K hK=>?_;refine c_t 5 (by decide) (by kernel_rfl) (tail_ok (by kernel_rfl)) (fun _ _ d _ _ h=>by cases d <;> exact h) ?_;refine f_us #[] (QB · base) rfl rfl rfl own_cbase (fun w1 _=>cbase_f w1) rfl rfl fun r3 v3=>?_;refine f_sc g1 n rfl rfl rfl rfl rfl (fun _ h1=>(h1.blk b1).range) ?_;refine f_call #[.agg (Us (ws n)).toArray] (.agg (By (Nums.bytes 32 n)).toArray) rfl rfl rfl own_schash (fun w1 _=>schash_f n w1) rfl rfl ?_
 refine f_us #[.agg (Us r3).toArray,.agg (By (Nums.bytes 32 n)).toArray] (PB · (Ed.mul dd n base)) rfl rfl rfl own_cmul (fun w1 h1=>by
  have:=cmul_f (.inr v3) hb w1 (hT.below h1)
  rwa [hle] at this) rfl rfl fun r6 v6=>?_
 refine f_call #[.agg (Us r6).toArray] (.agg (By (encP (Ed.mul dd n base))).toArray) rfl rfl rfl own_chash (fun w1 h1=>chash_f v6 w1 (hT.below h1)) rfl rfl ?_;refine f_set g2 _ (By (encP (Ed.mul dd n base))).toArray rfl rfl rfl rfl rfl b2 (size_H (encP_len _)) (by rw [len_by (encP_len _)]; rfl) (By_oneA _) fun w4 hw4 c4=>?_;refine l_nil ?_;refine hK _ _ ?_;clear hK K;exact c_ret (k_ret_row g2 _ rfl rfl c4 Tryd.underlying22 rfl (size_H (encP_len _)) ⟨rfl,up_row (hU.step hw4) q2 _⟩)

structure Ta (w : World) : Prop where
  tw : Tw w
  sh : Tsh w
theorem Ta.below {w w' : World} (h : Ta w) (hb : Below w.heap.size w w') : Ta w':=⟨h.tw.below hb,h.sh.below hb⟩
theorem mul_a (seed : List UInt8) : encP (Ed.mul dd (le (sgAB seed) % LL) base) = sgKey seed:=by rw [mul_ll]; rfl

set_option maxRecDepth 100000 in
set_option maxHeartbeats 2000000 in
theorem public_f {seed : List UInt8} (hs : seed.length = 32) (w : World) (hT : Ta w) :
  Calls Tryd.prog 9 #[.agg (By seed).toArray] w fun e w'=>e = .returned (.agg (By (sgKey seed)).toArray) ∧ Below w.heap.size w w':=by
 refine calls_F (vs:=[.agg (By seed).toArray]) 12 Tryd.func9 rfl (by rw [Tryd.ntmps9]; rfl) ?_;have hU:=Up.refl w;refine c_seq fun K hK=>?_;refine c_lit ?_;refine l_boxA ((By seed).toArray) rfl rfl rfl rfl rfl fun W1 g1 hw1 hg1 b1=>?_;replace hU:=hU.step hw1;clear hw1 hg1;refine l_allocA z32 rfl rfl rfl rfl (by kernel_rfl) fun W2 g2 hw2 hg2 b2=>?_
 have q2 : w.heap.size ≤ g2:=by rw [hg2]; exact hU.size
 replace b1:=b1.later hw2;replace hU:=hU.step hw2;clear hw2 hg2;refine l_nil ?_;refine hK _ _ ?_;clear hK K;refine c_seq fun K hK=>?_;refine c_gF 5 ?_;refine g_op rfl ?_;refine f_by g1 0 hs rfl rfl rfl rfl rfl (fun _ h1=>(h1.1.blk b1).range) ?_;refine g_go ?_;refine g_op rfl ?_;refine f_call #[.agg (By seed).toArray] (.tuple #[.agg (Us (ws (le (sgAB seed) % LL))).toArray,.agg (By (sgPre seed)).toArray]) rfl rfl rfl own_spread (fun w1 h1=>spread_f hs w1 (hT.below (hU.step h1.1)).sh) rfl rfl ?_;refine g_go ?_;refine g_op rfl ?_;refine f_move (.tuple #[.agg (Us (ws (le (sgAB seed) % LL))).toArray,.agg (By (sgPre seed)).toArray]) rfl rfl rfl rfl rfl ?_;refine g_go ?_;refine g_op rfl ?_;refine f_extract (.agg (Us (ws (le (sgAB seed) % LL))).toArray) rfl rfl rfl rfl rfl rfl ?_;refine g_go ?_;refine g_op rfl ?_;refine f_extract (.agg (By (sgPre seed)).toArray) rfl rfl rfl rfl rfl rfl ?_;refine g_go ?_;refine g_end fun W3 hw3 hF3=>?_;clear hF3;replace b2:=b2.later hw3;replace hU:=hU.step hw3;clear hw3;refine l_allocA z4 rfl rfl rfl rfl (by kernel_rfl) fun W4 g4 hw4 hg4 b4=>?_
 have n2_4 : g2 ≠ g4:=by have:=b2.lt; omega
 have q4 : w.heap.size ≤ g4:=by rw [hg4]; exact hU.size
 replace b2:=b2.later hw4;replace hU:=hU.step hw4;clear hw4 hg4;refine l_allocA z32 rfl rfl rfl rfl (by kernel_rfl) fun W5 g5 hw5 hg5 b5=>?_
 have n2_5 : g2 ≠ g5:=by have:=b2.lt; omega
 have n4_5 : g4 ≠ g5:=by have:=b4.lt; omega
 have q5 : w.heap.size ≤ g5:=by rw [hg5]; exact hU.size
 replace b2:=b2.later hw5;replace b4:=b4.later hw5;replace hU:=hU.step hw5;clear hw5 hg5;refine l_set g4 _ ((Us (ws (le (sgAB seed) % LL))).toArray) rfl rfl rfl rfl rfl b4 (size_S _) (by rw [us_size (ws_len _)]; rfl) (Us_oneA _) ?_;replace b2:=b2.rowFar n2_4 ((Us (ws (le (sgAB seed) % LL))).toArray);replace b5:=b5.rowFar n4_5.symm ((Us (ws (le (sgAB seed) % LL))).toArray);replace b4:=b4.row ((Us (ws (le (sgAB seed) % LL))).toArray);replace hU:=up_row hU q4 ((Us (ws (le (sgAB seed) % LL))).toArray);generalize World.setRow _ g4 ((Us (ws (le (sgAB seed) % LL))).toArray) = W6 at *;refine l_set g5 _ ((By (sgPre seed)).toArray) rfl rfl rfl rfl rfl b5 (size_H ((sgPre_len seed))) (by rw [len_by ((sgPre_len seed))]; rfl) (By_oneA _) ?_;replace b2:=b2.rowFar n2_5 ((By (sgPre seed)).toArray);replace b4:=b4.rowFar n4_5 ((By (sgPre seed)).toArray);replace hU:=up_row hU q5 ((By (sgPre seed)).toArray);generalize World.setRow _ g5 ((By (sgPre seed)).toArray) = W7 at *;refine l_nil ?_;refine hK _ _ ?_;clear hK K;refine c_seq fun K hK=>?_;refine c_gF 2 ?_;refine g_op rfl ?_;refine f_sc g4 (le (sgAB seed) % LL) rfl rfl rfl rfl rfl (fun _ h1=>(h1.1.blk b4).range) ?_;refine g_go ?_;refine g_op rfl ?_
 refine f_call #[.agg (Us (ws (le (sgAB seed) % LL))).toArray] (.agg (By (sgKey seed)).toArray) rfl rfl rfl own_based (fun w1 h1=>by
   have:=based_f (ll_mod (le (sgAB seed))) w1 (hT.below (hU.step h1.1)).tw
   rwa [mul_a] at this) rfl rfl ?_
 refine g_go ?_;refine g_end fun W8 hw8 hF8=>?_;clear hF8;replace b2:=b2.later hw8;replace hU:=hU.step hw8;clear hw8;refine l_set g2 _ ((By (sgKey seed)).toArray) rfl rfl rfl rfl rfl b2 (size_H ((sgKey_len _))) (by rw [len_by ((sgKey_len _))]; rfl) (By_oneA _) ?_;replace b2:=b2.row ((By (sgKey seed)).toArray);replace hU:=up_row hU q2 ((By (sgKey seed)).toArray);generalize World.setRow _ g2 ((By (sgKey seed)).toArray) = W9 at *;refine l_nil ?_;refine hK _ _ ?_;clear hK K;exact c_ret (k_ret_row g2 _ rfl rfl b2 Tryd.underlying22 rfl (size_H ((sgKey_len _))) ⟨rfl,hU⟩)
end Go.Proofs.YtminmeljonbogaaDoor
/-
  THE PROGRAM'S SIGNATURES: Sign.
-/
namespace Go.Proofs.YtminmeljonbogaaDoor
open Go.RowKit Go.IntWalk Nums

theorem own_sign : Own 10:=fun _ _=>by go_simp
theorem sgR_eq {seed m : List UInt8} : le (digest s512 (sgPre seed ++ ([] ++ m))) % LL = sgR seed m:=rfl
theorem sgR_lt (seed m : List UInt8) : sgR seed m < LL:=mod_LL_lt _
theorem sgRB_eq {seed m : List UInt8} : encP (Ed.mul dd (sgR seed m) base) = sgRB seed m:=rfl
theorem sgK_eq {R key m : List UInt8} : le (digest s512 (R ++ (key ++ m))) % LL = sgK R key m:=rfl
theorem sgK_lt (R key m : List UInt8) : sgK R key m < LL:=mod_LL_lt _
theorem sgS_eq {seed m : List UInt8} : (sgR seed m + sgK (sgRB seed m) (sgKey seed) m * (le (sgAB seed) % LL) % LL) % LL = sgS seed m:=by
 rw [sgS,Nat.mul_mod_mod,Nat.add_mod_mod]
theorem sig_cop {seed m : List UInt8} : cop (cop z64 0 (sgRB seed m)) 32 (Nums.bytes 32 (sgS seed m)) = sgSig seed m:=by
 have h1:=sgRB_len seed m;have h2:=bytes_len 32 (sgS seed m)
 have e : cop z64 0 (sgRB seed m) = sgRB seed m ++ List.replicate 32 0:=by
  rw [cop,h1]
  simp [z64]
 rw [e,cop,h2,List.take_append_of_le_length (by rw [h1]; exact Nat.le_refl _),List.take_of_length_le (by rw [h1]; exact Nat.le_refl _),List.drop_of_length_le (by rw [List.length_append,h1,List.length_replicate]; exact Nat.le_refl _),List.append_nil]
 rfl

set_option maxRecDepth 100000 in
set_option maxHeartbeats 2000000 in
theorem sign_f {seed : List UInt8} {P : Option Addr} {ls : List (List UInt8)} {pc : Nat} (hs : seed.length = 32) (w : World) (hT : Ta w) (hP : PT w P ls) (h0 : P = none → pc = 0) (hls : ls.length ≤ 1000000) :
  Calls Tryd.prog 10 #[.agg (By seed).toArray,.slice P ls.length pc] w fun e w'=>e = .returned (.agg (By (sgSig seed ls.flatten)).toArray) ∧ Below w.heap.size w w':=by
 refine calls_F (vs:=[.agg (By seed).toArray,.slice P ls.length pc]) 42 Tryd.func10 rfl (by rw [Tryd.ntmps10]; rfl) ?_;have hU:=Up.refl w;refine c_seq fun K hK=>?_;refine c_lit ?_;refine l_boxA ((By seed).toArray) rfl rfl rfl rfl rfl fun W1 g1 hw1 hg1 b1=>?_;replace hU:=hU.step hw1;clear hw1 hg1;refine l_allocA ((By z64).toArray) rfl rfl rfl rfl zero64 fun W2 g2 hw2 hg2 b2=>?_
 have q2 : w.heap.size ≤ g2:=by rw [hg2]; exact hU.size
 replace b1:=b1.later hw2;replace hU:=hU.step hw2;clear hw2 hg2;refine l_nil ?_;refine hK _ _ ?_;clear hK K;refine c_seq fun K hK=>?_;refine c_gF 5 ?_;refine g_op rfl ?_;refine f_by g1 0 hs rfl rfl rfl rfl rfl (fun _ h1=>(h1.1.blk b1).range) ?_;refine g_go ?_;refine g_op rfl ?_;refine f_call #[.agg (By seed).toArray] (.tuple #[.agg (Us (ws (le (sgAB seed) % LL))).toArray,.agg (By (sgPre seed)).toArray]) rfl rfl rfl own_spread (fun w1 h1=>spread_f hs w1 (hT.below (hU.step h1.1)).sh) rfl rfl ?_;refine g_go ?_;refine g_op rfl ?_;refine f_move (.tuple #[.agg (Us (ws (le (sgAB seed) % LL))).toArray,.agg (By (sgPre seed)).toArray]) rfl rfl rfl rfl rfl ?_;refine g_go ?_;refine g_op rfl ?_;refine f_extract (.agg (Us (ws (le (sgAB seed) % LL))).toArray) rfl rfl rfl rfl rfl rfl ?_;refine g_go ?_;refine g_op rfl ?_;refine f_extract (.agg (By (sgPre seed)).toArray) rfl rfl rfl rfl rfl rfl ?_;refine g_go ?_;refine g_end fun W3 hw3 hF3=>?_;clear hF3;replace b1:=b1.later hw3;replace b2:=b2.later hw3;replace hU:=hU.step hw3;clear hw3;refine l_allocA z4 rfl rfl rfl rfl (by kernel_rfl) fun W4 g4 hw4 hg4 b4=>?_
 have n1_4 : g1 ≠ g4:=by have:=b1.lt; omega
 have n2_4 : g2 ≠ g4:=by have:=b2.lt; omega
 have q4 : w.heap.size ≤ g4:=by rw [hg4]; exact hU.size
 replace b1:=b1.later hw4;replace b2:=b2.later hw4;replace hU:=hU.step hw4;clear hw4 hg4;refine l_allocA z32 rfl rfl rfl rfl (by kernel_rfl) fun W5 g5 hw5 hg5 b5=>?_
 have n1_5 : g1 ≠ g5:=by have:=b1.lt; omega
 have n2_5 : g2 ≠ g5:=by have:=b2.lt; omega
 have n4_5 : g4 ≠ g5:=by have:=b4.lt; omega
 have q5 : w.heap.size ≤ g5:=by rw [hg5]; exact hU.size
 replace b1:=b1.later hw5;replace b2:=b2.later hw5;replace b4:=b4.later hw5;replace hU:=hU.step hw5;clear hw5 hg5;refine l_set g4 _ ((Us (ws (le (sgAB seed) % LL))).toArray) rfl rfl rfl rfl rfl b4 (size_S _) (by rw [us_size (ws_len _)]; rfl) (Us_oneA _) ?_;replace b1:=b1.rowFar n1_4 ((Us (ws (le (sgAB seed) % LL))).toArray);replace b2:=b2.rowFar n2_4 ((Us (ws (le (sgAB seed) % LL))).toArray);replace b5:=b5.rowFar n4_5.symm ((Us (ws (le (sgAB seed) % LL))).toArray);replace b4:=b4.row ((Us (ws (le (sgAB seed) % LL))).toArray);replace hU:=up_row hU q4 ((Us (ws (le (sgAB seed) % LL))).toArray);generalize World.setRow _ g4 ((Us (ws (le (sgAB seed) % LL))).toArray) = W6 at *;refine l_set g5 _ ((By (sgPre seed)).toArray) rfl rfl rfl rfl rfl b5 (size_H ((sgPre_len seed))) (by rw [len_by ((sgPre_len seed))]; rfl) (By_oneA _) ?_;replace b1:=b1.rowFar n1_5 ((By (sgPre seed)).toArray);replace b2:=b2.rowFar n2_5 ((By (sgPre seed)).toArray);replace b4:=b4.rowFar n4_5 ((By (sgPre seed)).toArray);replace b5:=b5.row ((By (sgPre seed)).toArray);replace hU:=up_row hU q5 ((By (sgPre seed)).toArray);generalize World.setRow _ g5 ((By (sgPre seed)).toArray) = W7 at *;refine l_nil ?_;refine hK _ _ ?_;clear hK K;refine c_seq fun K hK=>?_;refine c_gF 3 ?_;refine g_op rfl ?_;refine f_slice32 g5 rfl rfl rfl rfl rfl ?_;refine g_go ?_;refine g_op rfl ?_;refine f_move (.slice P ls.length pc) rfl rfl rfl rfl rfl ?_;refine g_go ?_;refine g_op rfl ?_
 refine f_call #[.slice (some ⟨g5,0,none⟩) 32 32,.slice none 0 0,.slice P ls.length pc] (.agg (Us (ws ((sgR seed ls.flatten)))).toArray) rfl rfl rfl own_number (fun w1 h1=>by
   have:=number_f (P:=P) (ls:=ls) (pc:=pc) w1 (hT.below (hU.step h1.1)).sh (SB.all (b5.later h1.1) ((sgPre_len seed)) (by decide)) (SB.nil _) (hP.later (hU.step h1.1)) h0 hls
   rwa [sgR_eq] at this) rfl rfl ?_
 refine g_go ?_;refine g_end fun W8 hw8 hF8=>?_;clear hF8;replace b1:=b1.later hw8;replace b2:=b2.later hw8;replace b4:=b4.later hw8;replace b5:=b5.later hw8;replace hU:=hU.step hw8;clear hw8;refine l_allocA z4 rfl rfl rfl rfl (by kernel_rfl) fun W9 g9 hw9 hg9 b9=>?_
 have n1_9 : g1 ≠ g9:=by have:=b1.lt; omega
 have n2_9 : g2 ≠ g9:=by have:=b2.lt; omega
 have n4_9 : g4 ≠ g9:=by have:=b4.lt; omega
 have n5_9 : g5 ≠ g9:=by have:=b5.lt; omega
 have q9 : w.heap.size ≤ g9:=by rw [hg9]; exact hU.size
 replace b1:=b1.later hw9;replace b2:=b2.later hw9;replace b4:=b4.later hw9;replace b5:=b5.later hw9;replace hU:=hU.step hw9;clear hw9 hg9;refine l_set g9 _ ((Us (ws ((sgR seed ls.flatten)))).toArray) rfl rfl rfl rfl rfl b9 (size_S _) (by rw [us_size (ws_len _)]; rfl) (Us_oneA _) ?_;replace b1:=b1.rowFar n1_9 ((Us (ws ((sgR seed ls.flatten)))).toArray);replace b2:=b2.rowFar n2_9 ((Us (ws ((sgR seed ls.flatten)))).toArray);replace b4:=b4.rowFar n4_9 ((Us (ws ((sgR seed ls.flatten)))).toArray);replace b5:=b5.rowFar n5_9 ((Us (ws ((sgR seed ls.flatten)))).toArray);replace b9:=b9.row ((Us (ws ((sgR seed ls.flatten)))).toArray);replace hU:=up_row hU q9 ((Us (ws ((sgR seed ls.flatten)))).toArray);generalize World.setRow _ g9 ((Us (ws ((sgR seed ls.flatten)))).toArray) = W10 at *;refine l_nil ?_;refine hK _ _ ?_;clear hK K;refine c_seq fun K hK=>?_;refine c_new 4 [nvH 8,nvH 9] (by decide) (by decide) ⟨⟨rfl,rfl,rfl,rfl,by kernel_rfl⟩,⟨rfl,rfl,rfl,rfl,by kernel_rfl⟩,trivial⟩ (by kernel_rfl) (tail_ok (by kernel_rfl)) (by kernel_rfl) (fun _ _ d _ _ h=>by cases d <;> exact h) ?_;refine f_sc g9 ((sgR seed ls.flatten)) rfl rfl rfl rfl rfl (fun _ h1=>(h1.blk b9).range) ?_
 refine f_call #[.agg (Us (ws ((sgR seed ls.flatten)))).toArray] (.agg (By (sgRB seed ls.flatten)).toArray) rfl rfl rfl own_based (fun w1 h1=>by
   have:=based_f (n:=sgR seed ls.flatten) (sgR_lt _ _) w1 (hT.below (hU.step h1)).tw
   rwa [sgRB_eq] at this) rfl rfl ?_
 refine f_sc g4 (le (sgAB seed) % LL) rfl rfl rfl rfl rfl (fun _ h1=>(h1.blk b4).range) ?_
 refine f_call #[.agg (Us (ws (le (sgAB seed) % LL))).toArray] (.agg (By (sgKey seed)).toArray) rfl rfl rfl own_based (fun w1 h1=>by
   have:=based_f (ll_mod (le (sgAB seed))) w1 (hT.below (hU.step h1)).tw
   rwa [mul_a] at this) rfl rfl ?_
 refine f_new [.tmp 22,.tmp 24] [(By (sgRB seed ls.flatten)).toArray,(By (sgKey seed)).toArray] ⟨rfl,rfl,trivial⟩ (by decide) ⟨⟨rfl,rfl,rfl⟩,⟨rfl,rfl,rfl⟩,rfl⟩ ⟨⟨rfl,(by rw [len_by ((sgRB_len seed ls.flatten))]; rfl),(size_H ((sgRB_len seed ls.flatten))),(By_oneA _)⟩,⟨rfl,(by rw [len_by ((sgKey_len seed))]; rfl),(size_H ((sgKey_len seed))),(By_oneA _)⟩,trivial⟩ fun f11 W11 hg11 hd11 hw11 hb11=>?_;have b1100 : Blk W11 (f11 0) 22 ((By (sgRB seed ls.flatten)).toArray):=hb11.1;have b1101 : Blk W11 (f11 1) 22 ((By (sgKey seed)).toArray):=hb11.2.1;clear hb11;replace b1:=b1.later hw11;replace b2:=b2.later hw11;replace b4:=b4.later hw11;replace b5:=b5.later hw11;replace b9:=b9.later hw11;replace hU:=hU.step hw11;clear hg11 hd11 hw11;generalize hf1100 : f11 0 = g1100 at *;generalize hf1101 : f11 1 = g1101 at *;simp only [ptrs,Nat.reduceAdd,hf1100,hf1101];clear hf1100 hf1101 f11;refine l_nil ?_;refine hK _ _ ?_;clear hK K;refine c_seq fun K hK=>?_;refine c_g 5 (by decide) (by kernel_rfl) (by kernel_rfl) ?_;refine g_op rfl ?_;refine f_slice32 g1100 rfl rfl rfl rfl rfl ?_;refine g_go ?_;refine g_op rfl ?_;refine f_slice32 g1101 rfl rfl rfl rfl rfl ?_;refine g_go ?_;refine g_op rfl ?_;refine f_move (.slice P ls.length pc) rfl rfl rfl rfl rfl ?_;refine g_go ?_;refine g_op rfl ?_
 refine f_call #[.slice (some ⟨g1100,0,none⟩) 32 32,.slice (some ⟨g1101,0,none⟩) 32 32,.slice P ls.length pc] (.agg (Us (ws ((sgK (sgRB seed ls.flatten) (sgKey seed) ls.flatten)))).toArray) rfl rfl rfl own_number (fun w1 h1=>by
   have:=number_f (P:=P) (ls:=ls) (pc:=pc) w1 (hT.below (hU.step h1.1)).sh (SB.all (b1100.later h1.1) ((sgRB_len seed ls.flatten)) (by decide)) (SB.all (b1101.later h1.1) ((sgKey_len seed)) (by decide)) (hP.later (hU.step h1.1)) h0 hls
   rwa [sgK_eq] at this) rfl rfl ?_
 refine g_go ?_;refine g_alloc z4 (W11).heap.size rfl rfl rfl rfl rfl (by kernel_rfl) (fun _ h=>h.size) (fun g w w' h hr=>⟨h.1,h.2.later hr⟩) fun g12 _ _ _ _=>?_;refine g_end fun W13 hw13 hF13=>?_;have b12:=(hF13 4 _ rfl).2;have ge12:=(hF13 4 _ rfl).1
 have n1_12 : g1 ≠ g12:=by have:=b1.lt; omega
 have n2_12 : g2 ≠ g12:=by have:=b2.lt; omega
 have n4_12 : g4 ≠ g12:=by have:=b4.lt; omega
 have n5_12 : g5 ≠ g12:=by have:=b5.lt; omega
 have n9_12 : g9 ≠ g12:=by have:=b9.lt; omega
 have n1100_12 : g1100 ≠ g12:=by have:=b1100.lt; omega
 have n1101_12 : g1101 ≠ g12:=by have:=b1101.lt; omega
 have q12 : w.heap.size ≤ g12:=Nat.le_trans hU.size ge12;clear ge12;clear hF13;replace b1:=b1.later hw13;replace b2:=b2.later hw13;replace b4:=b4.later hw13;replace b5:=b5.later hw13;replace b9:=b9.later hw13;replace b1100:=b1100.later hw13;replace b1101:=b1101.later hw13;replace hU:=hU.step hw13;clear hw13;refine l_set g12 _ ((Us (ws ((sgK (sgRB seed ls.flatten) (sgKey seed) ls.flatten)))).toArray) rfl rfl rfl rfl rfl b12 (size_S _) (by rw [us_size (ws_len _)]; rfl) (Us_oneA _) ?_;replace b1:=b1.rowFar n1_12 ((Us (ws ((sgK (sgRB seed ls.flatten) (sgKey seed) ls.flatten)))).toArray);replace b2:=b2.rowFar n2_12 ((Us (ws ((sgK (sgRB seed ls.flatten) (sgKey seed) ls.flatten)))).toArray);replace b4:=b4.rowFar n4_12 ((Us (ws ((sgK (sgRB seed ls.flatten) (sgKey seed) ls.flatten)))).toArray);replace b5:=b5.rowFar n5_12 ((Us (ws ((sgK (sgRB seed ls.flatten) (sgKey seed) ls.flatten)))).toArray);replace b9:=b9.rowFar n9_12 ((Us (ws ((sgK (sgRB seed ls.flatten) (sgKey seed) ls.flatten)))).toArray);replace b1100:=b1100.rowFar n1100_12 ((Us (ws ((sgK (sgRB seed ls.flatten) (sgKey seed) ls.flatten)))).toArray);replace b1101:=b1101.rowFar n1101_12 ((Us (ws ((sgK (sgRB seed ls.flatten) (sgKey seed) ls.flatten)))).toArray);replace b12:=b12.row ((Us (ws ((sgK (sgRB seed ls.flatten) (sgKey seed) ls.flatten)))).toArray);replace hU:=up_row hU q12 ((Us (ws ((sgK (sgRB seed ls.flatten) (sgKey seed) ls.flatten)))).toArray);generalize World.setRow _ g12 ((Us (ws ((sgK (sgRB seed ls.flatten) (sgKey seed) ls.flatten)))).toArray) = W14 at *;refine l_nil ?_;refine hK _ _ ?_;clear hK K;refine c_seq fun K hK=>?_;refine c_g 7 (by decide) (by kernel_rfl) (by kernel_rfl) ?_;refine g_op rfl ?_;refine f_sc g9 ((sgR seed ls.flatten)) rfl rfl rfl rfl rfl (fun _ h1=>(h1.1.blk b9).range) ?_;refine g_go ?_;refine g_op rfl ?_;refine f_sc g12 ((sgK (sgRB seed ls.flatten) (sgKey seed) ls.flatten)) rfl rfl rfl rfl rfl (fun _ h1=>(h1.1.blk b12).range) ?_;refine g_go ?_;refine g_op rfl ?_;refine f_sc g4 (le (sgAB seed) % LL) rfl rfl rfl rfl rfl (fun _ h1=>(h1.1.blk b4).range) ?_;refine g_go ?_;refine g_op rfl ?_;refine f_call #[.agg (Us (ws ((sgK (sgRB seed ls.flatten) (sgKey seed) ls.flatten)))).toArray,.agg (Us (ws (le (sgAB seed) % LL))).toArray] (.agg (Us (ws ((((sgK (sgRB seed ls.flatten) (sgKey seed) ls.flatten)) * (le (sgAB seed) % LL) % LL)))).toArray) rfl rfl rfl own_scmul (fun w1 h1=>scmul_f (sgK_lt _ _ _) (ll_mod (le (sgAB seed))) w1) rfl rfl ?_;refine g_go ?_;refine g_op rfl ?_
 refine f_call #[.agg (Us (ws ((sgR seed ls.flatten)))).toArray,.agg (Us (ws ((((sgK (sgRB seed ls.flatten) (sgKey seed) ls.flatten)) * (le (sgAB seed) % LL) % LL)))).toArray] (.agg (Us (ws ((sgS seed ls.flatten)))).toArray) rfl rfl rfl own_scadd (fun w1 h1=>by
   have:=scadd_f (x:=(sgR seed ls.flatten)) (y:=(((sgK (sgRB seed ls.flatten) (sgKey seed) ls.flatten)) * (le (sgAB seed) % LL) % LL)) (sgR_lt _ _) (ll_mod (((sgK (sgRB seed ls.flatten) (sgKey seed) ls.flatten)) * (le (sgAB seed) % LL))) w1
   rwa [sgS_eq] at this) rfl rfl ?_
 refine g_go ?_;refine g_op rfl ?_;refine f_call #[.agg (Us (ws ((sgS seed ls.flatten)))).toArray] (.agg (By (Nums.bytes 32 ((sgS seed ls.flatten)))).toArray) rfl rfl rfl own_schash (fun w1 h1=>schash_f ((sgS seed ls.flatten)) w1) rfl rfl ?_;refine g_go ?_;refine g_alloc z32 (W14).heap.size rfl rfl rfl rfl rfl (by kernel_rfl) (fun _ h=>h.size) (fun g w w' h hr=>⟨h.1,h.2.later hr⟩) fun g15 _ _ _ _=>?_;refine g_end fun W16 hw16 hF16=>?_;have b15:=(hF16 6 _ rfl).2;have ge15:=(hF16 6 _ rfl).1
 have n1_15 : g1 ≠ g15:=by have:=b1.lt; omega
 have n2_15 : g2 ≠ g15:=by have:=b2.lt; omega
 have n4_15 : g4 ≠ g15:=by have:=b4.lt; omega
 have n5_15 : g5 ≠ g15:=by have:=b5.lt; omega
 have n9_15 : g9 ≠ g15:=by have:=b9.lt; omega
 have n1100_15 : g1100 ≠ g15:=by have:=b1100.lt; omega
 have n1101_15 : g1101 ≠ g15:=by have:=b1101.lt; omega
 have n12_15 : g12 ≠ g15:=by have:=b12.lt; omega
 have q15 : w.heap.size ≤ g15:=Nat.le_trans hU.size ge15;clear ge15;clear hF16;replace b1:=b1.later hw16;replace b2:=b2.later hw16;replace b4:=b4.later hw16;replace b5:=b5.later hw16;replace b9:=b9.later hw16;replace b1100:=b1100.later hw16;replace b1101:=b1101.later hw16;replace b12:=b12.later hw16;replace hU:=hU.step hw16;clear hw16;refine l_set g15 _ ((By (Nums.bytes 32 ((sgS seed ls.flatten)))).toArray) rfl rfl rfl rfl rfl b15 (size_H ((bytes_len _ _))) (by rw [len_by ((bytes_len _ _))]; rfl) (By_oneA _) ?_;replace b1:=b1.rowFar n1_15 ((By (Nums.bytes 32 ((sgS seed ls.flatten)))).toArray);replace b2:=b2.rowFar n2_15 ((By (Nums.bytes 32 ((sgS seed ls.flatten)))).toArray);replace b4:=b4.rowFar n4_15 ((By (Nums.bytes 32 ((sgS seed ls.flatten)))).toArray);replace b5:=b5.rowFar n5_15 ((By (Nums.bytes 32 ((sgS seed ls.flatten)))).toArray);replace b9:=b9.rowFar n9_15 ((By (Nums.bytes 32 ((sgS seed ls.flatten)))).toArray);replace b1100:=b1100.rowFar n1100_15 ((By (Nums.bytes 32 ((sgS seed ls.flatten)))).toArray);replace b1101:=b1101.rowFar n1101_15 ((By (Nums.bytes 32 ((sgS seed ls.flatten)))).toArray);replace b12:=b12.rowFar n12_15 ((By (Nums.bytes 32 ((sgS seed ls.flatten)))).toArray);replace b15:=b15.row ((By (Nums.bytes 32 ((sgS seed ls.flatten)))).toArray);replace hU:=up_row hU q15 ((By (Nums.bytes 32 ((sgS seed ls.flatten)))).toArray);generalize World.setRow _ g15 ((By (Nums.bytes 32 ((sgS seed ls.flatten)))).toArray) = W17 at *;refine l_nil ?_;refine hK _ _ ?_;clear hK K;refine c_seq fun K hK=>?_;refine c_lit ?_;refine l_allocA ((By z64).toArray) rfl rfl rfl rfl zero64 fun W18 g18 hw18 hg18 b18=>?_
 have n1_18 : g1 ≠ g18:=by have:=b1.lt; omega
 have n2_18 : g2 ≠ g18:=by have:=b2.lt; omega
 have n4_18 : g4 ≠ g18:=by have:=b4.lt; omega
 have n5_18 : g5 ≠ g18:=by have:=b5.lt; omega
 have n9_18 : g9 ≠ g18:=by have:=b9.lt; omega
 have n1100_18 : g1100 ≠ g18:=by have:=b1100.lt; omega
 have n1101_18 : g1101 ≠ g18:=by have:=b1101.lt; omega
 have n12_18 : g12 ≠ g18:=by have:=b12.lt; omega
 have n15_18 : g15 ≠ g18:=by have:=b15.lt; omega
 have q18 : w.heap.size ≤ g18:=by rw [hg18]; exact hU.size
 replace b1:=b1.later hw18;replace b2:=b2.later hw18;replace b4:=b4.later hw18;replace b5:=b5.later hw18;replace b9:=b9.later hw18;replace b1100:=b1100.later hw18;replace b1101:=b1101.later hw18;replace b12:=b12.later hw18;replace b15:=b15.later hw18;replace hU:=hU.step hw18;clear hw18 hg18;refine l_nil ?_;refine hK _ _ ?_;clear hK K;refine c_seq fun K hK=>?_;refine c_g 2 (by decide) (by kernel_rfl) (by kernel_rfl) ?_;refine g_op rfl ?_;refine f_slice64l g18 rfl rfl rfl rfl rfl ?_;refine g_go ?_;refine g_op rfl ?_;refine f_slice32 g1100 rfl rfl rfl rfl rfl ?_;refine g_go ?_;refine g_end fun W19 hw19 hF19=>?_;clear hF19;replace b1:=b1.later hw19;replace b2:=b2.later hw19;replace b4:=b4.later hw19;replace b5:=b5.later hw19;replace b9:=b9.later hw19;replace b1100:=b1100.later hw19;replace b1101:=b1101.later hw19;replace b12:=b12.later hw19;replace b15:=b15.later hw19;replace b18:=b18.later hw19;replace hU:=hU.step hw19;clear hw19;refine l_copy g18 0 32 64 _ z64 (sgRB seed ls.flatten) (.slice (some ⟨g1100,0,none⟩) 32 32) rfl rfl rfl rfl rfl rfl b18 (SB.all (b1100.later (Up.refl _)) ((sgRB_len seed ls.flatten)) (by decide)) (by rw [sgRB_len]; decide) (by rw [sgRB_len]; decide) (by rw [sgRB_len]; decide) fun b18=>?_;replace b1:=b1.rowFar n1_18 (By (cop z64 0 (sgRB seed ls.flatten))).toArray;replace b2:=b2.rowFar n2_18 (By (cop z64 0 (sgRB seed ls.flatten))).toArray;replace b4:=b4.rowFar n4_18 (By (cop z64 0 (sgRB seed ls.flatten))).toArray;replace b5:=b5.rowFar n5_18 (By (cop z64 0 (sgRB seed ls.flatten))).toArray;replace b9:=b9.rowFar n9_18 (By (cop z64 0 (sgRB seed ls.flatten))).toArray;replace b1100:=b1100.rowFar n1100_18 (By (cop z64 0 (sgRB seed ls.flatten))).toArray;replace b1101:=b1101.rowFar n1101_18 (By (cop z64 0 (sgRB seed ls.flatten))).toArray;replace b12:=b12.rowFar n12_18 (By (cop z64 0 (sgRB seed ls.flatten))).toArray;replace b15:=b15.rowFar n15_18 (By (cop z64 0 (sgRB seed ls.flatten))).toArray;replace hU:=up_row hU q18 (By (cop z64 0 (sgRB seed ls.flatten))).toArray;generalize World.setRow _ g18 (By (cop z64 0 (sgRB seed ls.flatten))).toArray = W20 at *;refine l_nil ?_;refine hK _ _ ?_;clear hK K;refine c_seq fun K hK=>?_;refine c_g 2 (by decide) (by kernel_rfl) (by kernel_rfl) ?_;refine g_op rfl ?_;refine f_slice64h g18 rfl rfl rfl rfl rfl ?_;refine g_go ?_;refine g_op rfl ?_;refine f_slice32 g15 rfl rfl rfl rfl rfl ?_;refine g_go ?_;refine g_end fun W21 hw21 hF21=>?_;clear hF21;replace b1:=b1.later hw21;replace b2:=b2.later hw21;replace b4:=b4.later hw21;replace b5:=b5.later hw21;replace b9:=b9.later hw21;replace b1100:=b1100.later hw21;replace b1101:=b1101.later hw21;replace b12:=b12.later hw21;replace b15:=b15.later hw21;replace b18:=b18.later hw21;replace hU:=hU.step hw21;clear hw21;refine l_copy g18 32 32 32 _ (cop z64 0 (sgRB seed ls.flatten)) (Nums.bytes 32 ((sgS seed ls.flatten))) (.slice (some ⟨g15,0,none⟩) 32 32) rfl rfl rfl rfl rfl rfl b18 (SB.all (b15.later (Up.refl _)) ((bytes_len _ _)) (by decide)) (by rw [bytes_len]; decide) (by rw [bytes_len]; decide) (by rw [bytes_len]; rw [cop_len64 (sgRB_len _ _)]; decide) fun b18=>?_
 replace b1:=b1.rowFar n1_18 (By (cop (cop z64 0 (sgRB seed ls.flatten)) 32 (Nums.bytes 32 ((sgS seed ls.flatten))))).toArray;replace b2:=b2.rowFar n2_18 (By (cop (cop z64 0 (sgRB seed ls.flatten)) 32 (Nums.bytes 32 ((sgS seed ls.flatten))))).toArray;replace b4:=b4.rowFar n4_18 (By (cop (cop z64 0 (sgRB seed ls.flatten)) 32 (Nums.bytes 32 ((sgS seed ls.flatten))))).toArray;replace b5:=b5.rowFar n5_18 (By (cop (cop z64 0 (sgRB seed ls.flatten)) 32 (Nums.bytes 32 ((sgS seed ls.flatten))))).toArray;replace b9:=b9.rowFar n9_18 (By (cop (cop z64 0 (sgRB seed ls.flatten)) 32 (Nums.bytes 32 ((sgS seed ls.flatten))))).toArray;replace b1100:=b1100.rowFar n1100_18 (By (cop (cop z64 0 (sgRB seed ls.flatten)) 32 (Nums.bytes 32 ((sgS seed ls.flatten))))).toArray;replace b1101:=b1101.rowFar n1101_18 (By (cop (cop z64 0 (sgRB seed ls.flatten)) 32 (Nums.bytes 32 ((sgS seed ls.flatten))))).toArray;replace b12:=b12.rowFar n12_18 (By (cop (cop z64 0 (sgRB seed ls.flatten)) 32 (Nums.bytes 32 ((sgS seed ls.flatten))))).toArray;replace b15:=b15.rowFar n15_18 (By (cop (cop z64 0 (sgRB seed ls.flatten)) 32 (Nums.bytes 32 ((sgS seed ls.flatten))))).toArray;replace hU:=up_row hU q18 (By (cop (cop z64 0 (sgRB seed ls.flatten)) 32 (Nums.bytes 32 ((sgS seed ls.flatten))))).toArray;rw [sig_cop] at b1 b2 b4 b5 b9 b1100 b1101 b12 b15 b18 hU ⊢;generalize World.setRow _ g18 (By (sgSig seed ls.flatten)).toArray = W22 at *;refine l_nil ?_;refine hK _ _ ?_;clear hK K;refine c_seq fun K hK=>?_;refine c_gF 1 ?_;refine g_op rfl ?_;refine f_b64 g18 ((sgSig_len _ _)) rfl rfl rfl rfl rfl (fun _ h1=>(h1.1.blk b18).range) ?_;refine g_go ?_;refine g_end fun W23 hw23 hF23=>?_;clear hF23;replace b2:=b2.later hw23;replace hU:=hU.step hw23;clear hw23;refine l_set g2 _ ((By (sgSig seed ls.flatten)).toArray) rfl rfl rfl rfl rfl b2 (size_64 ((sgSig_len _ _))) (by rw [List.size_toArray,List.size_toArray,By_len,By_len,((sgSig_len _ _))]; rfl) (By_oneA _) ?_;replace b2:=b2.row ((By (sgSig seed ls.flatten)).toArray);replace hU:=up_row hU q2 ((By (sgSig seed ls.flatten)).toArray);generalize World.setRow _ g2 ((By (sgSig seed ls.flatten)).toArray) = W24 at *;refine l_nil ?_;refine hK _ _ ?_;clear hK K;exact c_ret (k_ret_row g2 _ rfl rfl b2 Tryd.underlying32 rfl (size_64 ((sgSig_len _ _))) ⟨rfl,hU⟩)
end Go.Proofs.YtminmeljonbogaaDoor
/-
  PLAIN NUMBERS: rows of digits of 256, and L's. No program is imported.
-/
namespace Nums

def W2 : Nat → Int
  | 0=>1
  | k + 1=>256 * W2 k
end Nums
/-
  THE DOCUMENT'S OWN SCALARS: order, Below.
-/
namespace Go.Proofs.YtminmeljonbogaaDoor
open Go.RowKit Go.IntWalk Nums

end Go.Proofs.YtminmeljonbogaaDoor
/-
  PLAIN NUMBERS: a number of 33 digits less L, digit by digit. No program is imported.
-/
namespace Nums

end Nums
/-
  THE DOCUMENT'S OWN SCALARS: less.
-/
namespace Go.Proofs.YtminmeljonbogaaDoor
open Go.RowKit Go.IntWalk Nums

end Go.Proofs.YtminmeljonbogaaDoor
/-
  PLAIN NUMBERS: a number modulo L, bit by bit. No program is imported.
-/
namespace Nums


end Nums
/-
  THE DOCUMENT'S OWN SCALARS: Mod.
-/
namespace Go.Proofs.YtminmeljonbogaaDoor
open Go.RowKit Go.IntWalk Nums

end Go.Proofs.YtminmeljonbogaaDoor
/-
  PLAIN NUMBERS: sums of bytes. No program is imported.
-/
namespace Nums

theorem le_take {l : List UInt8} {k : Nat} (h : k < l.length) : le (l.take (k + 1)) = le (l.take k) + 256 ^ k * (l[k]!).toNat:=by
 rw [List.take_succ_eq_append_getElem h,le_append,List.length_take,Nat.min_eq_left (by omega),getElem!_pos l k h]
 show _ + _ * (l[k].toNat + 256 * 0) = _
 rw [Nat.mul_zero,Nat.add_zero]
theorem good_iff {b : List UInt8} (hb : b.length = 32) : decide (bytes 32 (le b % LL) = b) = decide (le b < LL):=by
 congr 1
 refine propext ⟨fun h=>?_,fun h=>?_⟩
 ·have h1:=congrArg le h
  rw [le_bytes] at h1;have h2 : le b % LL < LL:=Nat.mod_lt _ (by decide);have h3 : le b % LL % 256 ^ 32 = le b % LL:=Nat.mod_eq_of_lt (Nat.lt_trans h2 (by decide))
  omega
 ·apply le_inj (by rw [bytes_len,hb])
  rw [le_bytes,Nat.mod_eq_of_lt h,Nat.mod_eq_of_lt (Nat.lt_trans h (by decide))]
end Nums
/-
  THE PROGRAM'S SCALARS: New.
-/
namespace Go.Proofs.YtminmeljonbogaaDoor
open Go.RowKit Go.IntWalk Nums

theorem own_scnew : Own 43:=fun _ _=>by go_simp

def z64v : Array Value:=(By (List.replicate 64 0)).toArray
section
variable {ops : Array Oper} {C0 : World → Prop} {Q : Act → Prop} {a : Act} {o : Oper} {rest : List Oper}
theorem b_by64 {l : List UInt8} (g : Nat) (hl : l.length = 64) (x : Operand) (hg : Region.wanted o (yielded ops a.tmps) = true) (ho : o.op = .load 32 x) (hx : a.eval x = .pointer (some ⟨g,0,none⟩))
  (hc : ∀ w,C0 w → Blk w g 32 (By l).toArray) (hk : wpB Tryd.prog ops C0 Q rest (a.put o.dst (.agg (By l).toArray))) : wpB Tryd.prog ops C0 Q (o :: rest) a :=
 b_mid hg 32 x ho g 0 hx (By l) _ (fun w h=>(hc w h).range) Tryd.underlying32 rfl (size_w64 (By l).toArray (len_b64 hl)) hk
end

theorem le_zero : ∀ n,le (List.replicate n 0) = 0
 | 0=>rfl
 | n + 1=>by
  show (0 : UInt8).toNat + 256 * le (List.replicate n 0) = 0
  rw [le_zero n]
  rfl
theorem cop_half {b : List UInt8} (hb : b.length = 32) : (cop (List.replicate 64 0) 0 b).length = 64 ∧ le (cop (List.replicate 64 0) 0 b) = le b:=by
 have e : cop (List.replicate 64 0) 0 b = b ++ List.replicate 32 0:=by
  simp [cop,hb]
 rw [e];refine ⟨by simp [hb],?_⟩;rw [le_append,le_zero,Nat.mul_zero,Nat.add_zero]

/-! ### New -/
set_option maxRecDepth 100000 in
set_option maxHeartbeats 1000000 in
theorem scnew_f {b : List UInt8} (hb : b.length = 32) (w : World) :
  Calls Tryd.prog 43 #[.agg (By b).toArray] w fun e w'=>e = .returned (.tuple #[.agg (Us (ws (if le b < LL then le b else 0))).toArray,.bool (decide (le b < LL))]) ∧ Below w.heap.size w w':=by
 obtain ⟨hl,hle⟩:=cop_half hb;have hE:=fun w1=>equal32 (Nums.bytes 32 (le b % LL)) b (bytes_len _ _) hb w1;rw [good_iff hb] at hE;have hW:=fun w1=>wide_f hl w1;rw [hle] at hW;clear hle
 go_enter Tryd.func43,Tryd.ntmps43
 refine wp_seq_k fun K hK=>?_;refine wp_region_lit ?_;refine wpl_box (By b).toArray rfl rfl rfl ?_;refine wpl_alloc (zs:=z4) rfl rfl (by kernel_rfl) ?_;refine wpl_assign rfl rfl ?_;refine wpl_nil ?_
 go_simp
 refine hK _ _ ?_;clear hK K;refine wp_seq_k fun K hK=>?_;refine wp_region_lit ?_;refine wpl_alloc (zs:=z64v) rfl rfl (by kernel_rfl) ?_;refine wpl_nil ?_
 go_simp
 refine hK _ _ ?_;clear hK K;refine wp_at (fun W=>Blk W w.heap.size 22 (By b).toArray ∧ Blk W (w.heap.size + 1) 59 z4 ∧ Blk W (w.heap.size + 1 + 1) 32 z64v ∧ Below w.heap.size w W) ⟨blk3_0 w _ _ _ _,blk3_1 w _ _ _ _,blk3_2 w _ _ _ _,(((Below.refl _ _).alloc (Nat.le_refl _) _).alloc (by simp) _).alloc (by simp; omega) _⟩ ?_
 rintro W ⟨h0,h1,h2,hbe⟩
 refine wp_seq_k fun K hK=>?_;refine reg_copy 2 (.tmp 6) (.tmp 7) rfl rfl rfl (tail_ok (by kernel_rfl)) (fun _ _ d _ _ h=>by cases d <;> exact h) (by kernel_rfl) ?_;simp only [List.take_succ_cons,List.take_zero];refine b_val (v:=.slice (some ⟨w.heap.size + 1 + 1,0,none⟩) 64 64) rfl (fun w1 h1=>by go_simp) ?_;simp only [Act.put,List.setIfInBounds_toArray,List.set_cons_zero,List.set_cons_succ];refine b_val (v:=.slice (some ⟨w.heap.size,0,none⟩) 32 32) rfl (fun w1 h1=>by go_simp) ?_;simp only [Act.put,List.setIfInBounds_toArray,List.set_cons_zero,List.set_cons_succ];refine wpB_nil ⟨w.heap.size + 1 + 1,0,64,64,w.heap.size,32,_,_,_,b,rfl,by rw [hb]; rfl,h2,h0,by omega,by rw [hb,List.length_replicate]; omega,fun W1 hw1=>?_⟩;simp only [Exit.then,Act.put,List.setIfInBounds_toArray,List.set_cons_zero,List.set_cons_succ];refine hK _ _ ?_;clear hK K;have k0:=(hw1.blk h0).rowFar (g':=w.heap.size + 1 + 1) (by omega) (By (cop (List.replicate 64 0) 0 b)).toArray;have k1:=(hw1.blk h1).rowFar (g':=w.heap.size + 1 + 1) (by omega) (By (cop (List.replicate 64 0) 0 b)).toArray;have k2:=(hw1.blk h2).row (By (cop (List.replicate 64 0) 0 b)).toArray;have kbe:=below_setRow (below_up hbe hw1) (g:=w.heap.size + 1 + 1) (by omega) (By (cop (List.replicate 64 0) 0 b)).toArray;clear hw1 h0 h1 h2 hbe;generalize cop (List.replicate 64 0) 0 b = l at *;generalize W1.setRow (w.heap.size + 1 + 1) (By l).toArray = W2 at *;have hz:=len_u4 (ws_len (le b % LL));refine wp_seq_k fun K hK=>?_;refine reg_varF 2 5 59 (.tmp 10) z4 rfl rfl rfl rfl rfl rfl rfl (exec_alloc rfl (by kernel_rfl)) ?_;simp only [List.take_succ_cons,List.take_zero];refine b_by64 (w.heap.size + 1 + 1) hl _ rfl rfl rfl (fun _ h=>h.blk k2) ?_;simp only [Act.put,List.setIfInBounds_toArray,List.set_cons_zero,List.set_cons_succ];refine b_one rfl own_wide (fun w1=>hW w1) rfl rfl ?_;simp only [Act.put,List.setIfInBounds_toArray,List.set_cons_zero,List.set_cons_succ];refine wpB_nil ⟨(Us (ws (le b % LL))).toArray,fun _=>rfl,fun _=>rfl,hz.symm,size_sc _ hz,Us_one _,fun gx W3 hgx hw1 hbx=>?_⟩;simp only [Exit.then,Act.put,List.setIfInBounds_toArray,List.set_cons_zero,List.set_cons_succ];refine hK _ _ ?_;clear hK K;have k0:=hw1.blk k0;have k1:=hw1.blk k1;have kbe:=below_up kbe hw1;clear hw1 k2 hW hl;refine wp_seq_k fun K hK=>?_;refine wp_seq_k fun K2 hK2=>?_;refine reg_q (by kernel_rfl) (tail_ok (by kernel_rfl)) (fun _ _ d _ _ h=>by cases d <;> exact h) ?_;refine b_sc gx (ws_len _) _ rfl rfl rfl (fun _ h=>h.blk hbx) ?_;simp only [Act.put,List.setIfInBounds_toArray,List.set_cons_zero,List.set_cons_succ];refine b_one rfl own_schash (fun w1=>schash_f (le b % LL) w1) rfl rfl ?_;simp only [Act.put,List.setIfInBounds_toArray,List.set_cons_zero,List.set_cons_succ];refine b_by w.heap.size hb _ rfl rfl rfl (fun _ h=>h.blk k0) ?_;simp only [Act.put,List.setIfInBounds_toArray,List.set_cons_zero,List.set_cons_succ]
 refine b_neq (By (Nums.bytes 32 (le b % LL))).toArray (By b).toArray rfl rfl rfl rfl (by kernel_rfl) hE ?_;simp only [Act.put,List.setIfInBounds_toArray,List.set_cons_zero,List.set_cons_succ];refine wpB_nil ?_
 intro W1 hw1
 simp only [Exit.then];refine hK2 _ _ ?_;clear hK2 K2;have hbx:=hw1.blk hbx;have k1:=hw1.blk k1;have kbe:=below_up kbe hw1;clear hw1 k0 hE
 by_cases hq : le b < LL
 ·rw [decide_eq_true hq]
  have hm : le b % LL = le b:=Nat.mod_eq_of_lt hq;rw [hm] at hbx hz;refine wp_cond (t:=false) rfl ?_;rw [if_neg (by decide)];refine wp_skip ?_;simp only [Exit.then];refine hK _ _ ?_;clear hK K;refine wp_seq_k fun K hK=>?_;refine wp_region_lit ?_;refine wpList_load_row rfl 59 _ rfl gx rfl 59 (Us (ws (le b))).toArray (0,0) _ hbx Tryd.underlying59 rfl (size_sc _ hz) ?_;simp only [Act.put,List.setIfInBounds_toArray,List.set_cons_zero,List.set_cons_succ];refine wpList_store_row rfl 59 _ _ rfl (w.heap.size + 1) rfl (Us (ws (le b))).toArray rfl 59 _ k1 (size_sc _ hz) (by rw [hz]; rfl) (Us_one _) ?_;refine wpl_assign rfl rfl ?_;refine wpl_nil ?_;simp only [Exit.then,Act.put,List.setIfInBounds_toArray,List.set_cons_zero,List.set_cons_succ];refine hK _ _ ?_;clear hK K;refine wp_ret ?_;refine bodyPost_ret (results_cell_tmp rfl _ _ (w.heap.size + 1) 59 (Us (ws (le b))).toArray (0,0) _ (.bool true) rfl rfl (k1.row _) Tryd.underlying59 rfl (size_sc _ hz)) rfl ⟨by rw [if_pos hq,decide_eq_true hq],?_⟩;exact below_setRow kbe (by omega) _
 ·rw [decide_eq_false hq]
  refine wp_cond (t:=true) rfl ?_;rw [if_pos rfl];refine wp_seq_k fun K2 hK2=>?_;refine wp_region_lit ?_;refine wpl_build (t:=59) [] z4 rfl rfl rfl (by kernel_rfl) ?_;simp only [Act.put,List.setIfInBounds_toArray,List.set_cons_zero,List.set_cons_succ];refine wpList_store_row rfl 59 _ _ rfl (w.heap.size + 1) rfl z4 rfl 59 _ k1 (size_sc _ rfl) rfl (Us_one _) ?_;refine wpl_assign rfl rfl ?_;refine wpl_nil ?_;simp only [Exit.then,Act.put,List.setIfInBounds_toArray,List.set_cons_zero,List.set_cons_succ];refine hK2 _ _ ?_;clear hK2 K2 hK;refine wp_ret ?_;simp only [Exit.then];refine bodyPost_ret (results_cell_tmp rfl _ _ (w.heap.size + 1) 59 z4 (0,0) _ (.bool false) rfl rfl (k1.row _) Tryd.underlying59 rfl (size_sc _ rfl)) rfl ⟨by rw [if_neg hq]; rfl,?_⟩;exact below_setRow kbe (by omega) _

end Go.Proofs.YtminmeljonbogaaDoor
/-
  STEPS AT THE DOCUMENT'S OWN POINTS, over frames by what is known of them.
-/
namespace Go.Proofs.YtminmeljonbogaaDoor
open Go.RowKit Go.IntWalk Nums

theorem own_cboth : Own 44:=fun _ _=>by go_simp
end Go.Proofs.YtminmeljonbogaaDoor
/-
  THE PROGRAM'S SIGNATURES: Verify.
-/
namespace Go.Proofs.YtminmeljonbogaaDoor
open Go.RowKit Go.IntWalk Nums

theorem own_verify : Own 13:=fun _ _=>by go_simp
open Classical in
noncomputable def rightB (key sig m : List UInt8) : Bool:=decide (Right key sig m)
open Classical in
theorem rightB_no {key sig m : List UInt8} (h : ¬ ∃ A,Ed.On dd A ∧ encP A = key) : rightB key sig m = false:=decide_eq_false fun ⟨A,h1,h2,_⟩=>h ⟨A,h1,h2⟩
open Classical in
theorem rightB_small {A : Ed.Pt p} {sig m : List UInt8} (hA : Ed.On dd A) (h : Ed.mul dd 8 A = Ed.zero) : rightB (encP A) sig m = false:=decide_eq_false fun ⟨B,h1,h2,h3,_⟩=>h3 (by rw [encP_inj h1 hA h2]; exact h)
open Classical in
theorem rightB_great {key sig m : List UInt8} (h : ¬ le (sig.drop 32) < LL) : rightB key sig m = false:=decide_eq_false fun ⟨_,_,_,_,h4,_⟩=>h h4
theorem rightB_is {A : Ed.Pt p} {sig m : List UInt8} (hA : Ed.On dd A) (h8 : Ed.mul dd 8 A ≠ Ed.zero) (hS : le (sig.drop 32) < LL) :
  rightB (encP A) sig m = decide (encP (Ed.add dd (Ed.mul dd (le (Nums.bytes 32 (le (sig.drop 32)))) base) (Ed.mul dd (le (Nums.bytes 32 (sgK (sig.take 32) (encP A) m))) (Ed.neg A))) = sig.take 32):=by
 rw [le_bytesL hS,le_bytesL (sgK_lt _ _ _),Ed.mul_neg good hA]
 unfold rightB
 rw [decide_eq_decide]
 constructor
 ·rintro ⟨B,h1,h2,_,_,h5⟩
  obtain rfl:=encP_inj h1 hA h2;exact h5
 ·exact fun h=>⟨A,hA,rfl,h8,hS,h⟩
theorem small_dec {A : Ed.Pt p} (hA : Ed.On dd A) : encP (Ed.mul dd 8 A) = encP Ed.zero ↔ Ed.mul dd 8 A = Ed.zero :=
 ⟨fun h=>encP_inj (Ed.on_mul good hA 8) Ed.on_zero h,fun h=>by rw [h]⟩
section
variable {ops : Array Oper} {C0 : World → Prop} {Q : Act → Prop} {N : Nat} {E : List (Nat × Value)} {o : Oper} {rest : List Oper} {k : Nat}
theorem f_neE {x y : Operand} {t t' : TypeId} (m n : Int) (q : Bool) (hg : o.guard = none) (hd : o.dst = some k) (hk : Nat.blt k N = true) (ho : o.op = .binOp .neq t x y t') (ht : t = 42) (hx : ev E x = some (.int .i64 m)) (hy : ev E y = some (.int .i64 n))
  (hr : decide (m ≠ n) = q) (hn : bF Tryd.prog ops C0 Q rest N ((k,.bool q) :: E)) : bF Tryd.prog ops C0 Q (o :: rest) N E:=by
 subst ht
 exact f_val _ hg hd hk (fun a ha w _=>by
  have h1:=ha.eval hx;have h2:=ha.eval hy;subst hr
  unfold execOp
  simp only [ho,h1,h2]
  by_cases e : m = n <;> go_simp) hn
end

set_option maxRecDepth 100000 in
set_option maxHeartbeats 2000000 in
theorem verify_f {key sig : List UInt8} {P : Option Addr} {ls : List (List UInt8)} {pc : Nat} (hk : key.length = 32) (hs : sig.length = 64) (w : World) (hT : Ta w) (hP : PT w P ls) (h0 : P = none → pc = 0) (hls : ls.length ≤ 1000000) :
  Calls Tryd.prog 13 #[.agg (By key).toArray,.agg (By sig).toArray,.slice P ls.length pc] w fun e w'=>e = .returned (.bool (rightB key sig ls.flatten)) ∧ Below w.heap.size w w':=by
 refine calls_F (vs:=[.agg (By key).toArray,.agg (By sig).toArray,.slice P ls.length pc]) 50 Tryd.func13 rfl (by rw [Tryd.ntmps13]; rfl) ?_;have hU:=Up.refl w;refine c_seq fun K hK=>?_;refine c_lit ?_;refine l_boxA ((By key).toArray) rfl rfl rfl rfl rfl fun W1 g1 hw1 hg1 b1=>?_;replace hU:=hU.step hw1;clear hw1 hg1;refine l_boxA ((By sig).toArray) rfl rfl rfl rfl rfl fun W2 g2 hw2 hg2 b2=>?_;replace b1:=b1.later hw2;replace hU:=hU.step hw2;clear hw2 hg2;refine l_assign (.bool false) rfl rfl rfl rfl rfl ?_;refine l_nil ?_;refine hK _ _ ?_;clear hK K
 by_cases hA : ∃ A,Ed.On dd A ∧ encP A = key
 ·obtain ⟨A,hA,rfl⟩:=hA
  refine c_seq fun K hK=>?_;refine c_gF 5 ?_;refine g_op rfl ?_;refine f_by g1 0 hk rfl rfl rfl rfl rfl (fun _ h1=>(h1.1.blk b1).range) ?_;refine g_go ?_;refine g_op rfl ?_;refine f_callV #[.agg (By (encP A)).toArray] (fun v=>∃ l,QB l A ∧ v = .tuple #[.agg (Us l).toArray,.int .i64 0]) rfl rfl rfl own_cdecode (fun w1 h1=>cdec_pt hA w1 (hT.below (hU.step h1.1)).tw) rfl rfl ?_
  rintro _ ⟨l,hl,rfl⟩
  refine g_go ?_;refine g_op rfl ?_;refine f_move (.tuple #[.agg (Us l).toArray,.int .i64 0]) rfl rfl rfl rfl rfl ?_;refine g_go ?_;refine g_op rfl ?_;refine f_extract (.agg (Us l).toArray) rfl rfl rfl rfl rfl rfl ?_;refine g_go ?_;refine g_op rfl ?_;refine f_extract (.int .i64 0) rfl rfl rfl rfl rfl rfl ?_;refine g_go ?_;refine g_end fun W3 hw3 hF3=>?_;clear hF3;replace b1:=b1.later hw3;replace b2:=b2.later hw3;replace hU:=hU.step hw3;clear hw3;refine l_allocA ((Us pz).toArray) rfl rfl rfl rfl (by kernel_rfl) fun W4 g4 hw4 hg4 b4=>?_
  have n1_4 : g1 ≠ g4:=by have:=b1.lt; omega
  have n2_4 : g2 ≠ g4:=by have:=b2.lt; omega
  have q4 : w.heap.size ≤ g4:=by rw [hg4]; exact hU.size
  replace b1:=b1.later hw4;replace b2:=b2.later hw4;replace hU:=hU.step hw4;clear hw4 hg4;refine l_set g4 _ ((Us l).toArray) rfl rfl rfl rfl rfl b4 (size_P hl.len) ((us_size pz_len).trans (us_size hl.len).symm) (Us_oneA _) ?_;replace b1:=b1.rowFar n1_4 ((Us l).toArray);replace b2:=b2.rowFar n2_4 ((Us l).toArray);replace b4:=b4.row ((Us l).toArray);replace hU:=up_row hU q4 ((Us l).toArray);generalize World.setRow _ g4 ((Us l).toArray) = W5 at *;refine l_assign (.int .i64 0) rfl rfl rfl rfl rfl ?_;refine l_nil ?_;refine hK _ _ ?_;clear hK K;have hsm:=small_dec hA;refine c_seq fun K0 hK0=>?_;refine c_seq fun K hK=>?_;refine c_gF 6 ?_;refine g_op rfl ?_;refine f_move (.int .i64 0) rfl rfl rfl rfl rfl ?_;refine g_go ?_;refine g_op rfl ?_;refine f_neE _ 0 false rfl rfl rfl rfl rfl rfl rfl (by decide) ?_;refine g_go ?_;refine g_op rfl ?_;refine f_move (.bool false) rfl rfl rfl rfl rfl ?_;refine g_go ?_;refine g_guard rfl rfl rfl rfl ?_;refine g_op rfl ?_;refine f_pt g4 0 hl.len rfl rfl rfl rfl rfl (fun _ h1=>(h1.1.blk b4).range) ?_;refine g_go ?_;refine g_guard rfl rfl rfl rfl ?_;refine g_op rfl ?_;refine f_call #[.agg (Us l).toArray] (.bool (decide (encP (Ed.mul dd 8 A) = encP Ed.zero))) rfl rfl rfl own_csmall (fun w1 h1=>csmall_f (.inr hl) w1 (hT.below (hU.step h1.1)).tw) rfl rfl ?_;refine g_go ?_;refine g_op rfl ?_;refine f_pickF (.bool ((decide (encP (Ed.mul dd 8 A) = encP Ed.zero)))) rfl rfl rfl rfl rfl rfl ?_;refine g_go ?_;refine g_end fun W6 hw6 hF6=>?_;clear hF6;replace b1:=b1.later hw6;replace b2:=b2.later hw6;replace b4:=b4.later hw6;replace hU:=hU.step hw6;clear hw6;refine l_nil ?_;refine hK _ _ ?_;clear hK K
  by_cases h8 : Ed.mul dd 8 A = Ed.zero
  ·rw [decide_eq_true (hsm.2 h8)]
   refine c_cond true rfl ?_;rw [if_pos rfl];refine c_seq fun K hK=>?_;refine c_lit ?_;refine l_assign (.bool false) rfl rfl rfl rfl rfl ?_;refine l_nil ?_;refine hK _ _ ?_;clear hK K;rw [rightB_small hA h8];exact c_ret (k_then_ret (fun a ha=>bodyPost_ret (results_tmp rfl _ _ _) ha.defers ⟨congrArg Ending.returned (ha.get 6 _ rfl),hU⟩))
  ·rw [decide_eq_false fun h=>h8 (hsm.1 h)]
   refine c_cond false rfl ?_;rw [if_neg (by decide)];refine c_skip ?_;refine hK0 _ _ ?_;clear hK0 K0;clear hsm;refine c_seq fun K hK=>?_;refine c_gF 7 ?_;refine g_op rfl ?_;refine f_slice64h g2 rfl rfl rfl rfl rfl ?_;refine g_go ?_;refine g_op rfl ?_;refine f_arrp (some ⟨g2,32,none⟩) 32 rfl rfl rfl rfl rfl ?_;refine g_go ?_;refine g_op rfl ?_;refine f_by g2 32 (drop32 hs) rfl rfl rfl rfl rfl (fun _ h1=>rng_drop (h1.1.blk b2) hs) ?_;refine g_go ?_;refine g_op rfl ?_;refine f_call #[.agg (By (sig.drop 32)).toArray] (.tuple #[.agg (Us (ws ((if le (sig.drop 32) < LL then le (sig.drop 32) else 0)))).toArray,.bool ((decide (le (sig.drop 32) < LL)))]) rfl rfl rfl own_scnew (fun w1 h1=>scnew_f (drop32 hs) w1) rfl rfl ?_;refine g_go ?_;refine g_op rfl ?_;refine f_move (.tuple #[.agg (Us (ws ((if le (sig.drop 32) < LL then le (sig.drop 32) else 0)))).toArray,.bool ((decide (le (sig.drop 32) < LL)))]) rfl rfl rfl rfl rfl ?_;refine g_go ?_;refine g_op rfl ?_;refine f_extract (.agg (Us (ws ((if le (sig.drop 32) < LL then le (sig.drop 32) else 0)))).toArray) rfl rfl rfl rfl rfl rfl ?_;refine g_go ?_;refine g_op rfl ?_;refine f_extract (.bool ((decide (le (sig.drop 32) < LL)))) rfl rfl rfl rfl rfl rfl ?_;refine g_go ?_;refine g_end fun W7 hw7 hF7=>?_;clear hF7;replace b1:=b1.later hw7;replace b2:=b2.later hw7;replace b4:=b4.later hw7;replace hU:=hU.step hw7;clear hw7;refine l_allocA z4 rfl rfl rfl rfl (by kernel_rfl) fun W8 g8 hw8 hg8 b8=>?_
   have n1_8 : g1 ≠ g8:=by have:=b1.lt; omega
   have n2_8 : g2 ≠ g8:=by have:=b2.lt; omega
   have n4_8 : g4 ≠ g8:=by have:=b4.lt; omega
   have q8 : w.heap.size ≤ g8:=by rw [hg8]; exact hU.size
   replace b1:=b1.later hw8;replace b2:=b2.later hw8;replace b4:=b4.later hw8;replace hU:=hU.step hw8;clear hw8 hg8;refine l_set g8 _ ((Us (ws ((if le (sig.drop 32) < LL then le (sig.drop 32) else 0)))).toArray) rfl rfl rfl rfl rfl b8 (size_S _) (by rw [us_size (ws_len _)]; rfl) (Us_oneA _) ?_;replace b1:=b1.rowFar n1_8 ((Us (ws ((if le (sig.drop 32) < LL then le (sig.drop 32) else 0)))).toArray);replace b2:=b2.rowFar n2_8 ((Us (ws ((if le (sig.drop 32) < LL then le (sig.drop 32) else 0)))).toArray);replace b4:=b4.rowFar n4_8 ((Us (ws ((if le (sig.drop 32) < LL then le (sig.drop 32) else 0)))).toArray);replace b8:=b8.row ((Us (ws ((if le (sig.drop 32) < LL then le (sig.drop 32) else 0)))).toArray);replace hU:=up_row hU q8 ((Us (ws ((if le (sig.drop 32) < LL then le (sig.drop 32) else 0)))).toArray);generalize World.setRow _ g8 ((Us (ws ((if le (sig.drop 32) < LL then le (sig.drop 32) else 0)))).toArray) = W9 at *;refine l_assign (.bool ((decide (le (sig.drop 32) < LL)))) rfl rfl rfl rfl rfl ?_;refine l_nil ?_;refine hK _ _ ?_;clear hK K
   by_cases hS : le (sig.drop 32) < LL
   ·rw [decide_eq_true hS]
    refine c_seq fun K0 hK0=>?_;refine c_seq fun K hK=>?_;refine c_gF 2 ?_;refine g_op rfl ?_;refine f_move (.bool true) rfl rfl rfl rfl rfl ?_;refine g_go ?_;refine g_op rfl ?_;refine f_not true false rfl rfl rfl rfl rfl rfl ?_;refine g_go ?_;refine g_end fun W10 hw10 hF10=>?_;clear hF10;replace b1:=b1.later hw10;replace b2:=b2.later hw10;replace b4:=b4.later hw10;replace b8:=b8.later hw10;replace hU:=hU.step hw10;clear hw10;refine l_nil ?_;refine hK _ _ ?_;clear hK K;refine c_cond false rfl ?_;rw [if_neg (by decide)];refine c_skip ?_;refine hK0 _ _ ?_;clear hK0 K0;rw [if_pos hS] at b8;refine c_seq fun K hK=>?_;refine c_gF 3 ?_;refine g_op rfl ?_;refine f_slice64l g2 rfl rfl rfl rfl rfl ?_;refine g_go ?_;refine g_op rfl ?_;refine f_arrp (some ⟨g2,0,none⟩) 64 rfl rfl rfl rfl rfl ?_;refine g_go ?_;refine g_op rfl ?_;refine f_by g2 0 (take32 hs) rfl rfl rfl rfl rfl (fun _ h1=>rng_take (h1.1.blk b2) hs) ?_;refine g_go ?_;refine g_end fun W11 hw11 hF11=>?_;clear hF11;replace b1:=b1.later hw11;replace b4:=b4.later hw11;replace b8:=b8.later hw11;replace hU:=hU.step hw11;clear hw11;refine l_allocA z32 rfl rfl rfl rfl (by kernel_rfl) fun W12 g12 hw12 hg12 b12=>?_
    have n1_12 : g1 ≠ g12:=by have:=b1.lt; omega
    have n4_12 : g4 ≠ g12:=by have:=b4.lt; omega
    have n8_12 : g8 ≠ g12:=by have:=b8.lt; omega
    have q12 : w.heap.size ≤ g12:=by rw [hg12]; exact hU.size
    replace b1:=b1.later hw12;replace b4:=b4.later hw12;replace b8:=b8.later hw12;replace hU:=hU.step hw12;clear hw12 hg12;refine l_set g12 _ ((By (sig.take 32)).toArray) rfl rfl rfl rfl rfl b12 (size_H (take32 hs)) (by rw [len_by (take32 hs)]; rfl) (By_oneA _) ?_;replace b1:=b1.rowFar n1_12 ((By (sig.take 32)).toArray);replace b4:=b4.rowFar n4_12 ((By (sig.take 32)).toArray);replace b8:=b8.rowFar n8_12 ((By (sig.take 32)).toArray);replace b12:=b12.row ((By (sig.take 32)).toArray);replace hU:=up_row hU q12 ((By (sig.take 32)).toArray);generalize World.setRow _ g12 ((By (sig.take 32)).toArray) = W13 at *;refine l_nil ?_;refine hK _ _ ?_;clear hK K;refine c_seq fun K hK=>?_;refine c_g 5 (by decide) (by kernel_rfl) (by kernel_rfl) ?_;refine g_op rfl ?_;refine f_slice32 g12 rfl rfl rfl rfl rfl ?_;refine g_go ?_;refine g_op rfl ?_;refine f_slice32 g1 rfl rfl rfl rfl rfl ?_;refine g_go ?_;refine g_op rfl ?_;refine f_move (.slice P ls.length pc) rfl rfl rfl rfl rfl ?_;refine g_go ?_;refine g_op rfl ?_
    refine f_call #[.slice (some ⟨g12,0,none⟩) 32 32,.slice (some ⟨g1,0,none⟩) 32 32,.slice P ls.length pc] (.agg (Us (ws ((sgK (sig.take 32) (encP A) ls.flatten)))).toArray) rfl rfl rfl own_number (fun w1 h1=>by
      have:=number_f (P:=P) (ls:=ls) (pc:=pc) w1 (hT.below (hU.step h1.1)).sh (SB.all (b12.later h1.1) (take32 hs) (by decide)) (SB.all (b1.later h1.1) hk (by decide)) (hP.later (hU.step h1.1)) h0 hls
      rwa [sgK_eq] at this) rfl rfl ?_
    refine g_go ?_;refine g_alloc z4 (W13).heap.size rfl rfl rfl rfl rfl (by kernel_rfl) (fun _ h=>h.size) (fun g w w' h hr=>⟨h.1,h.2.later hr⟩) fun g14 _ _ _ _=>?_;refine g_end fun W15 hw15 hF15=>?_;have b14:=(hF15 4 _ rfl).2;have ge14:=(hF15 4 _ rfl).1
    have n1_14 : g1 ≠ g14:=by have:=b1.lt; omega
    have n4_14 : g4 ≠ g14:=by have:=b4.lt; omega
    have n8_14 : g8 ≠ g14:=by have:=b8.lt; omega
    have n12_14 : g12 ≠ g14:=by have:=b12.lt; omega
    have q14 : w.heap.size ≤ g14:=Nat.le_trans hU.size ge14;clear ge14;clear hF15;replace b1:=b1.later hw15;replace b4:=b4.later hw15;replace b8:=b8.later hw15;replace b12:=b12.later hw15;replace hU:=hU.step hw15;clear hw15;refine l_set g14 _ ((Us (ws ((sgK (sig.take 32) (encP A) ls.flatten)))).toArray) rfl rfl rfl rfl rfl b14 (size_S _) (by rw [us_size (ws_len _)]; rfl) (Us_oneA _) ?_;replace b1:=b1.rowFar n1_14 ((Us (ws ((sgK (sig.take 32) (encP A) ls.flatten)))).toArray);replace b4:=b4.rowFar n4_14 ((Us (ws ((sgK (sig.take 32) (encP A) ls.flatten)))).toArray);replace b8:=b8.rowFar n8_14 ((Us (ws ((sgK (sig.take 32) (encP A) ls.flatten)))).toArray);replace b12:=b12.rowFar n12_14 ((Us (ws ((sgK (sig.take 32) (encP A) ls.flatten)))).toArray);replace b14:=b14.row ((Us (ws ((sgK (sig.take 32) (encP A) ls.flatten)))).toArray);replace hU:=up_row hU q14 ((Us (ws ((sgK (sig.take 32) (encP A) ls.flatten)))).toArray);generalize World.setRow _ g14 ((Us (ws ((sgK (sig.take 32) (encP A) ls.flatten)))).toArray) = W16 at *;refine l_nil ?_;refine hK _ _ ?_;clear hK K;refine c_seq fun K hK=>?_;refine c_g 11 (by decide) (by kernel_rfl) (by kernel_rfl) ?_;refine g_op rfl ?_;refine f_sc g8 ((le (sig.drop 32))) rfl rfl rfl rfl rfl (fun _ h1=>(h1.1.blk b8).range) ?_;refine g_go ?_;refine g_op rfl ?_;refine f_call #[.agg (Us (ws ((le (sig.drop 32))))).toArray] (.agg (By (Nums.bytes 32 ((le (sig.drop 32))))).toArray) rfl rfl rfl own_schash (fun w1 h1=>schash_f ((le (sig.drop 32))) w1) rfl rfl ?_;refine g_go ?_;refine g_op rfl ?_;refine f_pt g4 0 hl.len rfl rfl rfl rfl rfl (fun _ h1=>(h1.1.blk b4).range) ?_;refine g_go ?_;refine g_op rfl ?_;refine f_us #[.agg (Us l).toArray] (QB · (Ed.neg A)) rfl rfl rfl own_cneg (fun w1 h1=>cneg_f (.inr hl) w1 (hT.below (hU.step h1.1)).tw) rfl rfl fun r43 v43=>?_;refine g_go ?_;refine g_op rfl ?_;refine f_sc g14 ((sgK (sig.take 32) (encP A) ls.flatten)) rfl rfl rfl rfl rfl (fun _ h1=>(h1.1.blk b14).range) ?_;refine g_go ?_;refine g_op rfl ?_;refine f_call #[.agg (Us (ws ((sgK (sig.take 32) (encP A) ls.flatten)))).toArray] (.agg (By (Nums.bytes 32 ((sgK (sig.take 32) (encP A) ls.flatten)))).toArray) rfl rfl rfl own_schash (fun w1 h1=>schash_f ((sgK (sig.take 32) (encP A) ls.flatten)) w1) rfl rfl ?_;refine g_go ?_;refine g_op rfl ?_;refine f_us #[.agg (By (Nums.bytes 32 ((le (sig.drop 32))))).toArray,.agg (Us r43).toArray,.agg (By (Nums.bytes 32 ((sgK (sig.take 32) (encP A) ls.flatten)))).toArray] (PB · (Ed.add dd (Ed.mul dd (le (Nums.bytes 32 ((le (sig.drop 32))))) base) (Ed.mul dd (le (Nums.bytes 32 ((sgK (sig.take 32) (encP A) ls.flatten)))) (Ed.neg A)))) rfl rfl rfl own_cboth (fun w1 h1=>cboth_f (bytes_len _ _) (.inr v43) (bytes_len _ _) w1 (hT.below (hU.step h1.1)).tw) rfl rfl fun r46 v46=>?_;refine g_go ?_;refine g_op rfl ?_;refine f_call #[.agg (Us r46).toArray] (.agg (By (encP (Ed.add dd (Ed.mul dd (le (Nums.bytes 32 ((le (sig.drop 32))))) base) (Ed.mul dd (le (Nums.bytes 32 ((sgK (sig.take 32) (encP A) ls.flatten)))) (Ed.neg A))))).toArray) rfl rfl rfl own_chash (fun w1 h1=>chash_f v46 w1 (hT.below (hU.step h1.1)).tw) rfl rfl ?_
    refine g_go ?_;refine g_op rfl ?_;refine f_by g12 0 (take32 hs) rfl rfl rfl rfl rfl (fun _ h1=>(h1.1.blk b12).range) ?_;refine g_go ?_;refine g_op rfl ?_;refine f_eqd (encP (Ed.add dd (Ed.mul dd (le (Nums.bytes 32 ((le (sig.drop 32))))) base) (Ed.mul dd (le (Nums.bytes 32 ((sgK (sig.take 32) (encP A) ls.flatten)))) (Ed.neg A)))) (sig.take 32) rfl rfl rfl rfl rfl rfl rfl ((encP_len _)) (take32 hs) ?_;refine g_go ?_;refine g_op rfl ?_;refine f_assign (.bool ((decide (encP (Ed.add dd (Ed.mul dd (le (Nums.bytes 32 ((le (sig.drop 32))))) base) (Ed.mul dd (le (Nums.bytes 32 ((sgK (sig.take 32) (encP A) ls.flatten)))) (Ed.neg A))) = sig.take 32)))) rfl rfl rfl rfl rfl ?_;refine g_go ?_;refine g_end fun W17 hw17 hF17=>?_;clear hF17;replace b1:=b1.later hw17;replace b4:=b4.later hw17;replace hU:=hU.step hw17;clear hw17;refine l_nil ?_;refine hK _ _ ?_;clear hK K;rw [rightB_is hA h8 hS];exact c_ret (fun a ha=>bodyPost_ret (results_tmp rfl _ _ _) ha.defers ⟨congrArg Ending.returned (ha.get 6 _ rfl),hU⟩)
   ·rw [decide_eq_false hS]
    refine c_seq fun K0 hK0=>?_;refine c_seq fun K hK=>?_;refine c_gF 2 ?_;refine g_op rfl ?_;refine f_move (.bool false) rfl rfl rfl rfl rfl ?_;refine g_go ?_;refine g_op rfl ?_;refine f_not false true rfl rfl rfl rfl rfl rfl ?_;refine g_go ?_;refine g_end fun W10 hw10 hF10=>?_;clear hF10;replace b1:=b1.later hw10;replace b4:=b4.later hw10;replace hU:=hU.step hw10;clear hw10;refine l_nil ?_;refine hK _ _ ?_;clear hK K;refine c_cond true rfl ?_;rw [if_pos rfl];refine c_seq fun K hK=>?_;refine c_lit ?_;refine l_assign (.bool false) rfl rfl rfl rfl rfl ?_;refine l_nil ?_;refine hK _ _ ?_;clear hK K;rw [rightB_great hS];exact c_ret (k_then_ret (fun a ha=>bodyPost_ret (results_tmp rfl _ _ _) ha.defers ⟨congrArg Ending.returned (ha.get 6 _ rfl),hU⟩))
 ·refine c_seq fun K hK=>?_
  refine c_gF 5 ?_;refine g_op rfl ?_;refine f_by g1 0 hk rfl rfl rfl rfl rfl (fun _ h1=>(h1.1.blk b1).range) ?_;refine g_go ?_;refine g_op rfl ?_;refine f_call #[.agg (By key).toArray] (.tuple #[.agg (Us pz).toArray,.int .i64 50]) rfl rfl rfl own_cdecode (fun w1 h1=>cdec_no hk hA w1 (hT.below (hU.step h1.1)).tw) rfl rfl ?_;refine g_go ?_;refine g_op rfl ?_;refine f_move (.tuple #[.agg (Us pz).toArray,.int .i64 50]) rfl rfl rfl rfl rfl ?_;refine g_go ?_;refine g_op rfl ?_;refine f_extract (.agg (Us pz).toArray) rfl rfl rfl rfl rfl rfl ?_;refine g_go ?_;refine g_op rfl ?_;refine f_extract (.int .i64 50) rfl rfl rfl rfl rfl rfl ?_;refine g_go ?_;refine g_end fun W3 hw3 hF3=>?_;clear hF3;replace hU:=hU.step hw3;clear hw3;refine l_allocA ((Us pz).toArray) rfl rfl rfl rfl (by kernel_rfl) fun W4 g4 hw4 hg4 b4=>?_
  have q4 : w.heap.size ≤ g4:=by rw [hg4]; exact hU.size
  replace hU:=hU.step hw4;clear hw4 hg4;refine l_set g4 _ ((Us pz).toArray) rfl rfl rfl rfl rfl b4 (size_P pz_len) ((us_size pz_len).trans (us_size pz_len).symm) (Us_oneA _) ?_;replace hU:=up_row hU q4 ((Us pz).toArray);generalize World.setRow _ g4 ((Us pz).toArray) = W5 at *;refine l_assign (.int .i64 50) rfl rfl rfl rfl rfl ?_;refine l_nil ?_;refine hK _ _ ?_;clear hK K;refine c_seq fun K0 hK0=>?_;refine c_seq fun K hK=>?_;refine c_gF 6 ?_;refine g_op rfl ?_;refine f_move (.int .i64 50) rfl rfl rfl rfl rfl ?_;refine g_go ?_;refine g_op rfl ?_;refine f_neE _ 0 true rfl rfl rfl rfl rfl rfl rfl (by decide) ?_;refine g_go ?_;refine g_op rfl ?_;refine f_move (.bool true) rfl rfl rfl rfl rfl ?_;refine g_go ?_;refine g_skip rfl rfl rfl rfl rfl rfl rfl ?_;refine g_skip rfl rfl rfl rfl rfl rfl rfl ?_;refine g_op rfl ?_;refine f_pick (.bool true) rfl rfl rfl rfl rfl rfl ?_;refine g_go ?_;refine g_end fun W6 hw6 hF6=>?_;clear hF6;replace hU:=hU.step hw6;clear hw6;refine l_nil ?_;refine hK _ _ ?_;clear hK K;refine c_cond true rfl ?_;rw [if_pos rfl];refine c_seq fun K hK=>?_;refine c_lit ?_;refine l_assign (.bool false) rfl rfl rfl rfl rfl ?_;refine l_nil ?_;refine hK _ _ ?_;clear hK K;rw [rightB_no hA];exact c_ret (k_then_ret (fun a ha=>bodyPost_ret (results_tmp rfl _ _ _) ha.defers ⟨congrArg Ending.returned (ha.get 6 _ rfl),hU⟩))
end Go.Proofs.YtminmeljonbogaaDoor
/-
  THE RING: Seal and Owned.
-/
namespace Go.Proofs.YtminmeljonbogaaDoor
open Go.RowKit Go.IntWalk Nums

theorem own_seal : Own 25:=fun _ _=>by go_simp
theorem own_owned : Own 24:=fun _ _=>by go_simp
set_option maxRecDepth 100000 in
set_option maxHeartbeats 2000000 in
theorem seal_f {seed b : List UInt8} (t : UInt8) {v : Value} (hs : seed.length = 32) (w : World) (hT : Ta w) (hv : SB w v b) (hb : b.length ≤ 140737488355312) :
  Calls Tryd.prog 25 #[.agg (By seed).toArray,.int .u8 (t.toNat : Int),v] w fun e w'=>e = .returned (.agg (By (sgSig seed (msg t b))).toArray) ∧ Below w.heap.size w w':=by
 refine calls_F (vs:=[.agg (By seed).toArray,.int .u8 (t.toNat : Int),v]) 13 Tryd.func25 rfl (by rw [Tryd.ntmps25]; rfl) ?_;have hU:=Up.refl w;refine c_seq fun K hK=>?_;refine c_lit ?_;refine l_boxA ((By seed).toArray) rfl rfl rfl rfl rfl fun W1 g1 hw1 hg1 b1=>?_
 have q1 : w.heap.size ≤ g1:=by rw [hg1]; exact hU.size
 replace hU:=hU.step hw1;clear hw1 hg1;refine l_allocA ((By z64).toArray) rfl rfl rfl rfl zero64 fun W2 g2 hw2 hg2 b2=>?_
 have n1_2 : g1 ≠ g2:=by have:=b1.lt; omega
 have q2 : w.heap.size ≤ g2:=by rw [hg2]; exact hU.size
 replace b1:=b1.later hw2;replace hU:=hU.step hw2;clear hw2 hg2;refine l_nil ?_;refine hK _ _ ?_;clear hK K;refine c_seq fun K hK=>?_;refine c_g 6 (by decide) (by kernel_rfl) (by kernel_rfl) ?_;refine g_op rfl ?_;refine f_by g1 0 hs rfl rfl rfl rfl rfl (fun _ h1=>(h1.1.blk b1).range) ?_;refine g_go ?_;refine g_op rfl ?_;refine f_move (.int .u8 (t.toNat : Int)) rfl rfl rfl rfl rfl ?_;refine g_go ?_;refine g_op rfl ?_;refine f_move (v) rfl rfl rfl rfl rfl ?_;refine g_go ?_;refine g_call #[.int .u8 (t.toNat : Int),v] (fun u w=>SB w u (msg t b)) rfl rfl rfl rfl (fun _ _ _ h hr=>h.later hr) own_r7signed (fun w1 h1 hu=>signed_f t w1 (hv.later (hU.step h1)) hb) rfl rfl fun v10 _ _ _=>?_;refine g_slices [v10] [msg t b] (W2).heap.size rfl rfl rfl rfl rfl rfl rfl (by decide) (by decide) (fun _ h=>h.size) (fun _ h hu=>⟨(hu 3 _ rfl (by kernel_rfl) : SB _ v10 _),trivial⟩) fun gs3 _ _ _=>?_;refine g_op rfl ?_
 refine f_call #[.agg (By seed).toArray,.slice (some ⟨gs3,0,none⟩) 1 1] (.agg (By (sgSig seed (msg t b))).toArray) rfl rfl rfl own_sign (fun w1 h1=>by
   have:=sign_f (seed:=seed) (P:=some ⟨gs3,0,none⟩) (ls:=[msg t b]) (pc:=1) hs w1 (hT.below (hU.step h1.1)) ((h1.2 4 _ rfl (by kernel_rfl) : NewS _ _ _ _ _).pt) (fun e=>by cases e) (by simp)
   rwa [show [msg t b].flatten = msg t b from by simp] at this) rfl rfl ?_
 refine g_go ?_;refine g_end fun W4 hw4 hF4=>?_;clear hF4;replace b1:=b1.later hw4;replace b2:=b2.later hw4;replace hU:=hU.step hw4;clear hw4;refine l_set g2 _ ((By (sgSig seed (msg t b))).toArray) rfl rfl rfl rfl rfl b2 (size_64 ((sgSig_len _ _))) (by rw [List.size_toArray,List.size_toArray,By_len,By_len,((sgSig_len _ _))]; rfl) (By_oneA _) ?_;replace b1:=b1.rowFar n1_2 ((By (sgSig seed (msg t b))).toArray);replace b2:=b2.row ((By (sgSig seed (msg t b))).toArray);replace hU:=up_row hU q2 ((By (sgSig seed (msg t b))).toArray);generalize World.setRow _ g2 ((By (sgSig seed (msg t b))).toArray) = W5 at *;refine l_nil ?_;refine hK _ _ ?_;clear hK K;exact c_ret (k_ret_row g2 _ rfl rfl b2 Tryd.underlying32 rfl (size_64 ((sgSig_len _ _))) ⟨rfl,hU⟩)
set_option maxRecDepth 100000 in
set_option maxHeartbeats 2000000 in
theorem owned_f {key sig b : List UInt8} (t : UInt8) {v : Value} (hk : key.length = 32) (hs : sig.length = 64) (w : World) (hT : Ta w) (hv : SB w v b) (hb : b.length ≤ 140737488355312) :
  Calls Tryd.prog 24 #[.agg (By key).toArray,.int .u8 (t.toNat : Int),v,.agg (By sig).toArray] w fun e w'=>e = .returned (.bool (rightB key sig (msg t b))) ∧ Below w.heap.size w w':=by
 refine calls_F (vs:=[.agg (By key).toArray,.int .u8 (t.toNat : Int),v,.agg (By sig).toArray]) 16 Tryd.func24 rfl (by rw [Tryd.ntmps24]; rfl) ?_;have hU:=Up.refl w;refine c_seq fun K hK=>?_;refine c_lit ?_;refine l_boxA ((By key).toArray) rfl rfl rfl rfl rfl fun W1 g1 hw1 hg1 b1=>?_
 have q1 : w.heap.size ≤ g1:=by rw [hg1]; exact hU.size
 replace hU:=hU.step hw1;clear hw1 hg1;refine l_boxA ((By sig).toArray) rfl rfl rfl rfl rfl fun W2 g2 hw2 hg2 b2=>?_
 have n1_2 : g1 ≠ g2:=by have:=b1.lt; omega
 have q2 : w.heap.size ≤ g2:=by rw [hg2]; exact hU.size
 replace b1:=b1.later hw2;replace hU:=hU.step hw2;clear hw2 hg2;refine l_assign (.bool false) rfl rfl rfl rfl rfl ?_;refine l_nil ?_;refine hK _ _ ?_;clear hK K;refine c_seq fun K hK=>?_;refine c_g 8 (by decide) (by kernel_rfl) (by kernel_rfl) ?_;refine g_op rfl ?_;refine f_by g1 0 hk rfl rfl rfl rfl rfl (fun _ h1=>(h1.1.blk b1).range) ?_;refine g_go ?_;refine g_op rfl ?_;refine f_b64 g2 hs rfl rfl rfl rfl rfl (fun _ h1=>(h1.1.blk b2).range) ?_;refine g_go ?_;refine g_op rfl ?_;refine f_move (.int .u8 (t.toNat : Int)) rfl rfl rfl rfl rfl ?_;refine g_go ?_;refine g_op rfl ?_;refine f_move (v) rfl rfl rfl rfl rfl ?_;refine g_go ?_;refine g_call #[.int .u8 (t.toNat : Int),v] (fun u w=>SB w u (msg t b)) rfl rfl rfl rfl (fun _ _ _ h hr=>h.later hr) own_r7signed (fun w1 h1 hu=>signed_f t w1 (hv.later (hU.step h1)) hb) rfl rfl fun v13 _ _ _=>?_;refine g_slices [v13] [msg t b] (W2).heap.size rfl rfl rfl rfl rfl rfl rfl (by decide) (by decide) (fun _ h=>h.size) (fun _ h hu=>⟨(hu 4 _ rfl (by kernel_rfl) : SB _ v13 _),trivial⟩) fun gs3 _ _ _=>?_;refine g_op rfl ?_
 refine f_call #[.agg (By key).toArray,.agg (By sig).toArray,.slice (some ⟨gs3,0,none⟩) 1 1] (.bool (rightB key sig (msg t b))) rfl rfl rfl own_verify (fun w1 h1=>by
   have:=verify_f (key:=key) (sig:=sig) (P:=some ⟨gs3,0,none⟩) (ls:=[msg t b]) (pc:=1) hk hs w1 (hT.below (hU.step h1.1)) ((h1.2 5 _ rfl (by kernel_rfl) : NewS _ _ _ _ _).pt) (fun e=>by cases e) (by simp)
   rwa [show [msg t b].flatten = msg t b from by simp] at this) rfl rfl ?_
 refine g_go ?_;refine g_op rfl ?_;refine f_assign (.bool (rightB key sig (msg t b))) rfl rfl rfl rfl rfl ?_;refine g_go ?_;refine g_end fun W4 hw4 hF4=>?_;clear hF4;replace b1:=b1.later hw4;replace b2:=b2.later hw4;replace hU:=hU.step hw4;clear hw4;refine l_nil ?_;refine hK _ _ ?_;clear hK K;exact c_ret (fun a ha=>bodyPost_ret (results_tmp rfl _ _ _) ha.defers ⟨congrArg Ending.returned (ha.get 8 _ rfl),hU⟩)
end Go.Proofs.YtminmeljonbogaaDoor
/-
  THE RING IN MEMORY; Size, Faults, Quorum, has, Key.
-/
namespace Go.Proofs.YtminmeljonbogaaDoor
open Go.RowKit Go.IntWalk Nums

theorem own_rsize : Own 18:=fun _ _=>by go_simp
theorem own_rfaults : Own 19:=fun _ _=>by go_simp
theorem own_rquorum : Own 20:=fun _ _=>by go_simp
theorem own_rhas : Own 56:=fun _ _=>by go_simp
theorem own_rkey : Own 21:=fun _ _=>by go_simp
theorem own_ropen : Own 22:=fun _ _=>by go_simp
theorem own_rnew7 : Own 16:=fun _ _=>by go_simp

section
variable {P : Program} {ops : Array Oper} {C0 : World → Prop} {Q : Act → Prop} {N : Nat} {E : List (Nat × Value)} {o : Oper} {rest : List Oper} {k : Nat}
theorem f_skip {j t : Nat} {b : Bool} (hgd : o.guard = some (j,b)) (hj : (ops[j]?).bind (·.dst) = some t) (hN : Nat.blt t N = true) (ht : look E t = some (.bool (!b))) (hd : o.dst = some k) (hk : Nat.blt k N = true) (h : bF P ops C0 Q rest N ((k,undef) :: E)) : bF P ops C0 Q (o :: rest) N E:=fun a ha=>by
 have htN : t < a.tmps.size:=by rw [ha.size]; simpa using hN
 have h2:=ha.get t _ ht
 have h3 : a.tmps[t]? = some (.bool (!b)):=by
  simp only [Act.eval,Array.getD_eq_getD_getElem?] at h2;rw [Array.getElem?_eq_getElem htN] at h2 ⊢
  simpa using h2
 have hw : ¬ Region.wanted o (yielded ops a.tmps) = true:=by
  unfold Region.wanted
  rw [hgd]
  simp [yielded,hj,h3]
 unfold wpB
 rw [if_neg hw,hd];exact h _ (ha.put hk _)
theorem f_want {j t : Nat} {b : Bool} (hgd : o.guard = some (j,b)) (hj : (ops[j]?).bind (·.dst) = some t) (hN : Nat.blt t N = true) (ht : look E t = some (.bool b)) (h : bF P ops C0 Q ({ o with guard:=none } :: rest) N E) : bF P ops C0 Q (o :: rest) N E:=fun a ha=>by
 have h1:=h a ha
 have htN : t < a.tmps.size:=by rw [ha.size]; simpa using hN
 have h2:=ha.get t _ ht
 have h3 : a.tmps[t]? = some (.bool b):=by
  simp only [Act.eval,Array.getD_eq_getD_getElem?] at h2;rw [Array.getElem?_eq_getElem htN] at h2 ⊢
  simpa using h2
 have hw : Region.wanted o (yielded ops a.tmps) = true:=by
  unfold Region.wanted
  rw [hgd]
  simp [yielded,hj,h3]
 obtain ⟨dst,op,ty,pos,af,gd⟩:=o
 unfold wpB at h1 ⊢
 rw [if_pos hw];rw [if_pos (by rfl)] at h1;exact h1
end

def SK (ks : List (List UInt8)) (v : Value) : Prop:=∃ (i : Nat) (t : UInt8) (b s : List UInt8),i < ks.length ∧ v = STM i t b s ∧ b.length ≤ maxLen ∧ s.length = 64 ∧ rightB ks[i]! s (msg t b) = true
structure RgW (w : World) (base g m : Nat) (ks : List (List UInt8)) : Prop where
  fit : ks.length = 1 ∨ ks.length = 4 ∨ ks.length = 7
  gb : base ≤ g
  mb : base ≤ m
  keys : ∃ b o c,Blk w g 97 #[.slice (some ⟨b,o,none⟩) ks.length c,.map (some m)] ∧ base ≤ b ∧ HV w (some ⟨b,o,none⟩) ks ∧ ks.length ≤ c ∧ c ≤ 9223372036854775807
  map : ∃ es,MapK w m es (SK ks)
section
variable {w w' : World} {base g m : Nat} {ks : List (List UInt8)}
theorem RgW.keep (h : RgW w base g m ks) (hs : w.heap.size ≤ w'.heap.size) (hk : ∀ k,base ≤ k → k < w.heap.size → w'.heap[k]? = w.heap[k]?) : RgW w' base g m ks:=by
 obtain ⟨b,o,c,h1,h2,h3,h4,h5⟩:=h.keys;obtain ⟨es,h6⟩:=h.map;exact ⟨h.fit,h.gb,h.mb,⟨b,o,c,(hk g h.gb h1.lt).trans h1,h2,h3.keep hs fun b' o' e hlt=>by cases e; exact hk b h2 hlt,h4,h5⟩,es,h6.keep (hk m h.mb h6.lt)⟩
theorem RgW.later (h : RgW w base g m ks) (hb : Below w.heap.size w w') : RgW w' base g m ks:=h.keep hb.size fun k _ hlt=>hb.block k hlt
theorem RgW.pos (h : RgW w base g m ks) : 0 < ks.length:=by rcases h.fit with h | h | h <;> omega
theorem RgW.len (h : RgW w base g m ks) : ∀ l ∈ ks,l.length = 32:=by
 obtain ⟨b,o,c,_,_,h3,_⟩:=h.keys;exact h3.len
theorem SK.key (hf : ks.length = 1 ∨ ks.length = 4 ∨ ks.length = 7) : ∀ v,SK ks v → ∃ l,keyOf Tryd.prog 99 v = some l:=by
 rintro v ⟨i,t,b,s,hi,rfl,hb,hs,_⟩
 refine stm_key ?_ hb hs
 simp [Lit.wf,IntKind.min,IntKind.max,IntKind.signed,IntKind.bits]
 omega
end
abbrev ptr (g : Nat) : Value:=.pointer (some ⟨g,0,none⟩)
set_option maxRecDepth 100000 in
set_option maxHeartbeats 1000000 in
theorem rsize_nil (w : World) : Calls Tryd.prog 18 #[.pointer none] w fun e w'=>e = .returned (.int .i64 0) ∧ Below w.heap.size w w':=by
 refine calls_F (vs:=[.pointer none]) 10 Tryd.func18 rfl (by rw [Tryd.ntmps18]; rfl) ?_;refine c_seq fun K hK=>?_;refine c_qF ?_;refine f_assign (.int .i64 0) rfl rfl rfl rfl rfl ?_;refine f_end fun w1 hw1=>hK _ _ ?_;clear hK K;refine c_seq fun K0 hK0=>?_;refine c_seq fun K hK=>?_;refine c_qF ?_;refine f_move (.pointer none) rfl rfl rfl rfl rfl ?_;refine f_eqP none true rfl rfl rfl rfl rfl rfl rfl ?_;refine f_end fun w2 hw2=>hK _ _ ?_;clear hK K;refine c_cond true rfl ?_;rw [if_pos rfl];refine c_seq fun K hK=>?_;refine c_qF ?_;refine f_assign (.int .i64 0) rfl rfl rfl rfl rfl ?_;refine f_end fun w3 hw3=>hK _ _ ?_;refine c_ret ?_;exact k_then_ret fun a ha=>bodyPost_ret (results_tmp rfl _ _ _) ha.defers ⟨congrArg Ending.returned (ha.get 2 _ rfl),(Up.step hw1 hw2).step hw3⟩
set_option maxRecDepth 100000 in
set_option maxHeartbeats 1000000 in
theorem rsize_f {base g m : Nat} {ks : List (List UInt8)} (w : World) (hR : RgW w base g m ks) : Calls Tryd.prog 18 #[ptr g] w fun e w'=>e = .returned (.int .i64 (ks.length : Int)) ∧ Below w.heap.size w w':=by
 refine calls_F (vs:=[ptr g]) 10 Tryd.func18 rfl (by rw [Tryd.ntmps18]; rfl) ?_;refine c_seq fun K hK=>?_;refine c_qF ?_;refine f_assign (.int .i64 0) rfl rfl rfl rfl rfl ?_;refine f_end fun w1 hw1=>hK _ _ ?_;clear hK K;refine c_seq fun K0 hK0=>?_;refine c_seq fun K hK=>?_;refine c_qF ?_;refine f_move (ptr g) rfl rfl rfl rfl rfl ?_;refine f_eqP (some ⟨g,0,none⟩) false rfl rfl rfl rfl rfl rfl rfl ?_;refine f_end fun w2 hw2=>hK _ _ ?_;clear hK K;refine c_cond false rfl ?_;rw [if_neg (by decide)];refine c_skip ?_;refine hK0 _ _ ?_;obtain ⟨b,o,c,h1,_⟩:=(hR.later (Up.step hw1 hw2)).keys;refine c_seq fun K hK=>?_;refine c_qF ?_;refine f_move (ptr g) rfl rfl rfl rfl rfl ?_;refine f_nilc ⟨g,0,none⟩ rfl rfl rfl rfl rfl ?_;refine f_fld g 0 0 rfl rfl rfl rfl rfl (rfld0 g) ?_;refine f_loadV ⟨g,0,none⟩ (.slice (some ⟨b,o,none⟩) ks.length c) (.inl rfl) rfl rfl rfl rfl rfl (fun _ h=>((h.blk h1).cell 0).trans rfl) ?_;refine f_lenH (some ⟨b,o,none⟩) ks.length c rfl rfl rfl rfl rfl ?_;refine f_assign (.int .i64 (ks.length : Int)) rfl rfl rfl rfl rfl ?_;refine f_end fun w3 hw3=>hK _ _ ?_;exact c_ret fun a ha=>bodyPost_ret (results_tmp rfl _ _ _) ha.defers ⟨congrArg Ending.returned (ha.get 2 _ rfl),(Up.step hw1 hw2).step hw3⟩
set_option maxRecDepth 100000 in
set_option maxHeartbeats 1000000 in
theorem rfaults_any {v : Value} (n : Nat) (hn : n ≤ 7) (w : World) (hs : ∀ w',Up w w' → Calls Tryd.prog 18 #[v] w' fun e w''=>e = .returned (.int .i64 (n : Int)) ∧ Below w'.heap.size w' w'') :
  Calls Tryd.prog 19 #[v] w fun e w'=>e = .returned (.int .i64 ((n / 3 : Nat) : Int)) ∧ Below w.heap.size w w':=by
 refine calls_F (vs:=[v]) 6 Tryd.func19 rfl (by rw [Tryd.ntmps19]; rfl) ?_;refine c_seq fun K hK=>?_;refine c_qF ?_;refine f_assign (.int .i64 0) rfl rfl rfl rfl rfl ?_;refine f_end fun w1 hw1=>hK _ _ ?_;clear hK K;refine c_seq fun K hK=>?_;refine c_qF ?_;refine f_move v rfl rfl rfl rfl rfl ?_;refine f_call #[v] (.int .i64 (n : Int)) rfl rfl rfl own_rsize (fun w2 h2=>hs w2 (Up.step hw1 h2)) rfl rfl ?_;refine f_quoI (n : Int) 3 ((n / 3 : Nat) : Int) (by decide) rfl rfl rfl rfl rfl rfl (by rw [Int.tdiv_eq_ediv_of_nonneg (by omega),i64_left,wrap64_in _ (by omega)]; omega) ?_;refine f_assign (.int .i64 ((n / 3 : Nat) : Int)) rfl rfl rfl rfl rfl ?_;refine f_end fun w3 hw3=>hK _ _ ?_;exact c_ret fun a ha=>bodyPost_ret (results_tmp rfl _ _ _) ha.defers ⟨congrArg Ending.returned (ha.get 2 _ rfl),Up.step hw1 hw3⟩
set_option maxRecDepth 100000 in
set_option maxHeartbeats 1000000 in
theorem rquorum_any {v : Value} (n : Nat) (hn : n ≤ 7) (w : World) (hs : ∀ w',Up w w' → Calls Tryd.prog 18 #[v] w' fun e w''=>e = .returned (.int .i64 (n : Int)) ∧ Below w'.heap.size w' w'') :
  Calls Tryd.prog 20 #[v] w fun e w'=>e = .returned (.int .i64 ((n - n / 3 : Nat) : Int)) ∧ Below w.heap.size w w':=by
 refine calls_F (vs:=[v]) 8 Tryd.func20 rfl (by rw [Tryd.ntmps20]; rfl) ?_;refine c_seq fun K hK=>?_;refine c_qF ?_;refine f_assign (.int .i64 0) rfl rfl rfl rfl rfl ?_;refine f_end fun w1 hw1=>hK _ _ ?_;clear hK K;refine c_seq fun K hK=>?_;refine c_qF ?_;refine f_move v rfl rfl rfl rfl rfl ?_;refine f_call #[v] (.int .i64 (n : Int)) rfl rfl rfl own_rsize (fun w2 h2=>hs w2 (Up.step hw1 h2)) rfl rfl ?_;refine f_move v rfl rfl rfl rfl rfl ?_;refine f_call #[v] (.int .i64 ((n / 3 : Nat) : Int)) rfl rfl rfl own_rfaults (fun w2 h2=>rfaults_any n hn w2 fun w3 h3=>hs w3 (Up.step (Up.step hw1 h2) h3)) rfl rfl ?_;refine f_subI (n : Int) ((n / 3 : Nat) : Int) ((n - n / 3 : Nat) : Int) rfl rfl rfl rfl rfl rfl (subI n (n / 3) (by omega) (by omega)) ?_;refine f_assign (.int .i64 ((n - n / 3 : Nat) : Int)) rfl rfl rfl rfl rfl ?_;refine f_end fun w3 hw3=>hK _ _ ?_;exact c_ret fun a ha=>bodyPost_ret (results_tmp rfl _ _ _) ha.defers ⟨congrArg Ending.returned (ha.get 2 _ rfl),Up.step hw1 hw3⟩
set_option maxRecDepth 100000 in
set_option maxHeartbeats 1000000 in
theorem rhas_any {v : Value} (n : Nat) (i : Int) (w : World) (hs : ∀ w',Up w w' → Calls Tryd.prog 18 #[v] w' fun e w''=>e = .returned (.int .i64 (n : Int)) ∧ Below w'.heap.size w' w'') :
  Calls Tryd.prog 56 #[v,.int .i64 i] w fun e w'=>e = .returned (.bool (decide (0 ≤ i ∧ i < n))) ∧ Below w.heap.size w w':=by
 refine calls_F (vs:=[v,.int .i64 i]) 13 Tryd.func56 rfl (by rw [Tryd.ntmps56]; rfl) ?_;refine c_seq fun K hK=>?_;refine c_qF ?_;refine f_assign (.bool false) rfl rfl rfl rfl rfl ?_;refine f_end fun w1 hw1=>hK _ _ ?_;clear hK K;refine c_seq fun K hK=>?_;refine c_qF ?_;refine f_move (.int .i64 i) rfl rfl rfl rfl rfl ?_;refine f_leqI 0 i (decide (0 ≤ i)) rfl rfl rfl rfl rfl rfl rfl ?_
 by_cases h0 : 0 ≤ i
 ·rw [decide_eq_true h0]
  refine f_move (.bool true) rfl rfl rfl rfl rfl ?_;refine f_want rfl rfl rfl rfl ?_;refine f_move (.int .i64 i) rfl rfl rfl rfl rfl ?_;refine f_want rfl rfl rfl rfl ?_;refine f_move v rfl rfl rfl rfl rfl ?_;refine f_want rfl rfl rfl rfl ?_;refine f_call #[v] (.int .i64 (n : Int)) rfl rfl rfl own_rsize (fun w2 h2=>hs w2 (Up.step hw1 h2)) rfl rfl ?_;refine f_want rfl rfl rfl rfl ?_;refine f_lssI i (n : Int) (decide (0 ≤ i ∧ i < n)) rfl rfl rfl rfl rfl rfl (by rw [decide_eq_decide]; omega) ?_;refine f_pick (.bool (decide (0 ≤ i ∧ i < n))) rfl rfl rfl rfl rfl rfl ?_;refine f_assign (.bool (decide (0 ≤ i ∧ i < n))) rfl rfl rfl rfl rfl ?_;refine f_end fun w3 hw3=>hK _ _ ?_;exact c_ret fun a ha=>bodyPost_ret (results_tmp rfl _ _ _) ha.defers ⟨congrArg Ending.returned (ha.get 4 _ rfl),Up.step hw1 hw3⟩
 ·rw [decide_eq_false h0]
  refine f_move (.bool false) rfl rfl rfl rfl rfl ?_;refine f_skip rfl rfl rfl rfl rfl rfl ?_;refine f_skip rfl rfl rfl rfl rfl rfl ?_;refine f_skip rfl rfl rfl rfl rfl rfl ?_;refine f_skip rfl rfl rfl rfl rfl rfl ?_;refine f_pickF (.bool false) rfl rfl rfl rfl rfl rfl ?_;refine f_assign (.bool false) rfl rfl rfl rfl rfl ?_;refine f_end fun w3 hw3=>hK _ _ ?_;exact c_ret fun a ha=>bodyPost_ret (results_tmp rfl _ _ _) ha.defers ⟨congrArg Ending.returned ((ha.get 4 _ rfl).trans (congrArg Value.bool (decide_eq_false (fun h=>h0 h.1)).symm)),Up.step hw1 hw3⟩
def zB : List UInt8:=List.replicate 32 0
theorem zB_len : zB.length = 32:=rfl
def keyAt (ks : List (List UInt8)) (i : Int) : List UInt8:=if 0 ≤ i ∧ i < ks.length then ks[i.toNat]! else zB
theorem keyAt_len {ks : List (List UInt8)} (h : ∀ l ∈ ks,l.length = 32) (i : Int) : (keyAt ks i).length = 32:=by
 unfold keyAt
 split
 ·rw [getElem!_pos ks i.toNat (by omega)]
  exact h _ (List.getElem_mem _)
 ·rfl
set_option maxRecDepth 100000 in
set_option maxHeartbeats 1000000 in
theorem rkey_no {v : Value} (n : Nat) (i : Int) (hi : ¬ (0 ≤ i ∧ i < n)) (w : World) (hs : ∀ w',Up w w' → Calls Tryd.prog 18 #[v] w' fun e w''=>e = .returned (.int .i64 (n : Int)) ∧ Below w'.heap.size w' w'') :
  Calls Tryd.prog 21 #[v,.int .i64 i] w fun e w'=>e = .returned (.agg (By zB).toArray) ∧ Below w.heap.size w w':=by
 refine calls_F (vs:=[v,.int .i64 i]) 17 Tryd.func21 rfl (by rw [Tryd.ntmps21]; rfl) ?_;have hU:=Up.refl w;refine c_seq fun K hK=>?_;refine c_lit ?_;refine l_allocA z32 rfl rfl rfl rfl (by kernel_rfl) fun w1 g hw1 hg b1=>?_
 have q1 : w.heap.size ≤ g:=by rw [hg]; exact hU.size
 replace hU:=hU.step hw1;clear hw1 hg;refine l_nil ?_;refine hK _ _ ?_;clear hK K;refine c_seq fun K0 hK0=>?_;refine c_seq fun K hK=>?_;refine c_qF ?_;refine f_move v rfl rfl rfl rfl rfl ?_;refine f_move (.int .i64 i) rfl rfl rfl rfl rfl ?_
 refine f_call #[v,.int .i64 i] (.bool false) rfl rfl rfl own_rhas (fun w2 h2=>by
  have:=rhas_any n i w2 fun w3 h3=>hs w3 (Up.step (Up.step hU h2) h3)
  rwa [decide_eq_false hi] at this) rfl rfl ?_
 refine f_not false true rfl rfl rfl rfl rfl rfl ?_;refine f_end fun w2 hw2=>hK _ _ ?_;clear hK K;refine c_cond true rfl ?_;rw [if_pos rfl];replace b1:=b1.later hw2;replace hU:=hU.step hw2;refine c_seq fun K hK=>?_;refine c_lit ?_;refine l_ops 1 ?_;refine f_build [] z32 rfl rfl rfl rfl rfl (by kernel_rfl) ?_;refine f_tail fun w3 hw3=>?_;replace b1:=b1.later hw3;replace hU:=hU.step hw3;refine l_set g _ z32 rfl rfl rfl rfl rfl b1 (by kernel_rfl) rfl (By_oneA zB) ?_;replace b1:=b1.row z32;replace hU:=up_row hU q1 z32;refine l_nil ?_;refine hK _ _ ?_;refine c_ret ?_;refine k_then_ret ?_;exact k_ret_row g (By zB).toArray rfl rfl b1 Tryd.underlying22 rfl (size_H zB_len) ⟨rfl,hU⟩
set_option maxRecDepth 100000 in
set_option maxHeartbeats 1000000 in
theorem rkey_yes {base g0 m : Nat} {ks : List (List UInt8)} (i : Nat) (hi : i < ks.length) (w : World) (hR : RgW w base g0 m ks) :
  Calls Tryd.prog 21 #[ptr g0,.int .i64 (i : Int)] w fun e w'=>e = .returned (.agg (By ks[i]).toArray) ∧ Below w.heap.size w w':=by
 refine calls_F (vs:=[ptr g0,.int .i64 (i : Int)]) 17 Tryd.func21 rfl (by rw [Tryd.ntmps21]; rfl) ?_;have hU:=Up.refl w;refine c_seq fun K hK=>?_;refine c_lit ?_;refine l_allocA z32 rfl rfl rfl rfl (by kernel_rfl) fun w1 g hw1 hg b1=>?_
 have q1 : w.heap.size ≤ g:=by rw [hg]; exact hU.size
 replace hU:=hU.step hw1;clear hw1 hg;refine l_nil ?_;refine hK _ _ ?_;clear hK K;refine c_seq fun K0 hK0=>?_;refine c_seq fun K hK=>?_;refine c_qF ?_;refine f_move (ptr g0) rfl rfl rfl rfl rfl ?_;refine f_move (.int .i64 (i : Int)) rfl rfl rfl rfl rfl ?_
 refine f_call #[ptr g0,.int .i64 (i : Int)] (.bool true) rfl rfl rfl own_rhas (fun w2 h2=>by
  have:=rhas_any ks.length (i : Int) w2 fun w3 h3=>rsize_f w3 (hR.later (Up.step (Up.step hU h2) h3))
  rwa [decide_eq_true (show 0 ≤ (i : Int) ∧ (i : Int) < ks.length by omega)] at this) rfl rfl ?_
 refine f_not true false rfl rfl rfl rfl rfl rfl ?_;refine f_end fun w2 hw2=>hK _ _ ?_;clear hK K;refine c_cond false rfl ?_;rw [if_neg (by decide)];refine c_skip ?_;refine hK0 _ _ ?_;replace b1:=b1.later hw2;replace hU:=hU.step hw2;obtain ⟨b,o,c,h1,_,h3,_⟩:=(hR.later hU).keys;obtain ⟨b',o',e,hlt,hcc⟩:=h3 hR.pos
 injection e with e
 injection e with e1 e2
 subst e1 e2;obtain ⟨hx1,hx2⟩:=hcc i ks[i] (List.getElem?_eq_getElem hi);refine c_seq fun K hK=>?_;refine c_lit ?_;refine l_ops 7 ?_;refine f_move (ptr g0) rfl rfl rfl rfl rfl ?_;refine f_nilc ⟨g0,0,none⟩ rfl rfl rfl rfl rfl ?_;refine f_fld g0 0 0 rfl rfl rfl rfl rfl (rfld0 g0) ?_;refine f_loadV ⟨g0,0,none⟩ (.slice (some ⟨b,o,none⟩) ks.length c) (.inl rfl) rfl rfl rfl rfl rfl (fun _ h=>((h.blk h1).cell 0).trans rfl) ?_;refine f_move (.int .i64 (i : Int)) rfl rfl rfl rfl rfl ?_;refine f_ix _ (i : Int) ⟨b,o + 32 * i,none⟩ rfl rfl rfl rfl rfl rfl (ixHs b o ks.length c i hi) ?_;refine f_by b (o + 32 * i) hx1 rfl rfl rfl rfl rfl (fun _ h=>rangeAt_later hx2 (h.block b hlt)) ?_;refine f_tail fun w3 hw3=>?_;replace b1:=b1.later hw3;replace hU:=hU.step hw3;refine l_set g _ ((By ks[i]).toArray) rfl rfl rfl rfl rfl b1 (size_H hx1) (by rw [len_by hx1]; rfl) (By_oneA _) ?_;replace b1:=b1.row ((By ks[i]).toArray);replace hU:=up_row hU q1 ((By ks[i]).toArray);refine l_nil ?_;refine hK _ _ ?_;refine c_ret ?_;exact k_ret_row g (By ks[i]).toArray rfl rfl b1 Tryd.underlying22 rfl (size_H hx1) ⟨rfl,hU⟩
end Go.Proofs.YtminmeljonbogaaDoor
