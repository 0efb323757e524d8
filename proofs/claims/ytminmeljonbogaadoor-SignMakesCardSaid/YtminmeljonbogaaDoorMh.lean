/-
  SEVERAL TEXTS IN ONE: ElHash, Steps, Num, Lent, Load, AddSub, Mul, PackC, Of, Bits, Power, Inv, Good.
-/
import Derived.Test.YtminmeljonbogaaDoorMf
import Derived.Test.YtminmeljonbogaaDoorMc
import Derived.Test.YtminmeljonbogaaDoorMa
import Derived.StillTailTactics
import Derived.Deep.OwnRows
import Derived.OwnWalk
/-
  THE FIELD'S NUMBERS: Hash: the bytes of the number below p.
-/
namespace Go.Proofs.YtminmeljonbogaaDoor
open Go.RowKit Go.IntWalk Nums

theorem wd_limbs {l : List Nat} (hl : l.length = 5) (hb : ∀ y ∈ l,y < 2251799813685248) {k : Nat} (hk : k < 4) :
  bits .or .u64 ((l[64 * k / 51]! : Nat) / 2 ^ (64 * k % 51) : Int) (IntKind.u64.wrap ((l[64 * k / 51 + 1]! : Nat) * 2 ^ (51 - 64 * k % 51) : Int)) = ((wd (lv l) k : Nat) : Int):=by
 obtain ⟨a0,a1,a2,a3,a4,rfl⟩:=five hl;have h0:=hb a0 (by simp);have h1:=hb a1 (by simp);have h2:=hb a2 (by simp);have h3:=hb a3 (by simp);have h4:=hb a4 (by simp)
 unfold wd
 rw [lv5]
 have h4' : k = 0 ∨ k = 1 ∨ k = 2 ∨ k = 3:=by omega
 have key : ∀ (i x y r t L : Nat),y * 2 ^ t % 18446744073709551616 % 2 ^ i = 0 → x / 2 ^ r < 2 ^ i → x / 2 ^ r < 18446744073709551616 → y * 2 ^ t % 18446744073709551616 + x / 2 ^ r = L →
   bits .or .u64 ((x : Nat) / 2 ^ r : Int) (IntKind.u64.wrap ((y : Nat) * 2 ^ t : Int)) = (L : Int):=by
  intro i x y r t L e1 e2 e3 e4
  have f1 : ((x : Int) / 2 ^ r) = ((x / 2 ^ r : Nat) : Int):=by simp
  have f2 : IntKind.u64.wrap ((y : Int) * 2 ^ t) = ((y * 2 ^ t % 18446744073709551616 : Nat) : Int):=by
   rw [IntKind.wrap_u64]
   simp
  rw [f1,f2,← e4,u64_or_nat _ _ e3 (by omega),Nat.or_comm,nat_join i _ _ e1 e2]
 rcases h4' with rfl | rfl | rfl | rfl
 ·exact key 51 a0 a1 0 51 _ (by omega) (by omega) (by omega) (by simp only [Nat.reducePow]; omega)
 ·exact key 38 a1 a2 13 38 _ (by omega) (by omega) (by omega) (by simp only [Nat.reducePow]; omega)
 ·exact key 25 a2 a3 26 25 _ (by omega) (by omega) (by omega) (by simp only [Nat.reducePow]; omega)
 ·exact key 12 a3 a4 39 12 _ (by omega) (by omega) (by omega) (by simp only [Nat.reducePow]; omega)

structure HSt (w wr : World) (g : Nat) (l : List Nat) (b : List UInt8) (n : Nat) : Prop where
  b1 : Blk wr (w.heap.size + 1) 22 z32
  b2 : Blk wr g 77 (Us l).toArray
  b3 : Blk wr (g + 1) 22 (By (fb b n)).toArray
  be : Below w.heap.size w wr
  hg : w.heap.size + 1 < g
theorem HSt.drew {w wr : World} {g : Nat} {l : List Nat} {b : List UInt8} {n : Nat} (h : HSt w wr g l b n) : HSt w wr.drew g l b n:=⟨h.b1,h.b2,h.b3,h.be.drew,h.hg⟩
theorem HSt.set {w wr : World} {g : Nat} {l : List Nat} {b : List UInt8} {n : Nat} (h : HSt w wr g l b n) : HSt w (wr.setCell ⟨g + 1,n,none⟩ (.int .u8 ((b[n]!).toNat : Int))) g l b (n + 1) where
 b1:=h.b1.far (by have:=h.hg; simp; omega) _
 b2:=h.b2.far (by simp) _
 b3:=by
  have h4:=h.b3.set n (.int .u8 ((b[n]!).toNat : Int));rw [By_set,fb_set] at h4;exact h4
 be:=h.be.setCell (by have:=h.hg; simp; omega) _
 hg:=h.hg

set_option maxRecDepth 100000 in
set_option maxHeartbeats 2000000 in
theorem hash_f {a : List Nat} {x : F} (ha : EB a x) (w : World) :
  Calls Tryd.prog 87 #[.agg (Us a).toArray] w fun e w'=>e = .returned (.agg (By (enc x)).toArray) ∧ Below w.heap.size w w':=by
 obtain ⟨hl,hb,hL⟩:=whole_all ha
 have hbyte : ∀ m,m < 32 → ((enc x)[m]!).toNat = lv (whole a) / 256 ^ m % 256:=fun m hm=>by
  rw [hL];exact bytes_get 32 x.val hm
 have hbl : (enc x).length = 32:=enc_len x;have h0 : ∀ u,Blk ((w.alloc (Obj.cells (Us a).toArray 77)).alloc u) w.heap.size 77 (Us a).toArray:=fun u=>(Blk.new w _ _).alloc u;have h1 : Blk ((w.alloc (Obj.cells (Us a).toArray 77)).alloc (Obj.cells z32 22)) (w.heap.size + 1) 22 z32:=heap_alloc2_new w _ _;have hbel : Below w.heap.size w ((w.alloc (Obj.cells (Us a).toArray 77)).alloc (Obj.cells z32 22)):=((Below.refl _ _).alloc (Nat.le_refl _) _).alloc (by simp) _;have HWH:=fun w1=>Lib.hid (whole_f ha w1);have HK:=Lib.hid (And.intro h1 hbel);have hza:=len_us ha.len;clear hL h1 hbel;generalize enc x = b at *;generalize whole a = l at *
 go_enter Tryd.func87,Tryd.ntmps87
 go_wp2_with (refine wpList_load_row rfl 77 _ rfl w.heap.size rfl 77 (Us a).toArray (0,0) _ (h0 _) Tryd.underlying77 rfl (size_el _ hza) ?_)
 refine (HWH _).out.mono ?_
 rintro e w1 ⟨rfl,hw1⟩
 obtain ⟨h1,hbel⟩:=HK.out;have hbe:=hbel.trans (hw1.mono hbel.size);have h2:=h1.below hw1 h1.lt;have h2s:=h2.lt;have hn : Blk (w1.alloc (Obj.cells z5 77)) w1.heap.size 77 z5:=Blk.new w1 _ _;have hzl:=len_us hl
 have h3 : HSt w (((w1.alloc (Obj.cells z5 77)).setRow w1.heap.size (Us l).toArray).alloc (Obj.cells z32 22)) w1.heap.size l b 0:=by
  have hb3:=Blk.new ((w1.alloc (Obj.cells z5 77)).setRow w1.heap.size (Us l).toArray) 22 z32;rw [size_setRow,World.size_alloc] at hb3;refine ⟨((h2.alloc _).rowFar (by omega) _).alloc _,(hn.row _).alloc _,?_,?_,h2s⟩
  ·rw [fb_zero]
   exact hb3
  ·have hq:=below_setRow (cs:=(Us l).toArray) (hbe.alloc (o:=Obj.cells z5 77) hbe.size) (g:=w1.heap.size) (by omega)
   exact hq.alloc hq.size _
 have H3:=Lib.hid h3;clear h3 h2 h2s hbe hw1 h1 hbel HK HWH h0;generalize hg : w1.heap.size = g at *
 go_wp2_with (refine wpList_store_row rfl 77 _ _ rfl g rfl (Us l).toArray rfl 77 _ hn (size_el _ hzl) (by rw [hzl]; rfl) (Us_one _) ?_)
 clear hg hn
 go_loopw [11] (fun i wr=>∃ k : Nat,k ≤ 4 ∧ i = .int .i64 k ∧ HSt w wr g l b (8 * k)) (fun i _=>4 - (intOf i).toNat)
 case atStart=>exact ⟨0,by omega,rfl,H3.out⟩
 case round =>
  clear H3;obtain ⟨k,hk,rfl,hS⟩:=hrel
  by_cases hlt : k < 4
  ·have hwd:=wd_limbs hl hb hlt
   have hW : wd (lv l) k < 18446744073709551616:=Nat.mod_lt _ (by decide)
   have hby : ∀ j,j < 8 → (b[8 * k + j]!).toNat = wd (lv l) k / 2 ^ (8 * j) % 256:=fun j hj=>by
    rw [wd_byte _ _ _ hj,hbyte _ (by omega)]
   have c0:=(hS.b2.drew.cell (64 * k / 51)).trans (Us_at (by omega));have c1:=(hS.b2.drew.cell (64 * k / 51 + 1)).trans (Us_at (by omega))
   have qA : IntKind.i64.wrap (64 * (k : Int)) = ((64 * k : Nat) : Int):=by rw [i64_left,wrap64_in _ (by omega)]; omega
   have qd : ((64 * k : Nat) : Int).tdiv 51 = ((64 * k / 51 : Nat) : Int):=rfl;have qm : ((64 * k : Nat) : Int).tmod 51 = ((64 * k % 51 : Nat) : Int):=rfl
   have qs : IntKind.i64.wrap (((64 * k / 51 : Nat) : Int) + 1) = ((64 * k / 51 + 1 : Nat) : Int):=by rw [i64_left,wrap64_in _ (by omega)]; omega
   have qt : IntKind.i64.wrap (51 - ((64 * k % 51 : Nat) : Int)) = ((51 - 64 * k % 51 : Nat) : Int):=by rw [i64_left,wrap64_in _ (by omega)]; omega
   have g1 : ((64 * k / 51 + 1 : Nat) : Int) < 5:=by omega
   have g2 : ((64 * k / 51 : Nat) : Int) < 5:=by omega
   have g3 : ((64 * k % 51 : Nat) : Int) ≤ 64:=by omega
   have g4 : ((51 - 64 * k % 51 : Nat) : Int) ≤ 64:=by omega
   have g5 : (0 : Int) ≤ (k : Int):=by omega
   generalize wd (lv l) k = W at *;generalize l[64 * k / 51]! = u at *;generalize l[64 * k / 51 + 1]! = v at *;generalize 51 - 64 * k % 51 = t at *;generalize 64 * k % 51 = r at *;generalize 64 * k / 51 + 1 = q1 at *;generalize 64 * k / 51 = q at *;generalize 64 * k = A at *;have HS:=Lib.hid hS;clear hS
   go_wp2
   go_region
   clear qA qd qm qs qt g1 g2 g3 g4 c0 c1 hwd
   go_wp2
   go_loopw [35] (fun i wq=>∃ j : Nat,j ≤ 8 ∧ i = .int .i64 j ∧ HSt w wq g l b (8 * k + j)) (fun i _=>8 - (intOf i).toNat)
   case atStart=>exact ⟨0,by omega,rfl,HS.out.drew⟩
   case round =>
    clear HS;obtain ⟨j,hj,rfl,hS⟩:=hrel
    by_cases hlj : j < 8
    ·have hbj:=hby j hlj
     have q4 : IntKind.u8.wrap ((W : Int) / 2 ^ (8 * j)) = ((b[8 * k + j]!).toNat : Int):=by
      have f1 : ((W : Int) / 2 ^ (8 * j)) = ((W / 2 ^ (8 * j) : Nat) : Int):=by simp
      rw [f1,IntKind.wrap_u8',hbj]
      omega
     have hN:=hS.set;have hc:=(hS.b3.cell (8 * k + j)).trans (By_get (by rw [fb_len]; omega));have hf:=hS.b3.free (8 * k + j)
     have q1 : IntKind.i64.wrap (8 * (k : Int)) = ((8 * k : Nat) : Int):=by rw [i64_left,wrap64_in _ (by omega)]; omega
     have q2 : IntKind.i64.wrap (((8 * k : Nat) : Int) + (j : Int)) = ((8 * k + j : Nat) : Int):=by rw [i64_left,wrap64_in _ (by omega)]; omega
     have q3 : IntKind.i64.wrap (8 * (j : Int)) = ((8 * j : Nat) : Int):=by rw [i64_left,wrap64_in _ (by omega)]; omega
     have g1 : ((8 * k + j : Nat) : Int) < 32:=by omega
     have g2 : ((8 * j : Nat) : Int) ≤ 64:=by omega
     have e1 : 8 * k + (j + 1) = 8 * k + j + 1:=by omega
     have HN:=Lib.hid hN;clear hS hby hbj hN;generalize (b[8 * k + j]!).toNat = y at *;generalize 8 * k + j = m at *;generalize 8 * k = a8 at *;generalize 8 * j = n at *
     go_wp2
     go_roundw
     case rel =>
      exact ⟨j + 1,by omega,by go_num,by rw [e1]; exact HN.out⟩
     case measure=>simp [intOf]; omega
    ·obtain rfl : j = 8:=by omega
     have HS:=Lib.hid hS;clear hS
     go_wp2
     go_roundw
     case rel=>exact ⟨k + 1,by omega,by go_num,by rw [show 8 * (k + 1) = 8 * k + 8 by omega]; exact HS.out⟩
     case measure=>simp [intOf]; omega
  ·obtain rfl : k = 4:=by omega
   obtain ⟨b1,b2,b3,be,hg⟩:=hS;rw [show 8 * 4 = 32 from rfl,fb_all hbl] at b3
   have hz : (By b).toArray.size = 32:=by rw [List.size_toArray,By_len,hbl]
   clear b2
   go_wp2_with (first
    | (refine wpList_load_row rfl 22 _ rfl (g + 1) rfl 22 (By b).toArray (0,0) _ b3 Tryd.underlying22 rfl (size_hash _ hz) ?_)
    | (refine wpList_store_row rfl 22 _ _ rfl (w.heap.size + 1) rfl (By b).toArray rfl 22 _ b1 (size_hash _ hz) (by rw [hz]; rfl) (By_one _) ?_))
   refine bodyPost_ret (results_cell_row rfl _ _ (w.heap.size + 1) 22 (By b).toArray (0,0) _ rfl (b1.row _) Tryd.underlying22 rfl (size_hash _ hz)) rfl ⟨rfl,?_⟩;exact below_setRow be (by omega) _
end Go.Proofs.YtminmeljonbogaaDoor
/-
  PLAIN NUMBERS: the carries step by step. No program is imported.
-/
namespace Nums

theorem chain_snoc : ∀ (c : Int) (l : List Int) (d : Int),chain c (l ++ [d]) = ((chain c l).1 ++ [(d + (chain c l).2) % 65536],(d + (chain c l).2) / 65536)
 | c,[],d=>rfl
 | c,x :: l,d=>by
  have ih:=chain_snoc ((x + c) / 65536) l d
  show (((x + c) % 65536) :: (chain ((x + c) / 65536) (l ++ [d])).1,(chain ((x + c) / 65536) (l ++ [d])).2) = _
  rw [ih]
  rfl

def bump (c : Int) : List Int → List Int
  | []=>[]
  | d :: ds=>(d + c) :: ds

def pst (l : List Int) (k : Nat) : List Int:=(chain 0 (l.take k)).1 ++ bump (chain 0 (l.take k)).2 (l.drop k)

theorem pst_zero (l : List Int) : pst l 0 = l:=by
 unfold pst
 cases l with
 | nil=>rfl
 | cons d ds =>
  show (d + 0) :: ds = d :: ds
  rw [Int.add_zero]

theorem bump_len (c : Int) (l : List Int) : (bump c l).length = l.length:=by cases l <;> rfl

theorem pst_len (l : List Int) (k : Nat) : (pst l k).length = l.length:=by
 unfold pst
 rw [List.length_append,chain_len,bump_len,← List.length_append,List.take_append_drop]

theorem get_mid (a : List Int) (x : Int) (b : List Int) {k : Nat} (h : a.length = k) : (a ++ x :: b)[k]! = x:=by
 subst h;rw [getElem!_pos _ a.length (by simp),List.getElem_append_right (Nat.le_refl _)]
 simp
theorem set_mid (a : List Int) (x v : Int) (b : List Int) {k : Nat} (h : a.length = k) : (a ++ x :: b).set k v = a ++ v :: b:=by
 subst h;rw [List.set_append_right _ _ (Nat.le_refl _),Nat.sub_self]
 rfl

theorem take_one {l : List Int} {k : Nat} (h : k < l.length) : l.take (k + 1) = l.take k ++ [l[k]!]:=by
 rw [List.take_succ_eq_append_getElem h,getElem!_pos l k h]

theorem pst_split {l : List Int} {k : Nat} (h : k < l.length) : pst l k = (chain 0 (l.take k)).1 ++ (l[k]! + (chain 0 (l.take k)).2) :: l.drop (k + 1):=by
 unfold pst
 rw [List.drop_eq_getElem_cons h,getElem!_pos l k h]
 rfl

theorem pst_next {l : List Int} {k : Nat} (h : k + 1 < l.length) :
  pst l (k + 1) = ((pst l k).set k ((pst l k)[k]! % 65536)).set (k + 1) ((pst l k)[k+1]! + (pst l k)[k]! / 65536):=by
 have hl : (chain 0 (l.take k)).1.length = k:=by rw [chain_len,List.length_take]; omega
 have e1:=pst_split (l:=l) (k:=k) (by omega)
 have e2 : l.drop (k + 1) = l[k+1]! :: l.drop (k + 2):=by rw [List.drop_eq_getElem_cons h,getElem!_pos l (k+1) h]
 have e3:=pst_split (l:=l) (k:=k + 1) h;rw [take_one (by omega),chain_snoc] at e3;rw [e2] at e1
 have g1 : (pst l k)[k]! = l[k]! + (chain 0 (l.take k)).2:=by rw [e1]; exact get_mid _ _ _ hl
 have g2 : (pst l k)[k+1]! = l[k+1]!:=by
  rw [e1,show ∀ (a : List Int) x y b,a ++ x :: y :: b = (a ++ [x]) ++ y :: b from fun a x y b=>by simp];exact get_mid _ _ _ (by simp [hl])
 rw [g1,g2,e3,e1,set_mid _ _ _ _ hl];rw [show ∀ (a : List Int) x y b,a ++ x :: y :: b = (a ++ [x]) ++ y :: b from fun a x y b=>by simp,set_mid _ _ _ _ (by simp [hl])]

theorem pst_last {l : List Int} (h : l.length = 16) :
  carry l = ((pst l 15).set 15 ((pst l 15)[15]! % 65536)).set 0 ((pst l 15)[0]! + 38 * ((pst l 15)[15]! / 65536)):=by
 have hl : (chain 0 (l.take 15)).1.length = 15:=by rw [chain_len,List.length_take]; omega
 have e1:=pst_split (l:=l) (k:=15) (by omega);rw [List.drop_eq_nil_of_le (by omega)] at e1
 have e0 : chain 0 l = ((chain 0 (l.take 15)).1 ++ [(l[15]! + (chain 0 (l.take 15)).2) % 65536],(l[15]! + (chain 0 (l.take 15)).2) / 65536):=by
  conv=>lhs; rw [take15 h]
  rw [chain_snoc]
 have g1 : (pst l 15)[15]! = l[15]! + (chain 0 (l.take 15)).2:=by rw [e1]; exact get_mid _ _ _ hl
 unfold carry
 rw [g1,e0,e1,set_mid _ _ _ _ hl];generalize (chain 0 (l.take 15)).1 = a at *;generalize (chain 0 (l.take 15)).2 = c at *
 match a,hl with
 | d :: ds,_=>rfl

theorem pst_bnd {l : List Int} {k : Nat} (h : k < l.length) (hb : Bnd 2305843009213693952 l) : Bnd 4611686018427387904 (pst l k):=by
 have hV:=V_bnd (l:=l.take k) (B:=2305843009213693952) (fun x hx=>hb x (List.mem_of_mem_take hx));have hc:=(chain_out 0 (l.take k)).1;have hW:=W_pos (l.take k).length;have hc2:=div_bound (v:=V (l.take k) + 0) (b:=2305843009213693952) hW (by omega) (by omega);rw [← hc] at hc2;rw [pst_split h]
 intro x hx
 rcases List.mem_append.mp hx with hx | hx
 ·have:=chain_small _ _ x hx
  omega
 ·rcases List.mem_cons.mp hx with rfl | hx
  ·have:=hb l[k]! (by rw [getElem!_pos l k h]; exact List.getElem_mem _)
   omega
  ·have:=hb x (List.mem_of_mem_drop hx)
   omega

end Nums
/-
  THE DOCUMENT'S OWN NUMBERS: carry.
-/
namespace Go.Proofs.YtminmeljonbogaaDoor
open Go.RowKit Nums

theorem bnd_get {B : Int} {l : List Int} (h : Bnd B l) {k : Nat} (hk : k < l.length) : -B ≤ l[k]! ∧ l[k]! ≤ B:=h _ (by rw [getElem!_pos l k hk]; exact List.getElem_mem _)

theorem size_num (cs : Array Value) (h : cs.size = 16) : (Tryd.prog.info? 27).map (·.size) = some cs.size:=by
 rw [h]
 kernel_rfl

theorem tdiv_nn {z : Int} (h : ¬ z < 0) : z.tdiv 65536 = z / 65536:=Int.tdiv_eq_ediv_of_nonneg (by omega)
theorem tdiv_neg {z : Int} (h : z < 0) : z.tdiv 65536 = -((-z) / 65536):=by
 have : z.tdiv 65536 = -((-z).tdiv 65536):=by rw [Int.neg_tdiv,Int.neg_neg]
 rw [this,Int.tdiv_eq_ediv_of_nonneg (by omega)]
theorem tmod_neg {z : Int} (h : z < 0) : z.tmod 65536 = -((-z) % 65536):=by
 have : z.tmod 65536 = -((-z).tmod 65536):=by rw [Int.neg_tmod,Int.neg_neg]
 rw [this,Int.tmod_eq_emod_of_nonneg (by omega)]

theorem car_a {x : Int} (h : ¬ x + 65536 < 0) : (x + 65536).tdiv 65536 = x / 65536 + 1:=by rw [tdiv_nn h]; omega
theorem car_b {x : Int} (h : x + 65536 < 0) (h2 : ((x + 65536).tmod 65536 != 0) = false) : (x + 65536).tdiv 65536 = x / 65536 + 1:=by
 rw [tmod_neg h] at h2;simp only [bne_eq_false_iff_eq] at h2;rw [tdiv_neg h]
 omega
theorem car_c {x : Int} (h : x + 65536 < 0) (h2 : ((x + 65536).tmod 65536 != 0) = true) : (x + 65536).tdiv 65536 = x / 65536 + 2:=by
 rw [tmod_neg h] at h2;simp only [bne_iff_ne,ne_eq] at h2;rw [tdiv_neg h]
 omega

def cst (l : List Int) (k : Nat) : List Int:=if k = 16 then carry l else pst l k
theorem cst_lt (l : List Int) {k : Nat} (h : k < 16) : cst l k = pst l k:=by unfold cst; rw [if_neg (by omega)]
theorem cst_16 (l : List Int) : cst l 16 = carry l:=by unfold cst; rw [if_pos rfl]

theorem thrice {wr : World} {g t : Nat} {s : List Int} (hb : Blk wr g t (Is s).toArray) (k j : Nat) (a : Int) {b c b' c' : Int} (e1 : b = b') (e2 : c = c') :
  Blk (((wr.setCell ⟨g,k,none⟩ (.int .i64 a)).setCell ⟨g,k,none⟩ (.int .i64 b)).setCell ⟨g,j,none⟩ (.int .i64 c)) g t (Is ((s.set k b').set j c')).toArray:=by
 subst e1 e2;have h:=((hb.set k (.int .i64 a)).set k (.int .i64 b)).set j (.int .i64 c);rw [Is_set,Is_set,Is_set,List.set_set] at h;exact h
theorem thrice_below {w wr : World} {g : Nat} (h : Below w.heap.size w wr) (hg : w.heap.size ≤ g) (k j : Nat) (a b c : Value) :
  Below w.heap.size w (((wr.setCell ⟨g,k,none⟩ a).setCell ⟨g,k,none⟩ b).setCell ⟨g,j,none⟩ c):=((h.setCell hg _).setCell hg _).setCell hg _

set_option maxHeartbeats 1000000 in
theorem carry_any (l : List Int) (w : World) (hl : l.length = 16) (hbd : Bnd 2305843009213693952 l) :
  Calls Tryd.prog 98 #[.agg (Is l).toArray] w fun e w'=>e = .returned (.agg (Is (carry l)).toArray) ∧ Below w.heap.size w w':=by
 go_enter Tryd.func98,Tryd.ntmps98
 go_wp2
 go_loopw [3] (fun i wr=>∃ k : Nat,k ≤ 16 ∧ i = .int .i64 k ∧ Blk wr w.heap.size 27 (Is (cst l k)).toArray ∧ Blk wr (w.heap.size + 1) 27 (Is (List.replicate 16 0)).toArray ∧ Below w.heap.size w wr) (fun i _=>16 - (intOf i).toNat)
 case atStart =>
  refine ⟨0,by omega,rfl,?_,heap_alloc2_new w _ _,((Below.refl _ _).alloc (Nat.le_refl _) _).alloc (by simp) _⟩;rw [cst_lt l (by omega),pst_zero];exact heap_alloc2_old w _ _
 case round =>
  obtain ⟨k,hk,rfl,hb,hb1,hbel⟩:=hrel
  by_cases hlt : k < 16
  ·rw [cst_lt l hlt] at hb
   have hs : (pst l k).length = 16:=by rw [pst_len,hl]
   have hbk:=pst_bnd (k:=k) (by omega) hbd;have hx:=bnd_get hbk (k:=k) (by omega);have hc:=(hb.cell k).trans (Is_at (by omega));have hf:=hb.free k
   by_cases hk15 : k < 15
   ·have hN:=pst_next (l:=l) (k:=k) (by omega)
    have hy:=bnd_get hbk (k:=k + 1) (by omega);have hc1:=(hb.cell (k + 1)).trans (Is_at (by omega));have hf1:=hb.free (k + 1);generalize pst l k = s at *;generalize s[k]! = x at *;generalize s[k+1]! = y at *
    go_wp2
    all_goals
     go_roundw
     case rel =>
      refine ⟨k + 1,by omega,by go_num,?_,(((hb1.far (by simp) _).far (by simp) _).far (by simp) _),thrice_below hbel (Nat.le_refl _) _ _ _ _ _⟩;rw [cst_lt l (by omega),hN]
      first
       | rw [car_c (by assumption) (by assumption)]
       | rw [car_b (by assumption) (by assumption)]
       | rw [car_a (by omega)]
      exact thrice hb k (k + 1) _ (by unfold wrap64; omega) (by unfold wrap64; omega)
     case measure=>simp [intOf]; omega
   ·obtain rfl : k = 15:=by omega
    have hN:=pst_last hl;have hy:=bnd_get hbk (k:=0) (by omega);have hc1:=(hb.cell 0).trans (Is_at (by omega));have hf1:=hb.free 0;generalize pst l 15 = s at *;generalize s[15]! = x at *;generalize s[0]! = y at *
    go_wp2
    all_goals
     go_roundw
     case rel =>
      refine ⟨16,by omega,by go_num,?_,(((hb1.far (by simp) _).far (by simp) _).far (by simp) _),thrice_below hbel (Nat.le_refl _) _ _ _ _ _⟩;rw [cst_16,hN]
      first
       | rw [car_c (by assumption) (by assumption)]
       | rw [car_b (by assumption) (by assumption)]
       | rw [car_a (by omega)]
      exact thrice hb 15 0 _ (by unfold wrap64; omega) (by unfold wrap64; omega)
     case measure=>simp [intOf]
  ·obtain rfl : k = 16:=by omega
   rw [cst_16] at hb
   go_wp2_with (first
    | (refine wpList_load_row rfl 27 _ rfl w.heap.size rfl 27 (Is (carry l)).toArray (0,0) _ hb Tryd.underlying27 rfl (size_num _ (by simp [Is_len,(carry_all hl).1.len])) ?_)
    | (refine wpList_store_row rfl 27 _ _ rfl (w.heap.size + 1) rfl (Is (carry l)).toArray rfl 27 _ hb1 (size_num _ (by simp [Is_len,(carry_all hl).1.len])) (by simp [Is_len,(carry_all hl).1.len]) (Is_one _) ?_))
   refine bodyPost_ret (results_cell_row rfl _ _ (w.heap.size + 1) 27 (Is (carry l)).toArray (0,0) _ rfl (hb1.row _) Tryd.underlying27 rfl (size_num _ (by simp [Is_len,(carry_all hl).1.len]))) rfl ⟨rfl,?_⟩;exact below_setRow hbel (by omega) _
end Go.Proofs.YtminmeljonbogaaDoor
/-
PLAIN NUMBERS: rows that are filled from the first digit on; the digits that Load, Add, Sub and Of make. No program is imported.
PLAIN NUMBERS: the product digit by digit. No program is imported.
PLAIN NUMBERS: what is lent, step by step; bytes two by two. No program is imported.
-/
namespace Nums

def fil (l : List Int) (n k : Nat) : List Int:=l.take k ++ List.replicate (n - k) 0
theorem fil_zero (l : List Int) (n : Nat) : fil l n 0 = List.replicate n 0:=by simp [fil]
theorem fil_all {l : List Int} {n : Nat} (h : l.length = n) : fil l n n = l:=by simp [fil,← h]
theorem fil_len {l : List Int} {n k : Nat} (h : l.length = n) (hk : k ≤ n) : (fil l n k).length = n:=by simp [fil]; omega
theorem fil_next {l : List Int} {n k : Nat} (h : l.length = n) (hk : k < n) {x : Int} (hx : x = l[k]!) : (fil l n k).set k x = fil l n (k + 1):=by
 unfold fil
 rw [take_one (by omega),show n - k = (n - (k + 1)) + 1 by omega,List.replicate_succ,set_mid _ _ _ _ (by rw [List.length_take]; omega),hx]
 simp

def low (b : List UInt8) : List Int:=(join b).set 15 ((join b)[15]! % 32768)
def adds (a b : List Int) : List Int:=List.zipWith (fun x y=>x + y) a b
def subs (a b : List Int) : List Int:=List.zipWith (fun x y=>x - y) a b
theorem adds_len {a b : List Int} {n : Nat} (ha : a.length = n) (hb : b.length = n) : (adds a b).length = n:=by simp [adds,ha,hb]
theorem subs_len {a b : List Int} {n : Nat} (ha : a.length = n) (hb : b.length = n) : (subs a b).length = n:=by simp [subs,ha,hb]
theorem V_adds {a b : List Int} (h : a.length = b.length) : V (adds a b) = V a + V b:=by
 rw [adds,V_zip _ 1 (fun x y=>by omega) a b h]
 omega
theorem V_subs {a b : List Int} (h : a.length = b.length) : V (subs a b) = V a - V b:=by
 rw [subs,V_zip _ (-1) (fun x y=>by omega) a b h]
 omega
theorem adds_get {a b : List Int} {k : Nat} (ha : k < a.length) (hb : k < b.length) : (adds a b)[k]! = a[k]! + b[k]!:=by
 rw [getElem!_pos _ k (by simp [adds]; omega),getElem!_pos a k ha,getElem!_pos b k hb]
 simp [adds]
theorem subs_get {a b : List Int} {k : Nat} (ha : k < a.length) (hb : k < b.length) : (subs a b)[k]! = a[k]! - b[k]!:=by
 rw [getElem!_pos _ k (by simp [subs]; omega),getElem!_pos a k ha,getElem!_pos b k hb]
 simp [subs]
theorem zip_bnd {f : Int → Int → Int} {B C : Int} (hf : ∀ x y, -B ≤ x → x ≤ B → -C ≤ y → y ≤ C → -(B + C) ≤ f x y ∧ f x y ≤ B + C) :
  ∀ {a b : List Int},Bnd B a → Bnd C b → Bnd (B + C) (List.zipWith f a b)
 | [],_,_,_=>fun x hx=>absurd hx (by simp)
 | _ :: _,[],_,_=>fun x hx=>absurd hx (by simp)
 | x :: a,y :: b,ha,hb=>by
  intro z hz
  rcases List.mem_cons.mp (show z ∈ f x y :: List.zipWith f a b from hz) with rfl | hz
  ·have h1:=ha x (List.mem_cons_self ..)
   have h2:=hb y (List.mem_cons_self ..);exact hf x y h1.1 h1.2 h2.1 h2.2
  ·exact zip_bnd hf (fun u hu=>ha u (List.mem_cons_of_mem _ hu)) (fun u hu=>hb u (List.mem_cons_of_mem _ hu)) z hz
theorem adds_bnd {B C : Int} {a b : List Int} (ha : Bnd B a) (hb : Bnd C b) : Bnd (B + C) (adds a b):=zip_bnd (fun x y _ _ _ _=>by omega) ha hb
theorem subs_bnd {B C : Int} {a b : List Int} (ha : Bnd B a) (hb : Bnd C b) : Bnd (B + C) (subs a b):=zip_bnd (fun x y _ _ _ _=>by omega) ha hb

def ofd (v : Nat) : List Int:=[((v % 65536 : Nat) : Int),((v / 65536 % 65536 : Nat) : Int),((v / 65536 / 65536 % 65536 : Nat) : Int),((v / 65536 / 65536 / 65536 % 65536 : Nat) : Int),0,0,0,0,0,0,0,0,0,0,0,0]
theorem V_ofd {v : Nat} (h : v < 18446744073709551616) : V (ofd v) = (v : Int):=by
 show (((v % 65536 : Nat) : Int) + 65536 * (((v / 65536 % 65536 : Nat) : Int) + 65536 * (((v / 65536 / 65536 % 65536 : Nat) : Int) + 65536 * (((v / 65536 / 65536 / 65536 % 65536 : Nat) : Int) + 65536 * 0)))) = v
 omega
theorem ofd_small (v : Nat) : Small (ofd v):=by
 intro x hx
 simp only [ofd,List.mem_cons,List.not_mem_nil,or_false] at hx
 omega

end Nums

namespace Nums

structure Conv (a b t : List Int) (i j : Nat) : Prop where
  len : t.length = 31
  val : V t = V (a.take i) * V b + a[i]! * W i * V (b.take j)
  bnd : Bnd ((16 * i + j : Nat) * 1099511627776) t

theorem Conv.zero (a b : List Int) : Conv a b (List.replicate 31 0) 0 0 where
 len:=by simp
 val:=by
  have : V (List.replicate 31 0) = 0:=by decide
  rw [this]
  simp [V]
 bnd:=fun x hx=>by
  have:=(List.mem_replicate.mp hx).2;subst this
  simp

theorem V_take_next {l : List Int} {k : Nat} (h : k < l.length) : V (l.take (k + 1)) = V (l.take k) + W k * l[k]!:=by
 rw [take_one h,V_append,List.length_take,Nat.min_eq_left (by omega)]
 show V (l.take k) + W k * (l[k]! + 65536 * 0) = _
 rw [Int.mul_zero,Int.add_zero]

theorem mul_bound {x y : Int} (h1 : -1048576 ≤ x) (h2 : x ≤ 1048576) (h3 : -1048576 ≤ y) (h4 : y ≤ 1048576) : -1099511627776 ≤ x * y ∧ x * y ≤ 1099511627776:=by
 have a:=Int.mul_nonneg (show 0 ≤ 1048576 - x by omega) (show 0 ≤ 1048576 - y by omega);have b:=Int.mul_nonneg (show 0 ≤ 1048576 + x by omega) (show 0 ≤ 1048576 + y by omega);have c:=Int.mul_nonneg (show 0 ≤ 1048576 - x by omega) (show 0 ≤ 1048576 + y by omega);have d:=Int.mul_nonneg (show 0 ≤ 1048576 + x by omega) (show 0 ≤ 1048576 - y by omega)
 have ea : (1048576 - x) * (1048576 - y) = 1099511627776 - 1048576 * x - 1048576 * y + x * y:=by grind only
 have eb : (1048576 + x) * (1048576 + y) = 1099511627776 + 1048576 * x + 1048576 * y + x * y:=by grind only
 have ec : (1048576 - x) * (1048576 + y) = 1099511627776 - 1048576 * x + 1048576 * y - x * y:=by grind only
 have ed : (1048576 + x) * (1048576 - y) = 1099511627776 + 1048576 * x - 1048576 * y - x * y:=by grind only
 omega

theorem Conv.next {a b t : List Int} {i j : Nat} (h : Conv a b t i j) (hi : i < 16) (hj : j < 16) (ha : a.length = 16) (hb : b.length = 16)
  (hba : Bnd 1048576 a) (hbb : Bnd 1048576 b) : Conv a b (t.set (i + j) (t[i + j]! + a[i]! * b[j]!)) i (j + 1) where
 len:=by rw [List.length_set,h.len]
 val:=by
  rw [V_set _ _ _ (by rw [h.len]; omega),h.val,V_take_next (l:=b) (by omega),W_add]
  grind only
 bnd:=by
  intro x hx
  have h0:=h.bnd
  rcases List.mem_or_eq_of_mem_set hx with hx | rfl
  ·have:=h0 x hx
   omega
  ·have h1:=h0 t[i + j]! (by rw [getElem!_pos _ _ (by rw [h.len]; omega)]; exact List.getElem_mem _)
   have h2:=hba a[i]! (by rw [getElem!_pos _ _ (by omega)]; exact List.getElem_mem _);have h3:=hbb b[j]! (by rw [getElem!_pos _ _ (by omega)]; exact List.getElem_mem _);have h4:=mul_bound h2.1 h2.2 h3.1 h3.2
   omega

theorem Conv.roll {a b t : List Int} {i : Nat} (h : Conv a b t i 16) (hi : i < 16) (ha : a.length = 16) (hb : b.length = 16) : Conv a b t (i + 1) 0 where
 len:=h.len
 val:=by
  rw [h.val,V_take_next (l:=a) (by omega),show b.take 16 = b from List.take_of_length_le (by omega)]
  show _ = (V (a.take i) + W i * a[i]!) * V b + a[i + 1]! * W (i + 1) * 0
  grind only
 bnd:=h.bnd.mono (by omega)

theorem Conv.all {a b t : List Int} (h : Conv a b t 16 0) (ha : a.length = 16) : V t = V a * V b ∧ Bnd 281474976710656 t:=by
 refine ⟨?_,h.bnd.mono (by omega)⟩;rw [h.val,List.take_of_length_le (by omega)]
 show V a * V b + a[16]! * W 16 * 0 = _
 omega

theorem folded_get {t : List Int} (h : t.length = 31) {k : Nat} (hk : k < 15) : (folded t)[k]! = t[k]! + 38 * t[k + 16]!:=by
 rw [getElem!_pos _ k (by rw [(V_folded h).1]; omega),getElem!_pos t k (by omega),getElem!_pos t (k+16) (by omega)];simp only [folded,List.getElem_zipWith,List.getElem_take];rw [List.getElem_append_left (by simp; omega),List.getElem_drop]
 simp [Nat.add_comm]
theorem folded_last {t : List Int} (h : t.length = 31) : (folded t)[15]! = t[15]!:=by
 rw [getElem!_pos _ 15 (by rw [(V_folded h).1]; omega),getElem!_pos t 15 (by omega)];simp only [folded,List.getElem_zipWith,List.getElem_take];rw [List.getElem_append_right (by simp [h])]
 simp
theorem folded_bnd {t : List Int} (h : t.length = 31) (hb : Bnd 281474976710656 t) : Bnd 10977524091715584 (folded t):=by
 intro x hx
 obtain ⟨k,hk,rfl⟩:=List.getElem_of_mem hx;have hk2:=hk;rw [(V_folded h).1] at hk2;rw [← getElem!_pos _ k hk];have h1:=hb t[k]! (by rw [getElem!_pos _ _ (by omega)]; exact List.getElem_mem _)
 by_cases h15 : k < 15
 ·rw [folded_get h h15]
  have h2:=hb t[k+16]! (by rw [getElem!_pos _ _ (by omega)]; exact List.getElem_mem _)
  omega
 ·obtain rfl : k = 15:=by omega
  rw [folded_last h]
  omega

end Nums

namespace Nums

theorem lessp_get {t : List Int} (h : t.length = 16) {k : Nat} (hk : k < 16) : (lessp t)[k]! = t[k]! - pdig[k]!:=by
 rw [getElem!_pos _ k (by rw [lessp_len h]; omega),getElem!_pos t k (by omega),getElem!_pos pdig k (by simp [pdig]; omega)]
 simp [lessp]
theorem pdig_0 : pdig[0]! = 65517:=rfl
theorem pdig_15 : pdig[15]! = 32767:=rfl
theorem pdig_mid : ∀ k : Nat,k < 15 → 1 ≤ k → pdig[k]! = 65535:=by decide
theorem lessp_bnd {t : List Int} (hs : Small t) (h : t.length = 16) {k : Nat} (hk : k < 16) : -65535 ≤ (lessp t)[k]! ∧ (lessp t)[k]! ≤ 65535:=by
 have h1:=hs t[k]! (by rw [getElem!_pos t k (by omega)]; exact List.getElem_mem _)
 have h2 : ∀ k : Nat,k < 16 → 0 ≤ pdig[k]! ∧ pdig[k]! ≤ 65535:=by decide
 have h3:=h2 k hk;rw [lessp_get h hk]
 omega

theorem lent_c {t : List Int} (hs : Small t) (h : t.length = 16) (k : Nat) : (chain 0 ((lessp t).take k)).2 = -1 ∨ (chain 0 ((lessp t).take k)).2 = 0:=by
 have hb : Bnd 65535 (lessp t):=fun x hx=>by
  obtain ⟨j,hj,rfl⟩:=List.getElem_of_mem hx;rw [← getElem!_pos _ j hj];exact lessp_bnd hs h (by rw [lessp_len h] at hj; exact hj)
 have hV:=V_bnd (l:=(lessp t).take k) (B:=65535) (fun x hx=>hb x (List.mem_of_mem_take hx));have hc:=(chain_out 0 ((lessp t).take k)).1;have hW:=W_pos ((lessp t).take k).length;have hd:=div_bound (v:=V ((lessp t).take k) + 0) (b:=1) hW (by omega) (by omega)
 omega

theorem pst_get {l : List Int} {k : Nat} (h : k < l.length) : (pst l k)[k]! = l[k]! + (chain 0 (l.take k)).2:=by
 have hl : (chain 0 (l.take k)).1.length = k:=by rw [chain_len,List.length_take]; omega
 rw [pst_split h];exact get_mid _ _ _ hl
theorem pst_get1 {l : List Int} {k : Nat} (h : k + 1 < l.length) : (pst l k)[k + 1]! = l[k + 1]!:=by
 have hl : (chain 0 (l.take k)).1.length = k:=by rw [chain_len,List.length_take]; omega
 have e2 : l.drop (k + 1) = l[k+1]! :: l.drop (k + 2):=by rw [List.drop_eq_getElem_cons h,getElem!_pos l (k+1) h]
 rw [pst_split (by omega),e2,show ∀ (a : List Int) x y b,a ++ x :: y :: b = (a ++ [x]) ++ y :: b from fun a x y b=>by simp];exact get_mid _ _ _ (by simp [hl])

theorem lent_at {t : List Int} (hs : Small t) (h : t.length = 16) {k : Nat} (hk : k < 16) : -65536 ≤ (pst (lessp t) k)[k]! ∧ (pst (lessp t) k)[k]! ≤ 65535:=by
 have h1:=lessp_bnd hs h hk;have h2:=lent_c hs h k;rw [pst_get (by rw [lessp_len h]; omega)]
 omega
theorem lent_at1 {t : List Int} (hs : Small t) (h : t.length = 16) {k : Nat} (hk : k < 15) : -65535 ≤ (pst (lessp t) k)[k + 1]! ∧ (pst (lessp t) k)[k + 1]! ≤ 65535:=by
 rw [pst_get1 (by rw [lessp_len h]; omega)];exact lessp_bnd hs h (by omega)

theorem set_self {l : List Int} {k : Nat} (h : k < l.length) : l.set k l[k]! = l:=by
 rw [getElem!_pos l k h];exact List.set_getElem_self h

theorem lent_neg {t : List Int} (hs : Small t) (h : t.length = 16) {k : Nat} (hk : k < 15) (hn : (pst (lessp t) k)[k]! < 0) :
  pst (lessp t) (k + 1) = ((pst (lessp t) k).set k ((pst (lessp t) k)[k]! + 65536)).set (k + 1) ((pst (lessp t) k)[k + 1]! - 1):=by
 have h1:=lent_at hs h (k:=k) (by omega);rw [pst_next (by rw [lessp_len h]; omega)]
 congr 1
 ·congr 1
  omega
 ·omega
theorem lent_pos {t : List Int} (hs : Small t) (h : t.length = 16) {k : Nat} (hk : k < 15) (hn : ¬ (pst (lessp t) k)[k]! < 0) :
  pst (lessp t) (k + 1) = pst (lessp t) k:=by
 have h1:=lent_at hs h (k:=k) (by omega)
 have hl : (pst (lessp t) k).length = 16:=by rw [pst_len,lessp_len h]
 rw [pst_next (by rw [lessp_len h]; omega)]
 have e1 : (pst (lessp t) k)[k]! % 65536 = (pst (lessp t) k)[k]!:=by omega
 have e2 : (pst (lessp t) k)[k+1]! + (pst (lessp t) k)[k]! / 65536 = (pst (lessp t) k)[k+1]!:=by omega
 rw [e1,e2,set_self (by omega),set_self (by omega)]

theorem pst_lent {l : List Int} (h : l.length = 16) : pst l 15 = lent l:=by
 unfold lent
 rw [pst_split (by omega),List.drop_eq_nil_of_le (by omega)]

def rst (t : List Int) : Nat → List Int
  | 0=>t
  | k + 1=>redp (rst t k)
theorem rst_all {t : List Int} (h : t.length = 16) (hs : Small t) : ∀ k,(rst t k).length = 16 ∧ Small (rst t k)
 | 0=>⟨h,hs⟩
 | k + 1=>by
  have ih:=rst_all h hs k;have h1:=redp_all ih.1 ih.2;exact ⟨h1.1,h1.2.1⟩

def hst (d : List Int) (k : Nat) : List UInt8:=split (d.take k) ++ List.replicate (2 * (16 - k)) 0
theorem hst_all {d : List Int} (h : d.length = 16) : hst d 16 = split d:=by
 unfold hst
 rw [List.take_of_length_le (by omega)]
 simp
theorem hst_len {d : List Int} (h : d.length = 16) {k : Nat} (hk : k ≤ 16) : (hst d k).length = 32:=by
 unfold hst
 rw [List.length_append,split_len,List.length_take,List.length_replicate]
 omega
theorem split_snoc : ∀ (a : List Int) (x : Int),split (a ++ [x]) = split a ++ [UInt8.ofNat (x % 256).toNat,UInt8.ofNat (x / 256).toNat]
 | [],x=>rfl
 | y :: a,x=>by
  have ih:=split_snoc a x
  show UInt8.ofNat (y % 256).toNat :: UInt8.ofNat (y / 256).toNat :: split (a ++ [x]) = _
  rw [ih]
  rfl
theorem hst_next {d : List Int} (h : d.length = 16) {k : Nat} (hk : k < 16) :
  ((hst d k).set (2 * k) (UInt8.ofNat (d[k]! % 256).toNat)).set (2 * k + 1) (UInt8.ofNat (d[k]! / 256).toNat) = hst d (k + 1):=by
 have hl : (split (d.take k)).length = 2 * k:=by rw [split_len,List.length_take]; omega
 unfold hst
 rw [take_one (by omega),split_snoc,show 2 * (16 - k) = 2 * (16 - (k + 1)) + 1 + 1 by omega,List.replicate_succ,List.replicate_succ];generalize split (d.take k) = a at *;rw [List.set_append_right _ _ (by omega),hl,Nat.sub_self,List.set_append_right _ _ (by omega),hl];rw [show 2 * k + 1 - 2 * k = 1 by omega]
 simp

end Nums
/-
  THE DOCUMENT'S OWN NUMBERS: Load, Add, Sub.
-/
namespace Go.Proofs.YtminmeljonbogaaDoor
open Go.RowKit Go.IntWalk Nums

end Go.Proofs.YtminmeljonbogaaDoor
/-
  THE DOCUMENT'S OWN NUMBERS: Add, Sub.
-/
namespace Go.Proofs.YtminmeljonbogaaDoor
open Go.RowKit Go.IntWalk Nums

set_option maxRecDepth 100000 in
set_option maxHeartbeats 1000000 in
theorem add_any (a b : List Int) (w : World) (ha : a.length = 16) (hb : b.length = 16) (hba : Bnd 2305843009213693952 a) (hbb : Bnd 2305843009213693952 b) :
  Calls Tryd.prog 94 #[.agg (Is a).toArray,.agg (Is b).toArray] w fun e w'=>e = .returned (.agg (Is (adds a b)).toArray) ∧ Below w.heap.size w w':=by
 have hlo:=adds_len ha hb
 go_enter Tryd.func94,Tryd.ntmps94
 go_wp2
 go_loopw [6,7] (fun _ i wr=>∃ k : Nat,k ≤ 16 ∧ i = .int .i64 k ∧ Blk wr w.heap.size 27 (Is a).toArray ∧ Blk wr (w.heap.size + 1) 27 (Is b).toArray ∧ Blk wr (w.heap.size + 1 + 1) 27 (Is (List.replicate 16 0)).toArray ∧ Blk wr (w.heap.size + 1 + 1 + 1) 27 (Is (fil (adds a b) 16 k)).toArray ∧ Below w.heap.size w wr) (fun _ i _=>16 - (intOf i).toNat)
 case atStart =>
  refine ⟨0,by omega,rfl,blk4_0 w _ _ _ _ _,blk4_1 w _ _ _ _ _,blk4_2 w _ _ _ _ _,?_,below4 _ _ _ _ _⟩;rw [fil_zero];exact blk4_3 w _ _ _ _ _
 case round =>
  obtain ⟨k,hk,rfl,h0,h1,h2,h3,hbel⟩:=hrel
  by_cases hlt : k < 16
  ·have hN:=fil_next (l:=adds a b) (n:=16) (k:=k) hlo hlt (adds_get (by omega) (by omega)).symm
   have c1:=(h0.drew.cell k).trans (Is_at (by omega));have c2:=(h1.drew.cell k).trans (Is_at (by omega));have b1:=bnd_get hba (k:=k) (by omega);have b2:=bnd_get hbb (k:=k) (by omega);have hf:=h3.drew.free k;have hc:=(h3.drew.cell k).trans (Is_at (by rw [fil_len hlo (by omega)]; omega));generalize a[k]! = x at *;generalize b[k]! = y at *
   have q1 : IntKind.i64.wrap (x + y) = x + y:=by rw [i64_left,wrap64_in _ (by omega)]
   have q2 : (0 : Int) ≤ (k : Int):=by omega
   have HK:=Lib.hid (And.intro h0 (And.intro h1 (And.intro h2 (And.intro h3 (And.intro hbel hN)))));clear h0 h1 h2 h3 hbel hN
   go_wp2
   go_still_tail 8,(by kernel_rfl)
   go_wp2
   go_roundw
   case rel =>
    obtain ⟨h0,h1,h2,h3,hbel,hN⟩:=HK.out;have h4:=h3.set k (.int .i64 (x + y));rw [Is_set,hN] at h4;exact ⟨k + 1,by omega,by go_num,h0.far (by simp <;> omega) _,h1.far (by simp <;> omega) _,h2.far (by simp) _,h4,(hbel.setCell (by simp; omega) _).drew⟩
   case measure=>simp [intOf]; omega
  ·obtain rfl : k = 16:=by omega
   rw [fil_all hlo] at h3
   have hz : (Is (adds a b)).toArray.size = 16:=by rw [List.size_toArray,Is_len,hlo]
   have hz0 : (Is (List.replicate 16 0)).toArray.size = (Is (adds a b)).toArray.size:=by rw [hz]; rfl
   go_wp2_with (first
    | (refine wpList_load_row rfl 27 _ rfl (w.heap.size + 1 + 1 + 1) rfl 27 (Is (adds a b)).toArray (0,0) _ h3 Tryd.underlying27 rfl (size_num _ hz) ?_)
    | (refine wpList_store_row rfl 27 _ _ rfl (w.heap.size + 1 + 1) rfl (Is (adds a b)).toArray rfl 27 _ h2 (size_num _ hz) hz0 (Is_one _) ?_))
   refine bodyPost_ret (results_cell_row rfl _ _ (w.heap.size + 1 + 1) 27 (Is (adds a b)).toArray (0,0) _ rfl (h2.row _) Tryd.underlying27 rfl (size_num _ hz)) rfl ⟨rfl,?_⟩;exact below_setRow hbel (by omega) _

set_option maxRecDepth 100000 in
set_option maxHeartbeats 1000000 in
theorem sub_any (a b : List Int) (w : World) (ha : a.length = 16) (hb : b.length = 16) (hba : Bnd 2305843009213693952 a) (hbb : Bnd 2305843009213693952 b) :
  Calls Tryd.prog 60 #[.agg (Is a).toArray,.agg (Is b).toArray] w fun e w'=>e = .returned (.agg (Is (subs a b)).toArray) ∧ Below w.heap.size w w':=by
 have hlo:=subs_len ha hb
 go_enter Tryd.func60,Tryd.ntmps60
 go_wp2
 go_loopw [6,7] (fun _ i wr=>∃ k : Nat,k ≤ 16 ∧ i = .int .i64 k ∧ Blk wr w.heap.size 27 (Is a).toArray ∧ Blk wr (w.heap.size + 1) 27 (Is b).toArray ∧ Blk wr (w.heap.size + 1 + 1) 27 (Is (List.replicate 16 0)).toArray ∧ Blk wr (w.heap.size + 1 + 1 + 1) 27 (Is (fil (subs a b) 16 k)).toArray ∧ Below w.heap.size w wr) (fun _ i _=>16 - (intOf i).toNat)
 case atStart =>
  refine ⟨0,by omega,rfl,blk4_0 w _ _ _ _ _,blk4_1 w _ _ _ _ _,blk4_2 w _ _ _ _ _,?_,below4 _ _ _ _ _⟩;rw [fil_zero];exact blk4_3 w _ _ _ _ _
 case round =>
  obtain ⟨k,hk,rfl,h0,h1,h2,h3,hbel⟩:=hrel
  by_cases hlt : k < 16
  ·have hN:=fil_next (l:=subs a b) (n:=16) (k:=k) hlo hlt (subs_get (by omega) (by omega)).symm
   have c1:=(h0.drew.cell k).trans (Is_at (by omega));have c2:=(h1.drew.cell k).trans (Is_at (by omega));have b1:=bnd_get hba (k:=k) (by omega);have b2:=bnd_get hbb (k:=k) (by omega);have hf:=h3.drew.free k;have hc:=(h3.drew.cell k).trans (Is_at (by rw [fil_len hlo (by omega)]; omega));generalize a[k]! = x at *;generalize b[k]! = y at *
   have q1 : IntKind.i64.wrap (x - y) = x - y:=by rw [i64_left,wrap64_in _ (by omega)]
   have q2 : (0 : Int) ≤ (k : Int):=by omega
   have HK:=Lib.hid (And.intro h0 (And.intro h1 (And.intro h2 (And.intro h3 (And.intro hbel hN)))));clear h0 h1 h2 h3 hbel hN
   go_wp2
   go_still_tail 8,(by kernel_rfl)
   go_wp2
   go_roundw
   case rel =>
    obtain ⟨h0,h1,h2,h3,hbel,hN⟩:=HK.out;have h4:=h3.set k (.int .i64 (x - y));rw [Is_set,hN] at h4;exact ⟨k + 1,by omega,by go_num,h0.far (by simp <;> omega) _,h1.far (by simp <;> omega) _,h2.far (by simp) _,h4,(hbel.setCell (by simp; omega) _).drew⟩
   case measure=>simp [intOf]; omega
  ·obtain rfl : k = 16:=by omega
   rw [fil_all hlo] at h3
   have hz : (Is (subs a b)).toArray.size = 16:=by rw [List.size_toArray,Is_len,hlo]
   have hz0 : (Is (List.replicate 16 0)).toArray.size = (Is (subs a b)).toArray.size:=by rw [hz]; rfl
   go_wp2_with (first
    | (refine wpList_load_row rfl 27 _ rfl (w.heap.size + 1 + 1 + 1) rfl 27 (Is (subs a b)).toArray (0,0) _ h3 Tryd.underlying27 rfl (size_num _ hz) ?_)
    | (refine wpList_store_row rfl 27 _ _ rfl (w.heap.size + 1 + 1) rfl (Is (subs a b)).toArray rfl 27 _ h2 (size_num _ hz) hz0 (Is_one _) ?_))
   refine bodyPost_ret (results_cell_row rfl _ _ (w.heap.size + 1 + 1) 27 (Is (subs a b)).toArray (0,0) _ rfl (h2.row _) Tryd.underlying27 rfl (size_num _ hz)) rfl ⟨rfl,?_⟩;exact below_setRow hbel (by omega) _

end Go.Proofs.YtminmeljonbogaaDoor
/-
  THE DOCUMENT'S OWN NUMBERS: Mul.
-/
namespace Go.Proofs.YtminmeljonbogaaDoor
open Go.RowKit Go.IntWalk Nums

def z16 : Array Value:=(Is (List.replicate 16 0)).toArray

structure MulW (w wr : World) (a b t : List Int) : Prop where
  b0 : Blk wr w.heap.size 27 (Is a).toArray
  b1 : Blk wr (w.heap.size + 1) 27 (Is b).toArray
  b2 : Blk wr (w.heap.size + 1 + 1) 27 z16
  b3 : Blk wr (w.heap.size + 1 + 1 + 1) 140 (Is t).toArray
  be : Below w.heap.size w wr

theorem MulW.set {w wr : World} {a b t t' : List Int} (h : MulW w wr a b t) {k : Nat} {x : Int} (e : t.set k x = t') :
  MulW w (wr.setCell ⟨w.heap.size + 1 + 1 + 1,k,none⟩ (.int .i64 x)).drew a b t' where
 b0:=h.b0.far (by simp <;> omega) _
 b1:=h.b1.far (by simp <;> omega) _
 b2:=h.b2.far (by simp <;> omega) _
 b3:=by
  have h4:=h.b3.set k (.int .i64 x);rw [Is_set,e] at h4;exact h4
 be:=(h.be.setCell (by simp; omega) _).drew

structure Fold (w wq : World) (go : Nat) (t : List Int) (k : Nat) : Prop where
  b2 : Blk wq (w.heap.size + 1 + 1) 27 z16
  b3 : Blk wq (w.heap.size + 1 + 1 + 1) 140 (Is t).toArray
  bo : Blk wq go 27 (Is (fil (folded t) 16 k)).toArray
  be : Below w.heap.size w wq
  hg : w.heap.size + 1 + 1 + 1 < go

set_option maxRecDepth 100000 in
set_option maxHeartbeats 2000000 in
theorem mul_any (a b : List Int) (w : World) (ha : a.length = 16) (hb : b.length = 16) (hba : Bnd 1048576 a) (hbb : Bnd 1048576 b) :
  Calls Tryd.prog 59 #[.agg (Is a).toArray,.agg (Is b).toArray] w fun e w'=>∃ t,V t = V a * V b ∧ Bnd 281474976710656 t ∧ t.length = 31 ∧ e = .returned (.agg (Is (carry (carry (folded t)))).toArray) ∧ Below w.heap.size w w':=by
 go_enter Tryd.func59,Tryd.ntmps59
 go_wp2
 go_loopw [6] (fun i wr=>∃ k : Nat,k ≤ 16 ∧ i = .int .i64 k ∧ ∃ t,Conv a b t k 0 ∧ MulW w wr a b t) (fun i _=>16 - (intOf i).toNat)
 case atStart =>
  exact ⟨0,by omega,rfl,List.replicate 31 0,Conv.zero a b,⟨blk4_0 w _ _ _ _ _,blk4_1 w _ _ _ _ _,blk4_2 w _ _ _ _ _,blk4_3 w _ _ _ _ _,below4 _ _ _ _ _⟩⟩
 case round =>
  obtain ⟨k,hk,rfl,t,hC,hM⟩:=hrel
  by_cases hlt : k < 16
  ·have q7 : (k : Int) < 16:=by omega
   have HC:=Lib.hid hC;have HM:=Lib.hid hM;clear hC hM
   go_wp2
   go_loopw [7] (fun i wr=>∃ j : Nat,j ≤ 16 ∧ i = .int .i64 j ∧ ∃ t,Conv a b t k j ∧ MulW w wr a b t) (fun i _=>16 - (intOf i).toNat)
   case atStart=>exact ⟨0,by omega,rfl,t,HC.out,HM.out⟩
   case round =>
    obtain ⟨j,hj,rfl,t,hC,hM⟩:=hrel
    by_cases hlj : j < 16
    ·have hN:=hC.next hlt hlj ha hb hba hbb
     have c0:=(hM.b3.drew.cell (k + j)).trans (Is_at (by rw [hC.len]; omega));have c1:=(hM.b0.drew.cell k).trans (Is_at (by omega));have c2:=(hM.b1.drew.cell j).trans (Is_at (by omega));have b0:=bnd_get (hC.bnd.mono (C:=281474976710656) (by omega)) (k:=k + j) (by rw [hC.len]; omega);have b1:=bnd_get hba (k:=k) (by omega);have b2:=bnd_get hbb (k:=j) (by omega);have hf:=hM.b3.drew.free (k + j);have hst:=fun x=>hM.set (k:=k + j) (x:=x) rfl;generalize t[k + j]! = z at *;generalize a[k]! = x at *;generalize b[j]! = y at *;have hxy:=mul_bound b1.1 b1.2 b2.1 b2.2
     have q0 : IntKind.i64.wrap ((k : Int) + (j : Int)) = ((k + j : Nat) : Int):=by rw [i64_left,wrap64_in _ (by omega)]; omega
     have q1 : IntKind.i64.wrap (x * y) = x * y:=by rw [i64_left,wrap64_in _ (by omega)]
     have q2 : IntKind.i64.wrap (z + x * y) = z + x * y:=by rw [i64_left,wrap64_in _ (by omega)]
     have q3 : (0 : Int) ≤ ((k + j : Nat) : Int):=by omega
     have q4 : ((k + j : Nat) : Int) < 31:=by omega
     have q5 : (0 : Int) ≤ (k : Int):=by omega
     have q6 : (0 : Int) ≤ (j : Int):=by omega
     have HN:=Lib.hid (And.intro hN (hst (z + x * y)));clear hN hst hC hM;generalize k + j = m at *
     go_wp2
     go_still_tail 13,(by kernel_rfl)
     go_wp2
     go_roundw
     case rel =>
      obtain ⟨hN,hM⟩:=HN.out;exact ⟨j + 1,by omega,by go_num,_,hN,hM⟩
     case measure=>simp [intOf]; omega
    ·obtain rfl : j = 16:=by omega
     have hR:=hC.roll hlt ha hb;have HR:=Lib.hid (And.intro hR hM);clear hC hM
     go_wp2
     go_roundw
     case rel =>
      obtain ⟨hR,hM⟩:=HR.out;exact ⟨k + 1,by omega,by go_num,_,hR,hM⟩
     case measure=>simp [intOf]; omega
  ·obtain rfl : k = 16:=by omega
   obtain ⟨tv,tb⟩:=hC.all ha;have tl:=hC.len;clear hC;have hb3 : ∀ u,Blk (wr.alloc u) (w.heap.size + 1 + 1 + 1) 140 (Is t).toArray:=fun u=>hM.b3.alloc u;have hb2 : ∀ u,Blk (wr.alloc u) (w.heap.size + 1 + 1) 27 z16:=fun u=>hM.b2.alloc u;have hbe : ∀ u,Below w.heap.size w (wr.alloc u):=fun u=>hM.be.alloc hM.be.size u;have hg : w.heap.size + 1 + 1 + 1 < wr.heap.size:=hM.b3.lt;have hfl:=V_folded tl;have hn:=Blk.new wr 27 z16;obtain ⟨go,hgo⟩ : ∃ go,wr.heap.size = go:=⟨_,rfl⟩;clear hM
   go_wp2
   rw [hgo] at hn hg;generalize ((16 : Nat) : Int) = s16
   go_loopw [9] (fun i wq=>∃ k : Nat,k ≤ 16 ∧ i = .int .i64 k ∧ Fold w wq go t k) (fun i _=>16 - (intOf i).toNat)
   case atStart =>
    refine ⟨0,by omega,rfl,hb2 _,hb3 _,?_,hbe _,hg⟩;rw [fil_zero];exact hn
   case round =>
    obtain ⟨k,hk,rfl,h2,h3,ho,hbel,hg⟩:=hrel;clear hn hb3 hb2 hbe
    by_cases hlt : k < 16
    ·have c1:=(h3.cell k).trans (Is_at (by omega))
     have b1:=bnd_get tb (k:=k) (by omega);have hf:=ho.free k;have hc:=(ho.cell k).trans (Is_at (by rw [fil_len hfl.1 (by omega)]; omega))
     by_cases hk15 : k < 15
     ·have hN:=fil_next (l:=folded t) (n:=16) (k:=k) hfl.1 hlt (folded_get tl hk15).symm
      have b2:=bnd_get tb (k:=k + 16) (by omega)
      have hfo : ((fil (folded t) 16 k).set k t[k]!).length = 16:=by rw [List.length_set,fil_len hfl.1 (by omega)]
      have hfk : ((fil (folded t) 16 k).set k t[k]!)[k]! = t[k]!:=by
       rw [getElem!_pos _ k (by rw [hfo]; omega),List.getElem_set_self]
      have hss : ((fil (folded t) 16 k).set k t[k]!).set k (t[k]! + 38 * t[k + 16]!) = fil (folded t) 16 (k + 1):=by rw [List.set_set]; exact hN
      have k2 : Blk (wr.setCell ⟨go,k,none⟩ (.int .i64 t[k]!)) (w.heap.size + 1 + 1) 27 z16:=h2.far (by simp; omega) _;have k3 : Blk (wr.setCell ⟨go,k,none⟩ (.int .i64 t[k]!)) (w.heap.size + 1 + 1 + 1) 140 (Is t).toArray:=h3.far (by simp; omega) _;have ko:=ho.set k (.int .i64 t[k]!);rw [Is_set] at ko;have kb : Below w.heap.size w (wr.setCell ⟨go,k,none⟩ (.int .i64 t[k]!)):=hbel.setCell (by simp; omega) _;generalize t[k]! = x at *
      have q6 : (0 : Int) ≤ (k : Int):=by omega
      have q7 : (k : Int) < 16:=by omega
      have q8 : (k : Int) < 15:=by omega
      have HK:=Lib.hid (And.intro k2 (And.intro k3 (And.intro ko kb)));clear h2 h3 ho hbel k2 k3 ko kb
      go_wp2_with (fail)
      obtain ⟨k2,k3,ko,kb⟩:=HK.out;clear HK hc hf c1;generalize wr.setCell ⟨go,k,none⟩ (.int .i64 x) = w2 at *;have c1:=(ko.drew.cell k).trans (Is_at (by omega));have hf:=ko.drew.free k;have c2:=(k3.drew.cell (k + 16)).trans (Is_at (by omega));rw [hfk] at c1;have HK:=Lib.hid (And.intro k2 (And.intro k3 (And.intro ko (And.intro kb hss))));clear k2 k3 ko kb hss hN;generalize t[k+16]! = y at *
      have q1 : IntKind.i64.wrap ((k : Int) + 16) = ((k + 16 : Nat) : Int):=by rw [i64_left,wrap64_in _ (by omega)]; omega
      have q2 : IntKind.i64.wrap (38 * y) = 38 * y:=by rw [i64_left,wrap64_in _ (by omega)]
      have q3 : IntKind.i64.wrap (x + 38 * y) = x + 38 * y:=by rw [i64_left,wrap64_in _ (by omega)]
      have q4 : (0 : Int) ≤ ((k + 16 : Nat) : Int):=by omega
      have q5 : ((k + 16 : Nat) : Int) < 31:=by omega
      generalize k + 16 = m at *
      go_still_tail 9,(by kernel_rfl)
      go_wp2
      go_roundw
      case rel =>
       obtain ⟨k2,k3,ko,kb,hss⟩:=HK.out;have h4:=ko.set k (.int .i64 (x + 38 * y));rw [Is_set,hss] at h4;exact ⟨k + 1,by omega,by go_num,k2.far (by simp; omega) _,k3.far (by simp; omega) _,h4,(kb.setCell (by simp; omega) _).drew,hg⟩
      case measure=>simp [intOf]; omega
     ·obtain rfl : k = 15:=by omega
      have hN:=fil_next (l:=folded t) (n:=16) (k:=15) hfl.1 hlt (folded_last tl).symm;generalize t[15]! = x at *;have HK:=Lib.hid (And.intro h2 (And.intro h3 (And.intro ho (And.intro hbel hN))));clear h2 h3 ho hbel hN
      go_wp2
      go_roundw
      case rel =>
       obtain ⟨h2,h3,ho,hbel,hN⟩:=HK.out;have h4:=ho.set 15 (.int .i64 x);rw [Is_set,hN] at h4;exact ⟨16,by omega,by go_num,h2.far (by simp; omega) _,h3.far (by simp; omega) _,h4,hbel.setCell (by simp; omega) _,hg⟩
      case measure=>simp [intOf]
    ·obtain rfl : k = 16:=by omega
     rw [fil_all hfl.1] at ho
     have hz : (Is (folded t)).toArray.size = 16:=by rw [List.size_toArray,Is_len,hfl.1]
     have hfb:=folded_bnd tl tb;have hc1:=carry_all hfl.1;have hc2:=carry_all hc1.1.len;have hr:=V_room hfl.1 (hfb.mono (by omega))
     have hz2 : (Is (carry (carry (folded t)))).toArray.size = 16:=by rw [List.size_toArray,Is_len,hc2.1.len]
     have hb1 : Bnd 2305843009213693952 (carry (folded t)):=by
      have h2:=carry_two hfl.1 hr.1 hr.2;have h3:=div_bound (W_pos 16) hr.1 hr.2;exact hc1.1.bnd (by omega) (by omega) (by omega)
     have HC:=Lib.hid (carry_any (folded t) wr hfl.1 (hfb.mono (by omega)));have HD:=fun w1=>Lib.hid (carry_any (carry (folded t)) w1 hc1.1.len hb1);have HK:=Lib.hid (And.intro h2 hbel);clear h2 h3 hbel hfb hc1 hr hfl
     go_wp2_with (refine wpList_load_row rfl 27 _ rfl go rfl 27 (Is (folded t)).toArray (0,0) _ ho Tryd.underlying27 rfl (size_num _ hz) ?_)
     refine HC.out.mono ?_
     rintro e w1 ⟨rfl,hw1⟩
     go_wp2_with (fail)
     refine (HD w1).out.mono ?_
     rintro e w2 ⟨rfl,hw2⟩
     obtain ⟨h2,hbel⟩:=HK.out;have hbw:=hbel.trans ((hw1.trans (hw2.mono hw1.size)).mono hbel.size);have h22 : Blk w2 (w.heap.size + 1 + 1) 27 z16:=(h2.below hw1 h2.lt).below hw2 (h2.below hw1 h2.lt).lt;clear HC HD HK h2 hbel
     go_wp2_with (refine wpList_store_row rfl 27 _ _ rfl (w.heap.size + 1 + 1) rfl (Is (carry (carry (folded t)))).toArray rfl 27 _ h22 (size_num _ hz2) (by rw [hz2]; rfl) (Is_one _) ?_)
     refine bodyPost_ret (results_cell_row rfl _ _ (w.heap.size + 1 + 1) 27 (Is (carry (carry (folded t)))).toArray (0,0) _ rfl (h22.row _) Tryd.underlying27 rfl (size_num _ hz2)) rfl ⟨t,tv,tb,tl,rfl,?_⟩;exact below_setRow hbw (by omega) _
end Go.Proofs.YtminmeljonbogaaDoor
/-
  THE DOCUMENT'S OWN NUMBERS: Pack.
-/
namespace Go.Proofs.YtminmeljonbogaaDoor
open Go.RowKit Go.IntWalk Nums

structure Packs (w wr : World) (gt : Nat) (s : List Int) : Prop where
  b1 : Blk wr (w.heap.size + 1) 22 z32
  bt : Blk wr gt 27 (Is s).toArray
  be : Below w.heap.size w wr
  hg : w.heap.size + 1 < gt
  hw : gt < wr.heap.size

theorem Packs.set {w wr : World} {gt : Nat} {s : List Int} (h : Packs w wr gt s) {a : Addr} (ha : gt < a.block) (v : Value) : Packs w (wr.setCell a v) gt s where
 b1:=h.b1.far (by have:=h.hg; omega) _
 bt:=h.bt.far (by omega) _
 be:=h.be.setCell (by have:=h.hg; omega) _
 hg:=h.hg
 hw:=by simpa [World.setCell] using h.hw

set_option maxRecDepth 100000 in
set_option maxHeartbeats 2000000 in
theorem pack_any (l : List Int) (w : World) (hl : l.length = 16) (hbd : Bnd 2305843009213693952 l) :
  Calls Tryd.prog 70 #[.agg (Is l).toArray] w fun e w'=>e = .returned (.agg (By (enc (zf (V l)))).toArray) ∧ Below w.heap.size w w':=by
 have hr:=V_room hl (hbd.mono (by omega));have ht:=carry_two hl hr.1 hr.2;have ht3:=carry_three hl hr.1 hr.2;have hc1:=carry_all hl;have hd:=div_bound (W_pos 16) hr.1 hr.2;have hb1 : Bnd 2305843009213693952 (carry l):=hc1.1.bnd (by omega) (by omega) (by omega);have hb2 : Bnd 2305843009213693952 (carry (carry l)):=ht.1.bnd (by omega) (by omega) (by omega)
 have hz : (Is l).toArray.size = 16:=by rw [List.size_toArray,Is_len,hl]
 have h0 : ∀ u,Blk ((w.alloc (Obj.cells (Is l).toArray 27)).alloc u) w.heap.size 27 (Is l).toArray:=fun u=>(Blk.new w _ _).alloc u;have h1 : Blk ((w.alloc (Obj.cells (Is l).toArray 27)).alloc (Obj.cells z32 22)) (w.heap.size + 1) 22 z32:=heap_alloc2_new w _ _;have hbel : Below w.heap.size w ((w.alloc (Obj.cells (Is l).toArray 27)).alloc (Obj.cells z32 22)):=((Below.refl _ _).alloc (Nat.le_refl _) _).alloc (by simp) _;have HC:=fun w1=>Lib.hid (carry_any l w1 hl hbd);have HC1:=fun w1=>Lib.hid (carry_any (carry l) w1 hc1.1.len hb1);have HC2:=fun w1=>Lib.hid (carry_any (carry (carry l)) w1 ht.1.len hb2);have HK:=Lib.hid (And.intro h1 hbel);clear hr ht hc1 hd hb1 hb2 h1 hbel
 go_enter Tryd.func70,Tryd.ntmps70
 go_wp2_with (refine wpList_load_row rfl 27 _ rfl w.heap.size rfl 27 (Is l).toArray (0,0) _ (h0 _) Tryd.underlying27 rfl (size_num _ hz) ?_)
 refine (HC _).out.mono ?_
 rintro e w1 ⟨rfl,hw1⟩
 go_wp2_with (fail)
 refine (HC1 _).out.mono ?_
 rintro e w2 ⟨rfl,hw2⟩
 go_wp2_with (fail)
 refine (HC2 _).out.mono ?_
 rintro e w3 ⟨rfl,hw3⟩
 obtain ⟨h1,hbel⟩:=HK.out;have hwa:=hw1.trans ((hw2.trans (hw3.mono hw2.size)).mono hw1.size);have hb:=hbel.trans (hwa.mono hbel.size);have h2:=h1.below hwa h1.lt;have hzz : ∀ u,Blk (w3.alloc (Obj.cells u 27)) w3.heap.size 27 u:=fun u=>Blk.new w3 _ _;have h2a : ∀ u,Blk (w3.alloc u) (w.heap.size + 1) 22 z32:=fun u=>h2.alloc u;have hba : ∀ u,Below w.heap.size w (w3.alloc u):=fun u=>hb.alloc hb.size u;have hlt : w.heap.size + 1 < w3.heap.size:=h2.lt;clear HC HC1 HC2 HK h0 h1 hbel hw1 hw2 hw3 hwa hb h2;obtain ⟨hl3,hs3,hv3⟩:=ht3;have hpk : split (rst (carry (carry (carry l))) 2) = enc (zf (V l)):=split_pack hl (hbd.mono (by omega));generalize carry (carry (carry l)) = t at *
 have hzt : (Is t).toArray.size = 16:=by rw [List.size_toArray,Is_len,hl3]
 have hsz : (w3.alloc (Obj.cells z16 27)).heap.size = w3.heap.size + 1:=World.size_alloc _ _;have k2 : Blk ((w3.alloc (Obj.cells z16 27)).setRow w3.heap.size (Is t).toArray) (w.heap.size + 1) 22 z32:=(h2a _).rowFar (by omega) _;have kt : Blk ((w3.alloc (Obj.cells z16 27)).setRow w3.heap.size (Is t).toArray) w3.heap.size 27 (Is t).toArray:=(hzz z16).row _;have kb : Below w.heap.size w ((w3.alloc (Obj.cells z16 27)).setRow w3.heap.size (Is t).toArray):=below_setRow (hba _) (by omega) _;have HK:=Lib.hid (And.intro k2 (And.intro kt (And.intro kb (show w3.heap.size < ((w3.alloc (Obj.cells z16 27)).setRow w3.heap.size (Is t).toArray).heap.size by rw [size_setRow,hsz]; omega))));clear k2 kt kb h2a hba hsz;generalize hgt : w3.heap.size = gt at *
 go_wp2_with (refine wpList_store_row rfl 27 _ _ rfl gt rfl (Is t).toArray rfl 27 z16 (hzz z16) (size_num _ hzt) (by rw [hzt]; rfl) (Is_one _) ?_)
 obtain ⟨h2,ht,hb,hwz⟩:=HK.out;clear HK hzz;clear hgt
 go_loopw [4] (fun i wr=>∃ k : Nat,k ≤ 2 ∧ i = .int .i64 k ∧ Packs w wr gt (rst t k)) (fun i _=>2 - (intOf i).toNat)
 case atStart=>exact ⟨0,by omega,rfl,h2,ht,hb,hlt,hwz⟩
 case round =>
  clear h2 ht hb hwz;obtain ⟨k,hk,rfl,hP⟩:=hrel
  by_cases hlt2 : k < 2
  ·obtain ⟨hl4,hs4⟩:=rst_all hl3 hs3 k
   have hR : redp (rst t k) = rst t (k + 1):=rfl;generalize rst t k = s at *
   have q1 : (k : Int) < 2:=by omega
   obtain ⟨h2,ht,hb, -,hwz⟩:=hP;have c0:=fun u=>((ht.alloc u).cell 0).trans (Is_at (by omega));have b0:=hs4 s[0]! (by rw [getElem!_pos s 0 (by omega)]; exact List.getElem_mem _);have hll:=lessp_len hl4
   have hrow : Is (fil (lessp s) 16 1) = Is ((s[0]! - 65517) :: List.replicate 15 0):=by
    rw [← fil_next hll (k:=0) (by omega) (lessp_get hl4 (by omega)).symm,fil_zero,pdig_0]
    rfl
   have q0 : wrap64 (s[0]! - 65517) = s[0]! - 65517:=wrap64_in _ (by omega);generalize s[0]! = x0 at *
   have hm : Blk (wr.alloc (Obj.cells (Is ((x0 - 65517) :: List.replicate 15 0)).toArray 27)) wr.heap.size 27 (Is (fil (lessp s) 16 1)).toArray:=by rw [hrow]; exact Blk.new wr _ _
   have m2 : ∀ u,Blk (wr.alloc u) (w.heap.size + 1) 22 z32:=fun u=>h2.alloc u;have mt : ∀ u,Blk (wr.alloc u) gt 27 (Is s).toArray:=fun u=>ht.alloc u;have mb : ∀ u,Below w.heap.size w (wr.alloc u):=fun u=>hb.alloc hb.size u
   have ms : ∀ u,wr.heap.size < (wr.alloc u).heap.size:=fun u=>by rw [World.size_alloc]; omega
   have HM:=Lib.hid (And.intro hm (And.intro m2 (And.intro mt (And.intro mb ms))));clear hm m2 mt mb ms hrow h2 ht hb;obtain ⟨gm,hgm⟩ : ∃ gm,wr.heap.size = gm:=⟨_,rfl⟩;rw [hgm] at hwz;have c0 : ∀ u,(wr.alloc u).cell? ⟨gt,0,none⟩ = some (.int .i64 x0):=c0
   go_wp2_with (fail)
   obtain ⟨hm,m2,mt,mb,ms⟩:=HM.out;clear HM c0;rw [hgm] at hm ms
   go_loopw [6] (fun i wq=>∃ j : Nat,1 ≤ j ∧ j ≤ 15 ∧ i = .int .i64 j ∧ Packs w wq gt s ∧ Blk wq gm 27 (Is (fil (lessp s) 16 j)).toArray) (fun i _=>16 - (intOf i).toNat)
   case atStart=>exact ⟨1,by omega,by omega,rfl,⟨m2 _,mt _,mb _,hlt,Nat.lt_trans hwz (ms _)⟩,hm⟩
   case round =>
    clear hm m2 mt mb ms hgm;obtain ⟨j,hj1,hj,rfl,hP,hm⟩:=hrel
    by_cases hlj : j < 15
    ·have c1:=(hP.bt.cell j).trans (Is_at (by omega))
     have b1:=hs4 s[j]! (by rw [getElem!_pos s j (by omega)]; exact List.getElem_mem _);have hN:=fil_next hll (k:=j) (by omega) (lessp_get hl4 (by omega)).symm;rw [pdig_mid j hlj hj1] at hN;have hc:=(hm.cell j).trans (Is_at (by rw [fil_len hll (by omega)]; omega));have hf:=hm.free j;have hgl:=hP.hg;have hgw:=hP.hw;generalize s[j]! = x at *;have HK:=Lib.hid (And.intro hP (And.intro hm hN));clear hP hm hN
     go_wp2
     go_roundw
     case rel =>
      obtain ⟨hP,hm,hN⟩:=HK.out;have h4:=hm.set j (.int .i64 (x - 65535));rw [Is_set,hN] at h4;exact ⟨j + 1,by omega,by omega,by go_num,hP.set (by simp; omega) _,h4⟩
     case measure=>simp [intOf]; omega
    ·obtain rfl : j = 15:=by omega
     have c1:=(hP.bt.cell 15).trans (Is_at (by omega));have b1:=hs4 s[15]! (by rw [getElem!_pos s 15 (by omega)]; exact List.getElem_mem _);have hN:=fil_next hll (k:=15) (by omega) (lessp_get hl4 (by omega)).symm;rw [fil_all hll,pdig_15] at hN;have hc:=(hm.cell 15).trans (Is_at (by rw [fil_len hll (by omega)]; omega));have hf:=hm.free 15;generalize s[15]! = x at *;have q0 : wrap64 (x - 32767) = x - 32767:=wrap64_in _ (by omega);have h4:=hm.set 15 (.int .i64 (x - 32767));rw [Is_set,hN] at h4;have hP4:=hP.set (a:=⟨gm,15,none⟩) (by simp; omega) (.int .i64 (x - 32767));have HK:=Lib.hid (And.intro hP4 h4);clear hP hm hN hP4 h4
     go_wp2_with (fail)
     obtain ⟨hP,hm⟩:=HK.out;clear HK hc hf c1;generalize wr.setCell ⟨gm,15,none⟩ (.int .i64 (x - 32767)) = w5 at *;generalize ((15 : Nat) : Int) = s15
     go_loopw [7] (fun i wq=>∃ j : Nat,j ≤ 15 ∧ i = .int .i64 j ∧ Packs w wq gt s ∧ Blk wq gm 27 (Is (pst (lessp s) j)).toArray) (fun i _=>16 - (intOf i).toNat)
     case atStart=>exact ⟨0,by omega,rfl,hP,by rw [pst_zero]; exact hm⟩
     case round =>
      clear hP hm;obtain ⟨j,hj,rfl,hP,hm⟩:=hrel
      have hpl : (pst (lessp s) j).length = 16:=by rw [pst_len,hll]
      by_cases hlj : j < 15
      ·have hx:=lent_at hs4 hl4 (k:=j) (by omega)
       have hy:=lent_at1 hs4 hl4 hlj;have c1:=(hm.cell j).trans (Is_at (by omega));have c2:=(hm.cell (j + 1)).trans (Is_at (by omega));have hf:=hm.free j;have hf2:=hm.free (j + 1);have hN1:=lent_neg hs4 hl4 hlj;have hN2:=lent_pos hs4 hl4 hlj;have hgm : gt < gm:=hwz;generalize (pst (lessp s) j)[j]! = x at *;generalize (pst (lessp s) j)[j+1]! = y at *
       by_cases hneg : x < 0
       ·have hN:=hN1 hneg
        have q2 : wrap64 (x + 65536) = x + 65536:=wrap64_in _ (by omega);have q3 : wrap64 (y - 1) = y - 1:=wrap64_in _ (by omega);have HK:=Lib.hid (And.intro hP (And.intro hm hN));clear hP hm hN hN1 hN2
        go_wp2
        go_roundw
        case rel =>
         obtain ⟨hP,hm,hN⟩:=HK.out;have h4:=(hm.set j (.int .i64 (x + 65536))).set (j + 1) (.int .i64 (y - 1));rw [Is_set,Is_set,← hN] at h4;exact ⟨j + 1,by omega,by go_num,(hP.set (by simp; omega) _).set (by simp; omega) _,h4⟩
        case measure=>simp [intOf]; omega
       ·have hN:=hN2 hneg
        have HK:=Lib.hid (And.intro hP (And.intro hm hN));clear hP hm hN hN1 hN2
        go_wp2
        go_roundw
        case rel =>
         obtain ⟨hP,hm,hN⟩:=HK.out;rw [← hN] at hm;exact ⟨j + 1,by omega,by go_num,hP,hm⟩
        case measure=>simp [intOf]; omega
      ·obtain rfl : j = 15:=by omega
       rw [pst_lent hll] at hm hpl;have c1:=(hm.cell 15).trans (Is_at (by omega));have hR2 : redp s = if (0 : Int) ≤ (lent (lessp s))[15]! then lent (lessp s) else s:=rfl;rw [hR] at hR2
       have hzl : (Is (lent (lessp s))).toArray.size = 16:=by rw [List.size_toArray,Is_len,hpl]
       have hzs : (Is s).toArray.size = 16:=by rw [List.size_toArray,Is_len,hl4]
       generalize (lent (lessp s))[15]! = y at *
       by_cases hge : 0 ≤ y
       ·rw [if_pos hge] at hR2
        have hbt:=hP.bt;have HP:=Lib.hid hP;clear hP
        go_wp2_with (first
         | (refine wpList_load_row rfl 27 _ rfl gm rfl 27 (Is (lent (lessp s))).toArray (0,0) _ hm Tryd.underlying27 rfl (size_num _ hzl) ?_)
         | (refine wpList_store_row rfl 27 _ _ rfl gt rfl (Is (lent (lessp s))).toArray rfl 27 _ hbt (size_num _ hzl) (by rw [hzl,hzs]) (Is_one _) ?_))
        go_roundw
        case rel =>
         have hP:=HP.out;refine ⟨k + 1,by omega,by go_num,hP.b1.rowFar (by have:=hP.hg; omega) _,?_,below_setRow hP.be (by have:=hP.hg; omega) _,hP.hg,by rw [size_setRow]; exact hP.hw⟩;rw [hR2];exact hbt.row _
        case measure=>simp [intOf]; omega
       ·rw [if_neg hge] at hR2
        have HP:=Lib.hid hP;clear hP
        go_wp2_with (fail)
        go_roundw
        case rel =>
         have hP:=HP.out;rw [← hR2] at hP;exact ⟨k + 1,by omega,by go_num,hP⟩
        case measure=>simp [intOf]; omega
  ·obtain rfl : k = 2:=by omega
   obtain ⟨hl4,hs4⟩:=rst_all hl3 hs3 2;generalize rst t 2 = d at *;have hn:=Blk.new wr 22 z32;have hP' : ∀ u,Packs w (wr.alloc u) gt d:=fun u=>⟨hP.b1.alloc u,hP.bt.alloc u,hP.be.alloc hP.be.size u,hP.hg,by rw [World.size_alloc]; have:=hP.hw; omega⟩;have hg2:=hP.hw;have HK:=Lib.hid (And.intro hn hP');clear hn hP' hP;obtain ⟨gh,hgh⟩ : ∃ gh,wr.heap.size = gh:=⟨_,rfl⟩
   go_wp2
   obtain ⟨hn,hP⟩:=HK.out;rw [hgh] at hn hg2;clear HK;generalize ((2 : Nat) : Int) = s2
   go_loopw [9] (fun i wq=>∃ j : Nat,j ≤ 16 ∧ i = .int .i64 j ∧ Packs w wq gt d ∧ Blk wq gh 22 (By (hst d j)).toArray) (fun i _=>16 - (intOf i).toNat)
   case atStart=>exact ⟨0,by omega,rfl,hP _,hn⟩
   case round =>
    clear hP hn hgh;obtain ⟨j,hj,rfl,hP,hm⟩:=hrel
    by_cases hlj : j < 16
    ·have hx:=hs4 d[j]! (by rw [getElem!_pos d j (by omega)]; exact List.getElem_mem _)
     have hhl:=hst_len hl4 (k:=j) (by omega);have c1:=(hP.bt.cell j).trans (Is_at (by omega));have e1:=(hm.cell (2 * j)).trans (By_get (by omega));have e2:=(hm.cell (2 * j + 1)).trans (By_get (by omega));have hf1:=hm.free (2 * j);have hf2:=hm.free (2 * j + 1);have hN:=hst_next hl4 (k:=j) (by omega);have hgd : gt < gh:=hg2;generalize d[j]! = x at *;have HK:=Lib.hid (And.intro hP (And.intro hm hN));clear hP hm hN hhl
     go_wp2_with (fail)
     obtain ⟨hP,hm,hN⟩:=HK.out
     have v1 : (x % 256 : Int) = ((UInt8.ofNat (x % 256).toNat).toNat : Int):=by rw [UInt8.toNat_ofNat']; omega
     have v2 : (x / 256 : Int) = ((UInt8.ofNat (x / 256).toNat).toNat : Int):=by rw [UInt8.toNat_ofNat']; omega
     have h4:=(hm.set (2 * j) (.int .u8 ((UInt8.ofNat (x % 256).toNat).toNat : Int))).set (2 * j + 1) (.int .u8 ((UInt8.ofNat (x / 256).toNat).toNat : Int));rw [By_set,By_set,hN,← v1,← v2] at h4;exact ⟨⟨j + 1,by omega,by go_num,(hP.set (by simp; omega) _).set (by simp; omega) _,h4⟩,by simp [intOf]; omega⟩
    ·obtain rfl : j = 16:=by omega
     rw [hst_all hl4,hpk] at hm
     have hz2 : (By (enc (zf (V l)))).toArray.size = 32:=by rw [List.size_toArray,By_len,enc_len]
     have h1:=hP.b1;have HB:=Lib.hid hP.be;clear hP
     go_wp2_with (first
      | (refine wpList_load_row rfl 22 _ rfl gh rfl 22 (By (enc (zf (V l)))).toArray (0,0) _ hm Tryd.underlying22 rfl (size_hash _ hz2) ?_)
      | (refine wpList_store_row rfl 22 _ _ rfl (w.heap.size + 1) rfl (By (enc (zf (V l)))).toArray rfl 22 _ h1 (size_hash _ hz2) (by rw [hz2]; rfl) (By_one _) ?_))
     refine bodyPost_ret (results_cell_row rfl _ _ (w.heap.size + 1) 22 (By (enc (zf (V l)))).toArray (0,0) _ rfl (h1.row _) Tryd.underlying22 rfl (size_hash _ hz2)) rfl ⟨rfl,?_⟩;exact below_setRow HB.out (by omega) _
end Go.Proofs.YtminmeljonbogaaDoor
/-
  THE DOCUMENT'S OWN NUMBERS: Of; numbers modulo p as rows.
-/
namespace Go.Proofs.YtminmeljonbogaaDoor
open Go.RowKit Go.IntWalk Nums

def dq (v : Nat) : Nat → Nat
  | 0=>v
  | k + 1=>dq v k / 65536
theorem dq_lt {v : Nat} (h : v < 18446744073709551616) : ∀ k,dq v k < 18446744073709551616
 | 0=>h
 | k + 1=>Nat.lt_of_le_of_lt (Nat.div_le_self _ _) (dq_lt h k)
theorem ofd_get (v : Nat) : ∀ k,k < 4 → (ofd v)[k]! = ((dq v k % 65536 : Nat) : Int)
 | 0,_=>rfl
 | 1,_=>rfl
 | 2,_=>rfl
 | 3,_=>rfl
theorem fil_ofd (v : Nat) : fil (ofd v) 16 4 = ofd v:=rfl

set_option maxRecDepth 100000 in
set_option maxHeartbeats 1000000 in
theorem of_any (v : Nat) (w : World) (hv : v < 18446744073709551616) :
  Calls Tryd.prog 61 #[.int .u64 v] w fun e w'=>e = .returned (.agg (Is (ofd v)).toArray) ∧ Below w.heap.size w w':=by
 go_enter Tryd.func61,Tryd.ntmps61
 go_wp2
 go_loopw [0,4] (fun q i wr=>∃ k : Nat,k ≤ 4 ∧ i = .int .i64 k ∧ q = .int .u64 ((dq v k : Nat) : Int) ∧ Blk wr w.heap.size 27 z16 ∧ Blk wr (w.heap.size + 1) 27 (Is (fil (ofd v) 16 k)).toArray ∧ Below w.heap.size w wr) (fun _ i _=>4 - (intOf i).toNat)
 case atStart=>exact ⟨0,by omega,rfl,rfl,heap_alloc2_old w _ _,heap_alloc2_new w _ _,((Below.refl _ _).alloc (Nat.le_refl _) _).alloc (by simp) _⟩
 case round =>
  obtain ⟨k,hk,rfl,rfl,h0,h1,hbel⟩:=hrel
  by_cases hlt : k < 4
  ·have hN:=fil_next (l:=ofd v) (n:=16) (k:=k) rfl (by omega) (ofd_get v k hlt).symm
   have hc:=(h1.cell k).trans (Is_at (by rw [fil_len (n:=16) rfl (by omega)]; omega));have hf:=h1.free k;have hd:=dq_lt hv k;have hnx : dq v (k + 1) = dq v k / 65536:=rfl;have HK:=Lib.hid (And.intro h0 (And.intro h1 (And.intro hbel (And.intro hN hnx))));clear h0 h1 hbel hN hnx;generalize dq v k = q at *
   go_wp2
   go_roundw
   case rel =>
    obtain ⟨h0,h1,hbel,hN,hnx⟩:=HK.out;have h3:=h1.set k (.int .i64 ((q % 65536 : Nat) : Int));rw [Is_set,hN] at h3;refine ⟨k + 1,by omega,by go_num,?_,h0.far (by simp) _,?_,hbel.setCell (by simp) _⟩
    ·rw [hnx]
     simp
    ·simpa using h3
   case measure=>simp [intOf]; omega
  ·obtain rfl : k = 4:=by omega
   rw [fil_ofd] at h1;have hz : (Is (ofd v)).toArray.size = 16:=rfl
   go_wp2_with (first
    | (refine wpList_load_row rfl 27 _ rfl (w.heap.size + 1) rfl 27 (Is (ofd v)).toArray (0,0) _ h1 Tryd.underlying27 rfl (size_num _ hz) ?_)
    | (refine wpList_store_row rfl 27 _ _ rfl w.heap.size rfl (Is (ofd v)).toArray rfl 27 _ h0 (size_num _ hz) rfl (Is_one _) ?_))
   refine bodyPost_ret (results_cell_row rfl _ _ w.heap.size 27 (Is (ofd v)).toArray (0,0) _ rfl (h0.row _) Tryd.underlying27 rfl (size_num _ hz)) rfl ⟨rfl,?_⟩;exact below_setRow hbel (by omega) _

structure NB (B : Int) (l : List Int) (x : F) : Prop where
  len : l.length = 16
  bnd : Bnd B l
  val : zf (V l) = x

theorem NB.mono {B C : Int} {l : List Int} {x : F} (h : NB B l x) (hc : B ≤ C) : NB C l x:=⟨h.len,h.bnd.mono hc,h.val⟩
theorem NB.of {v : Nat} (hv : v < 18446744073709551616) : NB 65535 (ofd v) (fof v):=⟨rfl,(ofd_small v).bnd,by rw [V_ofd hv,zf_nat]⟩
theorem NB.adds {B C : Int} {a b : List Int} {x y : F} (ha : NB B a x) (hb : NB C b y) : NB (B + C) (adds a b) (x + y) :=
 ⟨adds_len ha.len hb.len,adds_bnd ha.bnd hb.bnd,by rw [V_adds (by rw [ha.len,hb.len]),zf_add,ha.val,hb.val]⟩
theorem NB.subs {B C : Int} {a b : List Int} {x y : F} (ha : NB B a x) (hb : NB C b y) : NB (B + C) (subs a b) (x - y) :=
 ⟨subs_len ha.len hb.len,subs_bnd ha.bnd hb.bnd,by rw [V_subs (by rw [ha.len,hb.len]),zf_sub,ha.val,hb.val]⟩

theorem mul_f {a b : List Int} {x y : F} (ha : NB 1048576 a x) (hb : NB 1048576 b y) (w : World) :
  Calls Tryd.prog 59 #[.agg (Is a).toArray,.agg (Is b).toArray] w fun e w'=>∃ r,NB 65573 r (x * y) ∧ e = .returned (.agg (Is r).toArray) ∧ Below w.heap.size w w':=by
 refine (mul_any a b w ha.len hb.len ha.bnd hb.bnd).mono ?_
 rintro e w' ⟨t,hv,hb1,hl,rfl,hw⟩
 obtain ⟨fl,fz⟩:=V_folded hl;have hr:=V_room fl ((folded_bnd hl hb1).mono (by omega));have h2:=carry_two fl hr.1 hr.2;refine ⟨_,⟨h2.1.len,h2.1.bnd (by omega) (by omega) (by omega),?_⟩,rfl,hw⟩;rw [carry_zf (carry_all fl).1.len,carry_zf fl,fz,hv,zf_mul,ha.val,hb.val]

theorem pack_f {l : List Int} {x : F} (h : NB 1048576 l x) (w : World) :
  Calls Tryd.prog 70 #[.agg (Is l).toArray] w fun e w'=>e = .returned (.agg (By (enc x)).toArray) ∧ Below w.heap.size w w':=by
 have h1:=pack_any l w h.len (h.bnd.mono (by omega));rw [h.val] at h1;exact h1

end Go.Proofs.YtminmeljonbogaaDoor
/-
  PLAIN NUMBERS: rows of bits, and one less. No program is imported.
-/
namespace Nums

def bv : List Bool → Nat
  | []=>0
  | b :: bs=>(if b then 1 else 0) + 2 * bv bs

theorem bv_app (a b : List Bool) : bv (a ++ b) = bv a + 2 ^ a.length * bv b:=by
 induction a with
 | nil=>simp [bv]
 | cons x a ih =>
  show (if x then 1 else 0) + 2 * bv (a ++ b) = (if x then 1 else 0) + 2 * bv a + 2 ^ (a.length + 1) * bv b
  rw [ih,Nat.pow_succ,Nat.mul_add,Nat.mul_comm (2 ^ a.length) 2,Nat.mul_assoc,Nat.add_assoc]
theorem bv_zeros (n : Nat) : bv (List.replicate n false) = 0:=by
 induction n with
 | zero=>rfl
 | succ n ih=>rw [List.replicate_succ]; show 0 + 2 * bv (List.replicate n false) = 0; omega
theorem bv_ones (n : Nat) : bv (List.replicate n true) + 1 = 2 ^ n:=by
 induction n with
 | zero=>rfl
 | succ n ih=>rw [List.replicate_succ,Nat.pow_succ]; show 1 + 2 * bv (List.replicate n true) + 1 = 2 ^ n * 2; omega

def dst (l : List Bool) (i : Nat) : List Bool:=List.replicate i true ++ l.drop i
theorem dst_zero (l : List Bool) : dst l 0 = l:=by simp [dst]
theorem dst_len {l : List Bool} {i : Nat} (h : i ≤ l.length) : (dst l i).length = l.length:=by simp [dst]; omega
theorem dst_get {l : List Bool} {i : Nat} (h : i < l.length) : (dst l i)[i]! = l[i]!:=by
 rw [getElem!_pos _ i (by rw [dst_len (by omega)]; exact h),getElem!_pos l i h];simp only [dst];rw [List.getElem_append_right (by simp)]
 simp
theorem dst_next {l : List Bool} {i : Nat} (h : i < l.length) : (dst l i).set i true = dst l (i + 1):=by
 unfold dst
 rw [List.set_append_right _ _ (by simp),List.length_replicate,Nat.sub_self,List.replicate_succ',List.append_assoc]
 congr 1
 rw [List.drop_eq_getElem_cons h]
 rfl
theorem dst_end {l : List Bool} {i : Nat} (h : i < l.length) (h0 : l.take i = List.replicate i false) (h1 : l[i]! = true) :
  ((dst l i).set i false).length = l.length ∧ bv ((dst l i).set i false) + 1 = bv l:=by
 refine ⟨by rw [List.length_set,dst_len (by omega)],?_⟩
 have e : l = List.replicate i false ++ true :: l.drop (i + 1):=by
  conv=>lhs; rw [← List.take_append_drop i l,h0,List.drop_eq_getElem_cons h]
  rw [getElem!_pos l i h] at h1;rw [h1]
 have f : (dst l i).set i false = List.replicate i true ++ false :: l.drop (i + 1):=by
  unfold dst
  rw [List.set_append_right _ _ (by simp),List.length_replicate,Nat.sub_self,List.drop_eq_getElem_cons h]
  rfl
 have hb : bv l = 2 ^ i * (1 + 2 * bv (l.drop (i + 1))):=by
  conv=>lhs; rw [e]
  rw [bv_app,bv_zeros,List.length_replicate,Nat.zero_add]
  rfl
 have ho:=bv_ones i;rw [f,bv_app,List.length_replicate,hb]
 show bv (List.replicate i true) + 2 ^ i * (0 + 2 * bv (l.drop (i + 1))) + 1 = _
 rw [Nat.mul_add (2 ^ i) 1,Nat.mul_one,Nat.zero_add]
 omega
theorem low_next {l : List Bool} {i : Nat} (h : i < l.length) (h0 : l.take i = List.replicate i false) (h1 : l[i]! = false) : l.take (i + 1) = List.replicate (i + 1) false:=by
 rw [List.take_succ_eq_append_getElem h,h0,List.replicate_succ'];rw [getElem!_pos l i h] at h1;rw [h1]
theorem low_lt {l : List Bool} {i : Nat} (h0 : l.take i = List.replicate i false) (h : 0 < bv l) : i < l.length:=by
 rcases Nat.lt_or_ge i l.length with h1 | h1
 ·exact h1
 ·rw [List.take_of_length_le h1] at h0
  rw [h0,bv_zeros] at h
  omega
theorem bv_drop {l : List Bool} {i : Nat} (h : i < l.length) : bv (l.drop i) = (if l[i]! then 1 else 0) + 2 * bv (l.drop (i + 1)):=by
 rw [List.drop_eq_getElem_cons h,getElem!_pos l i h]
 rfl
theorem bv_top (n : Nat) : bv (List.replicate n false ++ [true]) = 2 ^ n:=by
 rw [bv_app,bv_zeros,List.length_replicate]
 show 0 + 2 ^ n * (1 + 2 * 0) = 2 ^ n
 omega

end Nums
/-
  THE DOCUMENT'S OWN NUMBERS: Power.
-/
namespace Go.Proofs.YtminmeljonbogaaDoor
open Go.RowKit Go.IntWalk Nums

def Bs (l : List Bool) : List Value:=l.map .bool
theorem Bs_at {l : List Bool} {j : Nat} (h : j < l.length) : (Bs l).toArray[j]? = some (.bool l[j]!):=by
 simp [Bs,h]
theorem Bs_set (l : List Bool) (k : Nat) (x : Bool) : (Bs l).toArray.setIfInBounds k (.bool x) = (Bs (l.set k x)).toArray:=by
 simp [Bs,List.map_set]
theorem infoB : (Tryd.prog.info? 4).map (fun i=>(i.zero,i.size,i.bytes)) = some (some (.bool false),1,1):=by kernel_rfl
theorem made_bools (n : Nat) : madeCells #[.bool false] n = (Bs (List.replicate n false)).toArray:=by
 apply Array.ext
 ·simp [size_madeCells,Bs]
 ·intro i h1 h2
  simp [madeCells,Bs,Nat.mod_one]

structure PW (w wr : World) (a : List Int) (E : List Bool) : Prop where
  b0 : Blk wr w.heap.size 27 (Is a).toArray
  b1 : Blk wr (w.heap.size + 1) 27 z16
  b2 : Blk wr (w.heap.size + 1 + 1) 4 (Bs E).toArray
  be : Below w.heap.size w wr

theorem PW.set {w wr : World} {a : List Int} {E : List Bool} (h : PW w wr a E) (k : Nat) (x : Bool) :
  PW w (wr.setCell ⟨w.heap.size + 1 + 1,k,none⟩ (.bool x)) a (E.set k x) where
 b0:=h.b0.far (by simp <;> omega) _
 b1:=h.b1.far (by simp) _
 b2:=by
  have h4:=h.b2.set k (.bool x);rw [Bs_set] at h4;exact h4
 be:=h.be.setCell (by simp; omega) _

structure RW (w wr : World) (gr : Nat) (a : List Int) (E : List Bool) (r : List Int) : Prop where
  pw : PW w wr a E
  br : Blk wr gr 27 (Is r).toArray
  hg : w.heap.size + 1 + 1 < gr
  hw : gr < wr.heap.size

theorem RW.next {w wr w1 : World} {gr : Nat} {a : List Int} {E : List Bool} {r r' : List Int} (h : RW w wr gr a E r) (hw : Below wr.heap.size wr w1) : RW w (w1.setRow gr (Is r').toArray) gr a E r' where
 pw:=⟨(h.pw.b0.below hw h.pw.b0.lt).rowFar (by have:=h.hg; omega) _,(h.pw.b1.below hw h.pw.b1.lt).rowFar (by have:=h.hg; omega) _,(h.pw.b2.below hw h.pw.b2.lt).rowFar (by have:=h.hg; omega) _,below_setRow (h.pw.be.trans (hw.mono h.pw.be.size)) (by have:=h.hg; omega) _⟩
 br:=(h.br.below hw h.br.lt).row _
 hg:=h.hg
 hw:=by rw [size_setRow]; exact Nat.lt_of_lt_of_le h.hw hw.size

set_option maxRecDepth 100000 in
set_option maxHeartbeats 2000000 in
theorem power_f {a : List Int} {x : F} (ha : NB 1048576 a x) (n less : Nat) (hn : n < 300) (hless : less < 2 ^ n) (hl64 : less < 18446744073709551616) (w : World) :
  Calls Tryd.prog 99 #[.agg (Is a).toArray,.int .i64 n,.int .u64 less] w fun e w'=>∃ r,NB 65573 r (fpow x (2 ^ n - less)) ∧ e = .returned (.agg (Is r).toArray) ∧ Below w.heap.size w w':=by
 obtain ⟨i0,hi0,hz0,hz1,hz2⟩:=info_parts infoB
 have hnn : (madeCells #[.bool false] (n + 1))[n]? = some (.bool false):=by
  rw [made_bools,Bs_at (by simp)]
  congr 2
  rw [getElem!_pos _ n (by simp)]
  simp
 have hP0 : PW w (((w.alloc (Obj.cells (Is a).toArray 27)).alloc (Obj.cells z16 27)).alloc (Obj.cells ((madeCells #[.bool false] (n + 1)).setIfInBounds n (.bool true)) 4)) a (List.replicate n false ++ [true]):=by
  refine ⟨blk3_0 w _ _ _ _,blk3_1 w _ _ _ _,?_,(((Below.refl _ _).alloc (Nat.le_refl _) _).alloc (by simp) _).alloc (by simp; omega) _⟩
  have e : (Bs (List.replicate n false ++ [true])).toArray = (madeCells #[.bool false] (n + 1)).setIfInBounds n (.bool true):=by
   rw [made_bools,Bs_set,List.replicate_succ',List.set_append_right _ _ (by simp)]
   simp
  rw [e];exact blk3_2 w _ _ _ _
 have HP:=Lib.hid hP0;have HL:=Lib.hid hless;have HA:=Lib.hid ha;clear hP0 hless ha
 go_enter Tryd.func99,Tryd.ntmps99
 go_wp2_with (at_make; refine wpList_make_row _ rfl _ _ 170 rfl 4 i0 _ Tryd.underlying170 hi0 hz0 hz1 rfl .i64 .i64 (n + 1) rfl rfl (by rw [hz2]; omega) (by omega) ?_)
 clear hnn hi0 hz0 hz1 hz2 i0
 go_loopw [8] (fun i wr=>∃ k : Nat,k ≤ less ∧ i = .int .u64 k ∧ ∃ E,E.length = n + 1 ∧ bv E + k = 2 ^ n ∧ PW w wr a E) (fun i _=>less - (intOf i).toNat)
 case atStart=>exact ⟨0,by omega,rfl,_,by simp,by rw [bv_top]; rfl,HP.out⟩
 case round =>
  clear HP;obtain ⟨k,hk,rfl,E,hEl,hEb,hP⟩:=hrel
  by_cases hlt : k < less
  ·have q0 : (k : Int) < (less : Int):=by omega
   have hE0 : 0 < bv E:=by have:=HL.out; omega
   have HK:=Lib.hid (And.intro hP (And.intro hEb hE0));clear hP hEb hE0
   go_wp2
   go_loopw [9] (fun i wq=>∃ j : Nat,j ≤ n ∧ i = .int .i64 j ∧ E.take j = List.replicate j false ∧ PW w wq a (dst E j)) (fun i _=>n + 1 - (intOf i).toNat)
   case atStart=>exact ⟨0,by omega,rfl,rfl,by rw [dst_zero]; exact HK.out.1⟩
   case round =>
    obtain ⟨j,hj,rfl,hz,hP⟩:=hrel;obtain ⟨-,hEb,hE0⟩:=HK.out;have c1:=(hP.b2.cell j).trans (Bs_at (by rw [dst_len (by omega)]; omega));rw [dst_get (by omega)] at c1;have hf:=hP.b2.free j
    by_cases hb : E[j]! = true
    ·have hD:=dst_end (by omega) hz hb
     rw [hb] at c1;have hP2:=hP.set j false;have HK2:=Lib.hid (And.intro hP2 (And.intro hD hEb));clear HK hP hz hEb hE0 hP2 hD
     go_wp2
     go_roundw
     case rel =>
      obtain ⟨hP2,⟨d1,d2⟩,hEb⟩:=HK2.out;exact ⟨k + 1,by omega,by go_num,_,by omega,by omega,hP2⟩
     case measure=>simp [intOf]; omega
    ·have hb : E[j]! = false:=by simpa using hb
     have hlow:=low_next (by omega) hz hb
     have hjn : j + 1 < n + 1:=by rw [← hEl]; exact low_lt hlow hE0
     have hP2:=hP.set j true;rw [dst_next (by omega)] at hP2;rw [hb] at c1;have HK2:=Lib.hid (And.intro hP2 hlow);clear hP hz hEb hE0 hP2 hlow
     go_wp2
     go_roundw
     case rel =>
      obtain ⟨hP2,hlow⟩:=HK2.out;exact ⟨j + 1,by omega,by go_num,hlow,hP2⟩
     case measure=>simp [intOf]; omega
  ·obtain rfl : k = less:=by omega
   have HK:=Lib.hid hP;clear hP;have HO:=Lib.hid (of_any 1 wr (by omega))
   go_wp2_with (fail)
   refine HO.out.mono ?_
   rintro e w1 ⟨rfl,hw1⟩
   have hP:=HK.out;have p0:=hP.b0.below hw1 hP.b0.lt;have p1:=hP.b1.below hw1 hP.b1.lt;have p2:=hP.b2.below hw1 hP.b2.lt;have pb:=hP.be.trans (hw1.mono hP.be.size);have hs2:=p2.lt;have hnew : Blk (w1.alloc (Obj.cells z16 27)) w1.heap.size 27 z16:=Blk.new w1 _ _;have hz1 : (Is (ofd 1)).toArray.size = 16:=rfl
   have k0 : RW w ((w1.alloc (Obj.cells z16 27)).setRow w1.heap.size (Is (ofd 1)).toArray) w1.heap.size a E (ofd 1) :=
    ⟨⟨(p0.alloc _).rowFar (by omega) _,(p1.alloc _).rowFar (by omega) _,(p2.alloc _).rowFar (by omega) _,below_setRow (pb.alloc pb.size _) (by omega) _⟩,hnew.row _,by omega,by rw [size_setRow,World.size_alloc]; omega⟩
   have HK2:=Lib.hid k0;clear HO HK hP p0 p1 p2 pb hw1 k0;generalize hgr : w1.heap.size = gr at *
   go_wp2_with (refine wpList_store_row rfl 27 _ _ rfl gr rfl (Is (ofd 1)).toArray rfl 27 _ hnew (size_num _ hz1) rfl (Is_one _) ?_)
   clear hgr hnew
   go_loopw [11] (fun i wq=>∃ j : Nat,j ≤ n + 1 ∧ i = .int .i64 ((j : Int) - 1) ∧ ∃ r,NB 65573 r (fpow x (bv (E.drop j))) ∧ RW w wq gr a E r) (fun i _=>(intOf i + 1).toNat)
   case atStart =>
    refine ⟨n + 1,by omega,by congr 1; omega,ofd 1,?_,HK2.out⟩;rw [List.drop_eq_nil_of_le (by omega)];have h1:=(NB.of (v:=1) (by omega)).mono (C:=65573) (by omega);rw [fof_one] at h1;exact h1
   case round =>
    clear HK2;obtain ⟨j,hj,rfl,r,hr,hR⟩:=hrel
    by_cases hlt : 0 < j
    ·obtain ⟨i,rfl⟩ : ∃ i,j = i + 1:=⟨j - 1,by omega⟩
     have e0 : (((i + 1 : Nat) : Int) - 1) = (i : Int):=by omega
     rw [e0];have hbd:=bv_drop (l:=E) (i:=i) (by omega)
     have hf2 : fpow x (2 * bv (E.drop (i + 1))) = fpow x (bv (E.drop (i + 1))) * fpow x (bv (E.drop (i + 1))):=by rw [← fpow_add]; congr 1; omega
     have HM:=fun w1=>Lib.hid (mul_f (hr.mono (by omega)) (hr.mono (by omega)) w1);rw [← hf2] at HM
     have hzr : (Is r).toArray.size = 16:=by rw [List.size_toArray,Is_len,hr.len]
     have hbr:=hR.br;have c1:=(hR.pw.b2.cell i).trans (Bs_at (by omega));have HR:=Lib.hid hR;have HB:=Lib.hid hbd;clear hR hbd hf2
     go_wp2_with (refine wpList_load_row rfl 27 _ rfl gr rfl 27 (Is r).toArray (0,0) _ hbr Tryd.underlying27 rfl (size_num _ hzr) ?_)
     refine (HM _).out.mono ?_
     rintro e w2 ⟨r1,hr1,rfl,hw2⟩
     have hz1 : (Is r1).toArray.size = 16:=by rw [List.size_toArray,Is_len,hr1.len]
     have hbr1:=HR.out.br.below hw2 HR.out.br.lt;have R1:=HR.out.next (r':=r1) hw2;have hbr2:=R1.br;have hba2:=R1.pw.b0;have c2:=(R1.pw.b2.cell i).trans (Bs_at (by omega));have HR1:=Lib.hid R1;clear HR HM c1 hbr R1 hw2;have hB:=HB.out;clear HB
     by_cases hb : E[i]! = true
     ·rw [hb] at hB c2
      rw [if_pos rfl] at hB
      have hf3 : fpow x (bv (E.drop i)) = fpow x (2 * bv (E.drop (i + 1))) * x:=by rw [hB,fpow_add,fpow_one]; grind only
      have HM:=fun w1=>Lib.hid (mul_f (hr1.mono (by omega)) HA.out w1);rw [← hf3] at HM
      have hza : (Is a).toArray.size = 16:=by rw [List.size_toArray,Is_len,HA.out.len]
      clear hf3 hB hr1 hr
      go_wp2_with (first
       | (refine wpList_store_row rfl 27 _ _ rfl gr rfl (Is r1).toArray rfl 27 _ hbr1 (size_num _ hz1) (by rw [hz1,hzr]) (Is_one _) ?_)
       | (refine wpList_load_row rfl 27 _ rfl gr rfl 27 (Is r1).toArray (0,0) _ hbr2 Tryd.underlying27 rfl (size_num _ hz1) ?_)
       | (refine wpList_load_row rfl 27 _ rfl w.heap.size rfl 27 (Is a).toArray (0,0) _ hba2 Tryd.underlying27 rfl (size_num _ hza) ?_))
      refine (HM _).out.mono ?_
      rintro e w3 ⟨r2,hr2,rfl,hw3⟩
      have hz2 : (Is r2).toArray.size = 16:=by rw [List.size_toArray,Is_len,hr2.len]
      have hbr3:=HR1.out.br.below hw3 HR1.out.br.lt;have R2:=HR1.out.next (r':=r2) hw3;have HR2:=Lib.hid R2;clear R2 HR1 hw3 HM hbr1 hbr2 hba2
      go_wp2_with (refine wpList_store_row rfl 27 _ _ rfl gr rfl (Is r2).toArray rfl 27 _ hbr3 (size_num _ hz2) (by rw [hz2,hz1]) (Is_one _) ?_)
      go_roundw
      case rel=>exact ⟨i,by omega,rfl,r2,hr2,HR2.out⟩
      case measure=>simp [intOf]
     ·have hb : E[i]! = false:=by simpa using hb
      rw [hb] at hB c2;rw [if_neg (by simp),Nat.zero_add] at hB;rw [← hB] at hr1
      go_wp2_with (refine wpList_store_row rfl 27 _ _ rfl gr rfl (Is r1).toArray rfl 27 _ hbr1 (size_num _ hz1) (by rw [hz1,hzr]) (Is_one _) ?_)
      go_roundw
      case rel=>exact ⟨i,by omega,rfl,r1,hr1,HR1.out⟩
      case measure=>simp [intOf]
    ·obtain rfl : j = 0:=by omega
     have hb0 : bv E = 2 ^ n - k:=by omega
     rw [List.drop_zero,hb0] at hr
     have hzr : (Is r).toArray.size = 16:=by rw [List.size_toArray,Is_len,hr.len]
     have hbr:=hR.br;have hb1:=hR.pw.b1;have HB:=Lib.hid hR.pw.be;clear hR
     go_wp2_with (first
      | (refine wpList_load_row rfl 27 _ rfl gr rfl 27 (Is r).toArray (0,0) _ hbr Tryd.underlying27 rfl (size_num _ hzr) ?_)
      | (refine wpList_store_row rfl 27 _ _ rfl (w.heap.size + 1) rfl (Is r).toArray rfl 27 _ hb1 (size_num _ hzr) (by rw [hzr]; rfl) (Is_one _) ?_))
     refine bodyPost_ret (results_cell_row rfl _ _ (w.heap.size + 1) 27 (Is r).toArray (0,0) _ rfl (hb1.row _) Tryd.underlying27 rfl (size_num _ hzr)) rfl ⟨r,hr,rfl,?_⟩;exact below_setRow HB.out (by omega) _
end Go.Proofs.YtminmeljonbogaaDoor
/-
  THE DOCUMENT'S OWN NUMBERS: Inv.
-/
namespace Go.Proofs.YtminmeljonbogaaDoor
open Go.RowKit Go.IntWalk Nums

theorem inv_e : 2 ^ 255 - 21 = p - 2:=by decide

set_option maxRecDepth 100000 in
set_option maxHeartbeats 1000000 in
theorem inv_f {a : List Int} {x : F} (ha : NB 1048576 a x) (w : World) :
  Calls Tryd.prog 62 #[.agg (Is a).toArray] w fun e w'=>∃ r,NB 65573 r (finv x) ∧ e = .returned (.agg (Is r).toArray) ∧ Below w.heap.size w w':=by
 have hza : (Is a).toArray.size = 16:=by rw [List.size_toArray,Is_len,ha.len]
 have h0 : ∀ u,Blk ((w.alloc (Obj.cells (Is a).toArray 27)).alloc u) w.heap.size 27 (Is a).toArray:=fun u=>(Blk.new w _ _).alloc u;have h1 : Blk ((w.alloc (Obj.cells (Is a).toArray 27)).alloc (Obj.cells z16 27)) (w.heap.size + 1) 27 z16:=heap_alloc2_new w _ _;have hbel : Below w.heap.size w ((w.alloc (Obj.cells (Is a).toArray 27)).alloc (Obj.cells z16 27)):=((Below.refl _ _).alloc (Nat.le_refl _) _).alloc (by simp) _;have HK:=Lib.hid (And.intro h1 hbel);have HC:=fun w1=>Lib.hid (power_f ha 255 21 (by omega) (by decide) (by omega) w1);rw [inv_e] at HC;clear h1 hbel ha
 go_enter Tryd.func62,Tryd.ntmps62
 go_wp2_with (refine wpList_load_row rfl 27 _ rfl w.heap.size rfl 27 (Is a).toArray (0,0) _ (h0 _) Tryd.underlying27 rfl (size_num _ hza) ?_)
 refine (HC _).out.mono ?_
 rintro e w1 ⟨r,hr,rfl,hw1⟩
 obtain ⟨h1,hbel⟩:=HK.out
 have hz : (Is r).toArray.size = 16:=by rw [List.size_toArray,Is_len,hr.len]
 have h2:=h1.below hw1 h1.lt;have HB:=Lib.hid (hbel.trans (hw1.mono hbel.size));clear HC HK h0 h1 hbel hw1
 go_wp2_with (refine wpList_store_row rfl 27 _ _ rfl (w.heap.size + 1) rfl (Is r).toArray rfl 27 _ h2 (size_num _ hz) (by rw [hz]; rfl) (Is_one _) ?_)
 refine bodyPost_ret (results_cell_row rfl _ _ (w.heap.size + 1) 27 (Is r).toArray (0,0) _ rfl (h2.row _) Tryd.underlying27 rfl (size_num _ hz)) rfl ⟨r,hr,rfl,?_⟩;exact below_setRow HB.out (by omega) _

end Go.Proofs.YtminmeljonbogaaDoor
/-
TWO ROWS OF NUMBERS IN BLOCKS OF THE CALL'S OWN.
THE DOCUMENT'S OWN NUMBERS: Good.
-/
namespace Go.Proofs.YtminmeljonbogaaDoor
open Go.RowKit Go.IntWalk Nums

structure SW (w wr : World) (a b : List Int) : Prop where
  b0 : Blk wr w.heap.size 27 (Is a).toArray
  b1 : Blk wr (w.heap.size + 1) 27 (Is b).toArray
  be : Below w.heap.size w wr
theorem SW.step {w wr w1 : World} {a b : List Int} (h : SW w wr a b) (hw : Below wr.heap.size wr w1) : SW w w1 a b :=
 ⟨h.b0.below hw h.b0.lt,h.b1.below hw h.b1.lt,h.be.trans (hw.mono h.be.size)⟩

end Go.Proofs.YtminmeljonbogaaDoor

namespace Go.Proofs.YtminmeljonbogaaDoor
open Go.RowKit Go.IntWalk Nums

def isGood (b : List UInt8) : Bool:=decide ((b[31]!).toNat < 128) && decide (enc (fof (le b % 57896044618658097711785492504343953926634992332820282019728792003956564819968)) = b)

end Go.Proofs.YtminmeljonbogaaDoor
