/-
  SEVERAL TEXTS IN ONE: SgP, SgNum, SgKey, SgSign, Scal, Below, Less, LessC, ModP.
-/
import Derived.Test.YtminmeljonbogaaDoorMc
import Derived.Test.YtminmeljonbogaaDoorMm
import Derived.Test.YtminmeljonbogaaDoorMf
import Derived.Test.YtminmeljonbogaaDoorMl
import Derived.Test.YtminmeljonbogaaDoorMh
import Derived.Test.YtminmeljonbogaaDoorMa
import Derived.Deep.AppendLies
/-
  PLAIN NUMBERS of the signatures: what a seed's number, key and signatures are, and when one is right. No program is imported.
-/
namespace Nums

def lowB (l : List UInt8) : List UInt8:=l.set 0 (UInt8.ofNat ((l[0]!).toNat / 8 * 8))
def topB (l : List UInt8) : List UInt8:=l.set 31 (UInt8.ofNat ((l[31]!).toNat % 64 + 64))
def clampB (l : List UInt8) : List UInt8:=topB (lowB l)
theorem lowB_len (l : List UInt8) : (lowB l).length = l.length:=List.length_set
theorem topB_len (l : List UInt8) : (topB l).length = l.length:=List.length_set
theorem clampB_len (l : List UInt8) : (clampB l).length = l.length:=by rw [clampB,topB_len,lowB_len]
theorem ofNat_toNat {n : Nat} (h : n < 256) : (UInt8.ofNat n).toNat = n:=by
 rw [UInt8.toNat_ofNat']
 omega
theorem clamp_cut (x b t : Nat) (h : x = b + 28948022309329048855892746252171976963317496166410141009864396001978282409984 * t) (hb : b < 28948022309329048855892746252171976963317496166410141009864396001978282409984) : clampN x = b / 8 * 8 + 28948022309329048855892746252171976963317496166410141009864396001978282409984:=by
 unfold clampN
 rw [h,Nat.add_mul_mod_self_left,Nat.mod_eq_of_lt hb]
theorem le_lowB : ∀ {l : List UInt8},0 < l.length → le (lowB l) = le l / 8 * 8
 | [],h=>absurd h (by simp)
 | x :: l,_=>by
  have hx:=x.toNat_lt;have e : lowB (x :: l) = UInt8.ofNat (x.toNat / 8 * 8) :: l:=rfl;rw [e]
  show (UInt8.ofNat (x.toNat / 8 * 8)).toNat + 256 * le l = (x.toNat + 256 * le l) / 8 * 8
  rw [ofNat_toNat (by omega)]
  omega
theorem le_topB {l : List UInt8} (h : l.length = 32) : ∃ b t,b < 28948022309329048855892746252171976963317496166410141009864396001978282409984 ∧ le l = b + 28948022309329048855892746252171976963317496166410141009864396001978282409984 * t ∧ le (topB l) = b + 28948022309329048855892746252171976963317496166410141009864396001978282409984 ∧ b % 8 = le l % 8:=by
 have hs : l = l.take 31 ++ [l[31]!]:=by
  have h1 : l.drop 31 = [l[31]!]:=by
   rw [List.drop_eq_getElem_cons (by omega),List.drop_eq_nil_of_le (by omega),getElem!_pos l 31 (by omega)]
  rw [← h1,List.take_append_drop]
 have hlen : (l.take 31).length = 31:=by rw [List.length_take]; omega
 have ht : topB l = l.take 31 ++ [UInt8.ofNat ((l[31]!).toNat % 64 + 64)]:=by
  unfold topB
  conv=>lhs; arg 1; rw [hs]
  rw [List.set_append_right _ _ (by rw [hlen]; exact Nat.le_refl _),hlen]
  rfl
 have hx:=(l[31]!).toNat_lt;have hlo:=le_lt (l.take 31);rw [hlen] at hlo
 have e1 : le l = le (l.take 31) + 256 ^ 31 * (l[31]!).toNat:=by
  conv=>lhs; rw [hs]
  rw [le_append,hlen]
  rfl
 have e2 : le (topB l) = le (l.take 31) + 256 ^ 31 * ((l[31]!).toNat % 64 + 64):=by
  rw [ht,le_append,hlen]
  show _ + 256 ^ 31 * ((UInt8.ofNat ((l[31]!).toNat % 64 + 64)).toNat + 256 * 0) = _
  rw [ofNat_toNat (by omega)]
 generalize le (l.take 31) = u at *;generalize (l[31]!).toNat = y at *;refine ⟨u + 256 ^ 31 * (y % 64),y / 64,?_,?_,?_,?_⟩
 ·omega
 ·rw [e1]
  omega
 ·rw [e2]
  omega
 ·rw [e1]
  omega
theorem le_clampB {l : List UInt8} (h : l.length = 32) : le (clampB l) = clampN (le l):=by
 have h1:=le_lowB (l:=l) (by omega);obtain ⟨b,t,hb,e1,e2,e3⟩:=le_topB (l:=lowB l) (by rw [lowB_len,h]);rw [h1] at e1 e3
 have h8 : b % 8 = 0:=by rw [e3]; omega
 obtain ⟨r,hr,hr8⟩ : ∃ r,le l = le l / 8 * 8 + r ∧ r < 8:=⟨le l % 8,by omega,by omega⟩;rw [clampB,e2,clamp_cut (le l) (b + r) t (by omega) (by omega)]
 omega

def sgD (seed : List UInt8) : List UInt8:=digest s512 seed
def sgAB (seed : List UInt8) : List UInt8:=clampB ((sgD seed).take 32)
def sgPre (seed : List UInt8) : List UInt8:=(sgD seed).drop 32
def sgKey (seed : List UInt8) : List UInt8:=encP (Ed.mul dd (le (sgAB seed)) base)
def sgR (seed m : List UInt8) : Nat:=le (digest s512 (sgPre seed ++ m)) % LL
def sgRB (seed m : List UInt8) : List UInt8:=encP (Ed.mul dd (sgR seed m) base)
def sgK (R key m : List UInt8) : Nat:=le (digest s512 (R ++ (key ++ m))) % LL
def sgS (seed m : List UInt8) : Nat:=(sgR seed m + sgK (sgRB seed m) (sgKey seed) m * le (sgAB seed)) % LL
def sgSig (seed m : List UInt8) : List UInt8:=sgRB seed m ++ bytes 32 (sgS seed m)
def Right (key sig m : List UInt8) : Prop:=∃ A,Ed.On dd A ∧ encP A = key ∧ Ed.mul dd 8 A ≠ Ed.zero ∧ le (sig.drop 32) < LL ∧
  encP (Ed.add dd (Ed.mul dd (le (sig.drop 32)) base) (Ed.neg (Ed.mul dd (sgK (sig.take 32) key m) A))) = sig.take 32

theorem digest512_len (m : List UInt8) : (digest s512 m).length = 64:=by
 unfold digest
 have h : ∀ l : List Nat,((l.map (layw s512)).flatten).length = 8 * l.length:=by
  intro l
  induction l with
  | nil=>rfl
  | cons x l ih =>
   rw [List.map_cons,List.flatten_cons,List.length_append,ih,List.length_cons]
   have : (layw s512 x).length = 8:=by
    unfold layw
    rw [List.length_reverse,bytes_len]
    rfl
   omega
 rw [h]
 rfl
theorem sgD_len (seed : List UInt8) : (sgD seed).length = 64:=digest512_len _
theorem sgAB_len (seed : List UInt8) : (sgAB seed).length = 32:=by rw [sgAB,clampB_len,List.length_take,sgD_len]; rfl
theorem sgPre_len (seed : List UInt8) : (sgPre seed).length = 32:=by rw [sgPre,List.length_drop,sgD_len]
theorem sgKey_len (seed : List UInt8) : (sgKey seed).length = 32:=encP_len _
theorem sgRB_len (seed m : List UInt8) : (sgRB seed m).length = 32:=encP_len _
theorem sgSig_len (seed m : List UInt8) : (sgSig seed m).length = 64:=by rw [sgSig,List.length_append,sgRB_len,bytes_len]
theorem sgSig_take (seed m : List UInt8) : (sgSig seed m).take 32 = sgRB seed m:=by rw [sgSig,List.take_append_of_le_length (by rw [sgRB_len]; exact Nat.le_refl _),List.take_of_length_le (by rw [sgRB_len]; exact Nat.le_refl _)]
theorem sgSig_drop (seed m : List UInt8) : (sgSig seed m).drop 32 = bytes 32 (sgS seed m):=by
 rw [sgSig,List.drop_append,sgRB_len,List.drop_of_length_le (by rw [sgRB_len]; exact Nat.le_refl _)]
 rfl
theorem mod_LL_lt (n : Nat) : n % LL < LL:=Nat.mod_lt _ (by decide)
theorem sgS_lt (seed m : List UInt8) : sgS seed m < LL:=mod_LL_lt _
theorem le_bytesL {n : Nat} (h : n < LL) : le (bytes 32 n) = n:=by
 rw [le_bytes,Nat.mod_eq_of_lt (Nat.lt_trans h (by decide))]
theorem le_sgS (seed m : List UInt8) : le ((sgSig seed m).drop 32) = sgS seed m:=by rw [sgSig_drop,le_bytesL (sgS_lt _ _)]
theorem key_small (seed : List UInt8) : Ed.mul dd 8 (Ed.mul dd (le (sgAB seed)) base) ≠ Ed.zero:=by
 have h : le (sgAB seed) = clampN (le ((sgD seed).take 32)):=le_clampB (by rw [List.length_take,sgD_len]; rfl);rw [h];exact clamp_small _
theorem key_ne (seed : List UInt8) : ¬ LL ∣ le (sgAB seed):=by
 have h : le (sgAB seed) = clampN (le ((sgD seed).take 32)):=le_clampB (by rw [List.length_take,sgD_len]; rfl);rw [h];exact clamp_ne _
theorem right_own (seed m : List UInt8) : Right (sgKey seed) (sgSig seed m) m:=by
 refine ⟨_,Ed.on_mul good on_base _,rfl,key_small seed,?_,?_⟩
 ·rw [le_sgS]
  exact sgS_lt _ _
 ·rw [le_sgS,sgSig_take,sgS,sign_right]
  rfl
theorem mul_inj {a b : Nat} (ha : a < LL) (hb : b < LL) (h : Ed.mul dd a base = Ed.mul dd b base) : a = b:=by
 have key : ∀ {a b : Nat},a ≤ b → b < LL → Ed.mul dd a base = Ed.mul dd b base → a = b:=fun {a b} hab hb h=>by
  obtain ⟨c,rfl⟩ : ∃ c,b = a + c:=⟨b - a,by omega⟩;have hA:=Ed.on_mul good on_base a;have hC:=Ed.on_mul good on_base c;rw [Ed.mul_add good on_base] at h
  have h1 : Ed.mul dd c base = Ed.zero:=by
   have h2 : Ed.add dd (Ed.add dd (Ed.mul dd a base) (Ed.mul dd c base)) (Ed.neg (Ed.mul dd a base)) = Ed.add dd (Ed.mul dd a base) (Ed.neg (Ed.mul dd a base)):=by rw [← h]
   rw [Ed.add_neg good hA,Ed.add_comm (Ed.mul dd a base) (Ed.mul dd c base),Ed.add_assoc good hC hA (Ed.on_neg hA),Ed.add_neg good hA,Ed.add_zero good] at h2;exact h2
  rw [ord_iff] at h1;have h3 : c = 0:=Nat.eq_zero_of_dvd_of_lt h1 (by omega)
  omega
 rcases Nat.le_total a b with h1 | h1
 ·exact key h1 hb h
 ·exact (key h1 ha h.symm).symm
theorem add_right {P Q R : Ed.Pt p} (hP : Ed.On dd P) (hQ : Ed.On dd Q) (hR : Ed.On dd R) (h : Ed.add dd P R = Ed.add dd Q R) : P = Q:=by
 have h1 : Ed.add dd (Ed.add dd P R) (Ed.neg R) = Ed.add dd (Ed.add dd Q R) (Ed.neg R):=by rw [h]
 rwa [Ed.add_assoc good hP hR (Ed.on_neg hR),Ed.add_assoc good hQ hR (Ed.on_neg hR),Ed.add_neg good hR,Ed.add_zero good,Ed.add_zero good] at h1
theorem right_one {key s t m : List UInt8} (hs : Right key s m) (ht : Right key t m) (h : s.take 32 = t.take 32) : le (s.drop 32) = le (t.drop 32):=by
 obtain ⟨A,hA,hk,_,hl,he⟩:=hs;obtain ⟨B,hB,hk2,_,hl2,he2⟩:=ht;obtain rfl : A = B:=encP_inj hA hB (hk.trans hk2.symm);rw [← h] at he2;have hN:=Ed.on_neg (Ed.on_mul good hA (sgK (s.take 32) key m));have hS:=Ed.on_mul good on_base (le (s.drop 32));have hS2:=Ed.on_mul good on_base (le (t.drop 32));exact mul_inj hl hl2 (add_right hS hS2 hN (encP_inj (Ed.on_add good hS hN) (Ed.on_add good hS2 hN) (he.trans he2.symm)))
theorem msg_core {a k1 k2 S : Nat} (ha : ¬ LL ∣ a) (h1 : k1 < LL) (h2 : k2 < LL) (h : Ed.add dd (Ed.mul dd S base) (Ed.neg (Ed.mul dd k1 (Ed.mul dd a base))) = Ed.add dd (Ed.mul dd S base) (Ed.neg (Ed.mul dd k2 (Ed.mul dd a base)))) : k1 = k2:=by
 have hK:=Ed.on_mul good on_base a;have hS:=Ed.on_mul good on_base S;have hN1:=Ed.on_mul good hK k1;have hN2:=Ed.on_mul good hK k2;rw [Ed.add_comm (Ed.mul dd S base),Ed.add_comm (Ed.mul dd S base)] at h;have h4:=add_right (Ed.on_neg hN1) (Ed.on_neg hN2) hS h;have h5:=congrArg Ed.neg h4;rw [Ed.neg_neg,Ed.neg_neg,Ed.mul_times good on_base,Ed.mul_times good on_base] at h5
 have key : ∀ {x y : Nat},x ≤ y → y < LL → Ed.mul dd (x * a) base = Ed.mul dd (y * a) base → x = y:=fun {x y} hxy hy h=>by
  rw [Ed.mul_mod good on_base order (x * a),Ed.mul_mod good on_base order (y * a)] at h;have h7:=mul_inj (mod_LL_lt _) (mod_LL_lt _) h
  have h8 : LL ∣ y * a - x * a:=by
   have h10:=Nat.div_add_mod (x * a) LL;have h11:=Nat.div_add_mod (y * a) LL;rw [← h7] at h11;refine ⟨y * a / LL - x * a / LL,?_⟩;rw [Nat.mul_sub];generalize LL * (y * a / LL) = u at *;generalize LL * (x * a / LL) = v at *
   omega
  rw [← Nat.sub_mul] at h8
  rcases prime_L.dvd_mul h8 with h9 | h9
  ·have:=Nat.eq_zero_of_dvd_of_lt h9 (by omega)
   omega
  ·exact absurd h9 ha
 rcases Nat.le_total k1 k2 with h6 | h6
 ·exact key h6 h2 h5
 ·exact (key h6 h1 h5.symm).symm
theorem right_msg {seed s m n : List UInt8} (hs : Right (sgKey seed) s m) (ht : Right (sgKey seed) s n) : sgK (s.take 32) (sgKey seed) m = sgK (s.take 32) (sgKey seed) n:=by
 obtain ⟨A,hA,hk,_,hl,he⟩:=hs;obtain ⟨B,hB,hk2,_,hl2,he2⟩:=ht;have hK:=Ed.on_mul good on_base (le (sgAB seed));have e1 : A = Ed.mul dd (le (sgAB seed)) base:=encP_inj hA hK hk;have e2 : B = Ed.mul dd (le (sgAB seed)) base:=encP_inj hB hK hk2;rw [e1] at he;rw [e2] at he2;have hS:=Ed.on_mul good on_base (le (s.drop 32));exact msg_core (key_ne seed) (mod_LL_lt _) (mod_LL_lt _) (encP_inj (Ed.on_add good hS (Ed.on_neg (Ed.on_mul good hK _))) (Ed.on_add good hS (Ed.on_neg (Ed.on_mul good hK _))) (he.trans he2.symm))
end Nums
/-
  THE PROGRAM'S SIGNATURES: number.
-/
namespace Go.Proofs.YtminmeljonbogaaDoor
open Go.RowKit Go.IntWalk Nums

theorem pt_none {w : World} {P : Option Addr} {ls : List (List UInt8)} (h : PT w P ls) (hP : P = none) : ls = []:=by
 cases ls with
 | nil=>rfl
 | cons l ls =>
  obtain ⟨ad,e,_⟩:=h (by simp);rw [hP] at e
  cases e
set_option maxRecDepth 100000 in
set_option maxHeartbeats 1000000 in
theorem number_f {v1 v2 : Value} {l1 l2 : List UInt8} {P : Option Addr} {ls : List (List UInt8)} {pc : Nat} (w : World) (hT : Tsh w) (h1 : SB w v1 l1) (h2 : SB w v2 l2) (hP : PT w P ls) (h0 : P = none → pc = 0) (hls : ls.length ≤ 1000000) :
  Calls Tryd.prog 29 #[v1,v2,.slice P ls.length pc] w fun e w'=>e = .returned (.agg (Us (ws (le (digest s512 (l1 ++ (l2 ++ ls.flatten))) % LL))).toArray) ∧ Below w.heap.size w w':=by
 refine calls_F (vs:=[v1,v2,.slice P ls.length pc]) 16 Tryd.func29 rfl (by rw [Tryd.ntmps29]; rfl) ?_;refine c_seq fun K hK=>?_;refine c_lit ?_;refine l_allocA z4 rfl rfl rfl rfl (by kernel_rfl) fun W1 g1 hw1 hg1 b1=>?_;refine l_nil ?_;refine hK _ _ ?_;clear hK K;replace h1:=h1.later hw1;replace h2:=h2.later hw1;replace hP:=hP.later hw1;replace hT:=hT.below hw1;have hU : Up w W1:=hw1
 have q1 : w.heap.size ≤ g1:=by rw [hg1]; exact Nat.le_refl _
 clear hw1;refine c_seq fun K hK=>?_;refine c_gF 4 ?_;refine g_op rfl ?_;refine f_move v1 rfl rfl rfl rfl rfl ?_;refine g_go ?_;refine g_op rfl ?_;refine f_move v2 rfl rfl rfl rfl rfl ?_;refine g_go ?_;refine g_slices [v1,v2] [l1,l2] W1.heap.size rfl rfl rfl rfl rfl rfl rfl (by decide) (by decide) (fun _ h=>h.size) (fun _ h _=>⟨h1.later h,h2.later h,trivial⟩) fun g2 _ _ _=>?_;refine g_op rfl ?_;refine f_move (.slice P ls.length pc) rfl rfl rfl rfl rfl ?_;refine g_go ?_;refine g_end fun W2 hw2 hF=>?_;have n2:=hF 2 _ rfl;clear hF;refine l_appS (vs:=[v1,v2]) (ls:=ls) (base:=W1.heap.size) rfl rfl rfl rfl rfl rfl (n2.gs (n:=2) rfl (by decide)) hw2 hP (fun e=>⟨h0 e,pt_none hP e⟩) (by simp; omega) hw2.size fun A' c' W3 us hus hgs hgr=>?_;have hU3 : Up W1 W3:=GS.grew (n2.gs (n:=2) rfl (by decide)) hw2 hgr hw2.size;have hall : All2 W3 ([v1,v2] ++ us) ([l1,l2] ++ ls):=All2.app ⟨h1.later hU3,h2.later hU3,trivial⟩ (All2.later hU3 hus);obtain ⟨hPT,hc1,hc2⟩:=hgs.pt hall;rw [hall.len];refine l_assign (.slice A' ([l1,l2] ++ ls).length c') rfl rfl rfl rfl rfl ?_;refine l_nil ?_;refine hK _ _ ?_;clear hK K;replace b1:=b1.later hU3;replace hT:=hT.below hU3;replace hU:=hU.step hU3;refine c_seq fun K hK=>?_;refine c_tF 3 ?_;refine f_move (.slice A' ([l1,l2] ++ ls).length c') rfl rfl rfl rfl rfl ?_;refine f_call #[.slice A' ([l1,l2] ++ ls).length c'] (.agg (By (digest s512 ([l1,l2] ++ ls).flatten)).toArray) rfl rfl rfl own_sum512 (fun w1 h=>sum512_f A' ([l1,l2] ++ ls) c' w1 (hT.below h) (hPT.later h) hc1 hc2) rfl rfl ?_;refine f_call #[.agg (By (digest s512 ([l1,l2] ++ ls).flatten)).toArray] (.agg (Us (ws (le (digest s512 ([l1,l2] ++ ls).flatten) % LL))).toArray) rfl rfl rfl own_wide (fun w1 _=>wide_f (digest512_len _) w1) rfl rfl ?_;refine f_set g1 _ (Us (ws (le (digest s512 ([l1,l2] ++ ls).flatten) % LL))).toArray rfl rfl rfl rfl rfl b1 (size_S _) (by rw [us_size (ws_len _)]; rfl) (Us_oneA _) fun w4 hw4 c4=>?_;refine l_nil ?_;refine hK _ _ ?_;clear hK K;refine c_ret (k_ret_row g1 _ rfl rfl c4 Tryd.underlying59 rfl (size_S _) ⟨?_,up_row (hU.step hw4) q1 _⟩)
 rfl
end Go.Proofs.YtminmeljonbogaaDoor
/-
  THE PROGRAM'S SIGNATURES: spread, based, Public.
-/
namespace Go.Proofs.YtminmeljonbogaaDoor
open Go.RowKit Go.IntWalk Nums

theorem own_spread : Own 27:=fun _ _=>by go_simp
theorem own_based : Own 28:=fun _ _=>by go_simp
theorem own_number : Own 29:=fun _ _=>by go_simp
theorem own_public : Own 9:=fun _ _=>by go_simp

/-! ### Plain -/
theorem and248 (m : Nat) (h : m < 256) : bits .and .u8 (m : Int) 248 = ((m / 8 * 8 : Nat) : Int):=by
 have key : ∀ m : Nat,m < 256 → bits .and .u8 (m : Int) 248 = ((m / 8 * 8 : Nat) : Int):=by decide +kernel
 exact key m h
theorem or64 (m : Nat) (h : m < 256) : bits .or .u8 ((m % 128 : Nat) : Int) 64 = ((m % 64 + 64 : Nat) : Int):=by
 have key : ∀ m : Nat,m < 256 → bits .or .u8 ((m % 128 : Nat) : Int) 64 = ((m % 64 + 64 : Nat) : Int):=by decide +kernel
 exact key m h
theorem cop_set {d : List UInt8} (h : d.length = 32) {k : Nat} (hk : k < 32) (x : UInt8) : (cop z64 0 d).set k x = cop z64 0 (d.set k x):=by
 simp only [cop,h,List.length_set,List.take_zero,List.nil_append];rw [List.set_append_left _ _ (by omega)]
theorem cop_get {d : List UInt8} (h : d.length = 32) {k : Nat} (hk : k < 32) : (cop z64 0 d)[k]! = d[k]!:=by
 simp only [cop,List.take_zero,List.nil_append];rw [getElem!_pos _ k (by rw [List.length_append]; omega),getElem!_pos _ k (by omega),List.getElem_append_left]

set_option maxRecDepth 100000 in
set_option maxHeartbeats 2000000 in
theorem spread_f {seed : List UInt8} (hs : seed.length = 32) (w : World) (hT : Tsh w) :
  Calls Tryd.prog 27 #[.agg (By seed).toArray] w fun e w'=>e = .returned (.tuple #[.agg (Us (ws (le (sgAB seed) % LL))).toArray,.agg (By (sgPre seed)).toArray]) ∧ Below w.heap.size w w':=by
 have hD:=sgD_len seed
 have hd32 : ((sgD seed).take 32).length = 32:=by rw [List.length_take,hD]; rfl
 refine calls_F (vs:=[.agg (By seed).toArray]) 26 Tryd.func27 rfl (by rw [Tryd.ntmps27]; rfl) ?_;refine c_seq fun K hK=>?_;refine c_lit ?_;refine l_boxA (By seed).toArray rfl rfl rfl rfl rfl fun W1 g1 hw1 hg1 b1=>?_;refine l_allocA z4 rfl rfl rfl rfl (by kernel_rfl) fun W2 g2 hw2 hg2 b2=>?_;refine l_allocA z32 rfl rfl rfl rfl (by kernel_rfl) fun W3 g3 hw3 hg3 b3=>?_;refine l_nil ?_;refine hK _ _ ?_;clear hK K;have l1:=b1.lt;have l2:=b2.lt;have l3:=b3.lt;have s1:=hw1.size;have s2:=hw2.size
 have n12 : g1 ≠ g2:=by omega
 have n23 : g2 ≠ g3:=by omega
 have n13 : g1 ≠ g3:=by omega
 have q2 : w.heap.size ≤ g2:=by omega
 have q3 : w.heap.size ≤ g3:=by omega
 replace b1:=(b1.later hw2).later hw3;replace b2:=b2.later hw3;have hU : Up w W3:=(hw1.step hw2).step hw3;replace hT:=hT.below hU;clear hw1 hw2 hw3 hg1 hg2 hg3 l1 l2 l3 s1 s2;refine c_seq fun K hK=>?_;refine c_gF 4 ?_;refine g_op rfl ?_;refine f_slice32 g1 rfl rfl rfl rfl rfl ?_;refine g_go ?_;refine g_slices [.slice (some ⟨g1,0,none⟩) 32 32] [seed] W3.heap.size rfl rfl rfl rfl rfl rfl rfl (by decide) (by decide) (fun _ h=>h.size) (fun _ h _=>⟨SB.all (b1.later h) hs (by decide),trivial⟩) fun gs _ _ _=>?_;refine g_op rfl ?_
 refine f_call #[.slice (some ⟨gs,0,none⟩) 1 1] (.agg (By (sgD seed)).toArray) rfl rfl rfl own_sum512 (fun w1 h=>by
  have:=sum512_f (some ⟨gs,0,none⟩) [seed] 1 w1 (hT.below h.1) (h.2 1 _ rfl (by kernel_rfl) : NewS _ _ _ _ _).pt (Nat.le_refl _) (by decide)
  rwa [show [seed].flatten = seed from by simp] at this) rfl rfl ?_
 refine g_go ?_;refine g_alloc (By z64).toArray W3.heap.size rfl rfl rfl rfl rfl zero64 (fun _ h=>h.size) (fun g w w' h hr=>⟨h.1,h.2.later hr⟩) fun g4 w4 _ hg4 _=>?_;refine g_end fun W4 hw4 hF=>?_;have b4:=(hF 3 _ rfl).2;clear hF
 have n14 : g1 ≠ g4:=by have:=b1.lt; omega
 have n24 : g2 ≠ g4:=by have:=b2.lt; omega
 have n34 : g3 ≠ g4:=by have:=b3.lt; omega
 have q4 : w.heap.size ≤ g4:=Nat.le_trans hU.size hg4;refine l_set g4 _ (By (sgD seed)).toArray rfl rfl rfl rfl rfl b4 (size_64 hD) (by rw [List.size_toArray,List.size_toArray,By_len,By_len,hD]; rfl) (By_oneA _) ?_;refine l_nil ?_;refine hK _ _ ?_;clear hK K;replace b2:=(b2.later hw4).rowFar n24 (By (sgD seed)).toArray;replace b3:=(b3.later hw4).rowFar n34 (By (sgD seed)).toArray;replace b4:=b4.row (By (sgD seed)).toArray;replace hU:=up_row (hU.step hw4) q4 (By (sgD seed)).toArray;clear hT b1 n12 n13 n14 hg4 hw4;generalize W4.setRow g4 (By (sgD seed)).toArray = W5 at *;refine c_seq fun K hK=>?_;refine c_lit ?_;refine l_allocA (By z64).toArray rfl rfl rfl rfl zero64 fun W6 g5 hw6 hg5 b5=>?_;refine l_nil ?_;refine hK _ _ ?_;clear hK K
 have n25 : g2 ≠ g5:=by have:=b2.lt; omega
 have n35 : g3 ≠ g5:=by have:=b3.lt; omega
 have n45 : g4 ≠ g5:=by have:=b4.lt; omega
 have q5 : w.heap.size ≤ g5:=by rw [hg5]; exact hU.size
 replace b2:=b2.later hw6;replace b3:=b3.later hw6;replace b4:=b4.later hw6;replace hU:=hU.step hw6;clear hw6 hg5
 -- the number's bytes
 refine c_seq fun K hK=>?_;refine c_g 2 (by decide) (by kernel_rfl) (by kernel_rfl) ?_;refine g_op rfl ?_;refine f_slice64l g5 rfl rfl rfl rfl rfl ?_;refine g_go ?_;refine g_op rfl ?_;refine f_slice64l g4 rfl rfl rfl rfl rfl ?_;refine g_go ?_;refine g_end fun W7 hw7 _=>?_;replace b2:=b2.later hw7;replace b3:=b3.later hw7;replace b4:=b4.later hw7;replace b5:=b5.later hw7;replace hU:=hU.step hw7;refine l_copy g5 0 32 64 _ z64 ((sgD seed).take 32) (.slice (some ⟨g4,0,none⟩) 32 64) rfl rfl rfl rfl rfl rfl b5 (SB.arr b4 (by rw [List.drop_zero]) hd32 (by decide) (by decide)) (by rw [hd32]; decide) (by rw [hd32]; exact Nat.le_refl _) (by rw [hd32]; decide) fun b5=>?_;replace b2:=b2.rowFar n25 (By (cop z64 0 ((sgD seed).take 32))).toArray;replace b3:=b3.rowFar n35 (By (cop z64 0 ((sgD seed).take 32))).toArray;replace b4:=b4.rowFar n45 (By (cop z64 0 ((sgD seed).take 32))).toArray;replace hU:=up_row hU q5 (By (cop z64 0 ((sgD seed).take 32))).toArray;generalize W7.setRow g5 (By (cop z64 0 ((sgD seed).take 32))).toArray = W8 at *;refine l_nil ?_;refine hK _ _ ?_;clear hK K hw7;obtain ⟨d,hd⟩ : ∃ d,d = (sgD seed).take 32:=⟨_,rfl⟩;rw [← hd] at b5 hd32;have x0:=(d[0]!).toNat_lt;have c0:=(b5.cell 0).trans (By_get (l:=cop z64 0 d) (j:=0) (by rw [cop_len64 hd32]; decide));rw [cop_get hd32 (by decide)] at c0
 have e0 : ((UInt8.ofNat ((d[0]!).toNat / 8 * 8)).toNat : Int) = (((d[0]!).toNat / 8 * 8 : Nat) : Int):=by rw [ofNat_toNat (by omega)]
 refine c_seq fun K hK=>?_;refine c_tF 4 ?_;refine f_ix _ 0 ⟨g5,0,none⟩ rfl rfl rfl rfl rfl rfl (ix64 _ 0 (by decide)) ?_;refine f_load ⟨g5,0,none⟩ (.int .u8 ((d[0]!).toNat : Int)) (by decide) rfl rfl rfl rfl rfl (fun _ h1=>(h1.cell b5.lt).trans c0) ?_;refine f_andB _ 248 (((d[0]!).toNat / 8 * 8 : Nat) : Int) rfl rfl rfl rfl rfl rfl (and248 _ x0) ?_;refine f_ix _ 0 ⟨g5,0,none⟩ rfl rfl rfl rfl rfl rfl (ix64 _ 0 (by decide)) ?_;refine f_store ⟨g5,0,none⟩ (((d[0]!).toNat / 8 * 8 : Nat) : Int) _ (.inr ⟨rfl,rfl⟩) rfl rfl rfl rfl rfl c0 (b5.free 0) b5.lt fun w9 hw9=>?_;replace b2:=(b2.later hw9).far (p:=⟨g5,0,none⟩) n25 (.int .u8 (((d[0]!).toNat / 8 * 8 : Nat) : Int));replace b3:=(b3.later hw9).far (p:=⟨g5,0,none⟩) n35 (.int .u8 (((d[0]!).toNat / 8 * 8 : Nat) : Int));replace b4:=(b4.later hw9).far (p:=⟨g5,0,none⟩) n45 (.int .u8 (((d[0]!).toNat / 8 * 8 : Nat) : Int));replace b5:=(b5.later hw9).set 0 (.int .u8 (((d[0]!).toNat / 8 * 8 : Nat) : Int));replace hU : Up w _:=(hU.step hw9).setCell (p:=⟨g5,0,none⟩) q5 (.int .u8 (((d[0]!).toNat / 8 * 8 : Nat) : Int));rw [← e0,By_set,cop_set hd32 (by decide)] at b5;rw [← e0] at b2 b3 b4 hU ⊢;have e1 : d.set 0 (UInt8.ofNat ((d[0]!).toNat / 8 * 8)) = lowB d:=rfl;rw [e1] at b5;generalize w9.setCell ⟨g5,0,none⟩ (.int .u8 ((UInt8.ofNat ((d[0]!).toNat / 8 * 8)).toNat : Int)) = W9 at *;refine hK _ _ ?_;clear hK K hw9 c0 x0 e0 e1
 have hl32 : (lowB d).length = 32:=by rw [lowB_len,hd32]
 have x1:=((lowB d)[31]!).toNat_lt;have c1:=(b5.cell 31).trans (By_get (l:=cop z64 0 (lowB d)) (j:=31) (by rw [cop_len64 hl32]; decide));rw [cop_get hl32 (by decide)] at c1
 have e0 : ((UInt8.ofNat (((lowB d)[31]!).toNat % 64 + 64)).toNat : Int) = ((((lowB d)[31]!).toNat % 64 + 64 : Nat) : Int):=by rw [ofNat_toNat (by omega)]
 refine c_seq fun K hK=>?_;refine c_tF 5 ?_;refine f_ix _ 31 ⟨g5,31,none⟩ rfl rfl rfl rfl rfl rfl (ix64 _ 31 (by decide)) ?_;refine f_load ⟨g5,31,none⟩ (.int .u8 (((lowB d)[31]!).toNat : Int)) (by decide) rfl rfl rfl rfl rfl (fun _ h1=>(h1.cell b5.lt).trans c1) ?_;refine f_andB _ 127 ((((lowB d)[31]!).toNat % 128 : Nat) : Int) rfl rfl rfl rfl rfl rfl (low7 _ x1) ?_;refine f_orB _ 64 ((((lowB d)[31]!).toNat % 64 + 64 : Nat) : Int) rfl rfl rfl rfl rfl rfl (or64 _ x1) ?_;refine f_ix _ 31 ⟨g5,31,none⟩ rfl rfl rfl rfl rfl rfl (ix64 _ 31 (by decide)) ?_;refine f_store ⟨g5,31,none⟩ ((((lowB d)[31]!).toNat % 64 + 64 : Nat) : Int) _ (.inr ⟨rfl,rfl⟩) rfl rfl rfl rfl rfl c1 (b5.free 31) b5.lt fun w9 hw9=>?_;replace b2:=(b2.later hw9).far (p:=⟨g5,31,none⟩) n25 (.int .u8 ((((lowB d)[31]!).toNat % 64 + 64 : Nat) : Int));replace b3:=(b3.later hw9).far (p:=⟨g5,31,none⟩) n35 (.int .u8 ((((lowB d)[31]!).toNat % 64 + 64 : Nat) : Int));replace b4:=(b4.later hw9).far (p:=⟨g5,31,none⟩) n45 (.int .u8 ((((lowB d)[31]!).toNat % 64 + 64 : Nat) : Int));replace b5:=(b5.later hw9).set 31 (.int .u8 ((((lowB d)[31]!).toNat % 64 + 64 : Nat) : Int));replace hU : Up w _:=(hU.step hw9).setCell (p:=⟨g5,31,none⟩) q5 (.int .u8 ((((lowB d)[31]!).toNat % 64 + 64 : Nat) : Int));rw [← e0,By_set,cop_set hl32 (by decide)] at b5;rw [← e0] at b2 b3 b4 hU ⊢
 have e1 : (lowB d).set 31 (UInt8.ofNat (((lowB d)[31]!).toNat % 64 + 64)) = sgAB seed:=by rw [hd]; rfl
 rw [e1] at b5;generalize w9.setCell ⟨g5,31,none⟩ (.int .u8 ((UInt8.ofNat (((lowB d)[31]!).toNat % 64 + 64)).toNat : Int)) = W10 at *;refine k_sub (E':=[(2,.pointer (some ⟨g2,0,none⟩)),(3,.pointer (some ⟨g3,0,none⟩)),(4,.pointer (some ⟨g4,0,none⟩)),(5,.pointer (some ⟨g5,0,none⟩))]) ⟨rfl,rfl,rfl,rfl,trivial⟩ ?_;refine hK _ _ ?_;clear hK K hw9 c1 x1 e0 e1 hl32 hd hd32 d;have hA:=sgAB_len seed;have hle:=le_cop hA;have hlen:=cop_len64 hA;have hpl:=sgPre_len seed
 -- what is handed back
 refine c_seq fun K hK=>?_;refine c_gR (Rel:=KeepG g2 59 (Us (ws (le (sgAB seed) % LL))).toArray) (C0:=KeepG g2 59 (Us (ws (le (sgAB seed) % LL))).toArray W10) 6 (fun _ _ h k=>h.trans k) (KeepG.of (Up.drew W10)) (by decide) (by kernel_rfl) (by kernel_rfl) ?_;refine g_op rfl ?_;refine f_b64 g5 hlen rfl rfl rfl rfl rfl (fun _ h=>(h.1.far b5 n25.symm).range) ?_;refine g_go ?_;refine g_op rfl ?_
 refine f_call #[.agg (By (cop z64 0 (sgAB seed))).toArray] (.agg (Us (ws (le (sgAB seed) % LL))).toArray) rfl rfl rfl own_wide (fun w1 _=>by
  have:=wide_f hlen w1
  rwa [hle] at this) rfl rfl ?_
 refine g_go ?_;refine g_op rfl ?_;refine f_slice64h g4 rfl rfl rfl rfl rfl ?_;refine g_go ?_;refine g_op rfl ?_;refine f_arrp (some ⟨g4,32,none⟩) 32 rfl rfl rfl rfl rfl ?_;refine g_go ?_;refine g_op rfl ?_
 refine f_by g4 32 hpl rfl rfl rfl rfl rfl (fun _ h=>by
  have:=(h.1.far b4 n24.symm).part 32 32
  have e : ((By (sgD seed)).drop 32).take 32 = By (sgPre seed):=by
   rw [sgPre,By,By,← List.map_drop,← List.map_take,List.take_of_length_le (by rw [List.length_drop,hD]; decide)]
  rwa [e] at this) ?_
 refine g_go ?_;refine g_store g2 (Us (ws (le (sgAB seed) % LL))).toArray rfl rfl rfl rfl rfl rfl (size_S _) (Us_oneA _) (fun w1 h=>?_) (fun w1 w2 h hr=>hr.self h) ?_
 ·rcases h.here b2.lt with h1 | h1
  ·exact ⟨_,h1.trans b2,by rw [us_size (ws_len _)]; rfl,KeepG.set (h1.trans b2)⟩
  ·exact ⟨_,h1,rfl,KeepG.set h1⟩
 refine g_end fun W11 hw11 hF=>?_;have d2 : Blk W11 g2 59 (Us (ws (le (sgAB seed) % LL))).toArray:=hF 5 _ rfl;have d3:=hw11.far b3 n23.symm;refine l_set g3 _ (By (sgPre seed)).toArray rfl rfl rfl rfl rfl d3 (size_H hpl) (by rw [len_by hpl]; rfl) (By_oneA _) ?_;refine l_nil ?_;refine hK _ _ ?_;clear hK K;have r2:=d2.rowFar n23 (By (sgPre seed)).toArray;have r3:=d3.row (By (sgPre seed)).toArray;have r:=up_row (hw11.up hU q2) q3 (By (sgPre seed)).toArray;refine c_ret fun a ha=>?_;exact bodyPost_ret (results_cells rfl _ _ g2 g3 _ _ _ _ (0,0) (0,0) _ _ (ha.at rfl) (ha.at rfl) r2 r3 Tryd.underlying59 rfl (size_S _) Tryd.underlying22 rfl (size_H hpl)) ha.defers ⟨rfl,r⟩

set_option maxRecDepth 100000 in
set_option maxHeartbeats 1000000 in
theorem based_f {n : Nat} (hn : n < LL) (w : World) (hT : Tw w) :
  Calls Tryd.prog 28 #[.agg (Us (ws n)).toArray] w fun e w'=>e = .returned (.agg (By (encP (Ed.mul dd n base))).toArray) ∧ Below w.heap.size w w':=by
 have hb:=bytes_len 32 n;have hle:=le_bytesL hn;refine calls_F (vs:=[.agg (Us (ws n)).toArray]) 8 Tryd.func28 rfl (by rw [Tryd.ntmps28]; rfl) ?_;refine c_seq fun K hK=>?_;refine c_lit ?_;refine l_boxA (Us (ws n)).toArray rfl rfl rfl rfl rfl fun W1 g1 hw1 hg1 b1=>?_;refine l_allocA z32 rfl rfl rfl rfl (by kernel_rfl) fun W2 g2 hw2 hg2 b2=>?_;refine l_nil ?_;refine hK _ _ ?_;clear hK K;replace b1:=b1.later hw2;have hU : Up w W2:=hw1.step hw2;replace hT:=hT.below hU
 have q2 : w.heap.size ≤ g2:=by rw [hg2]; exact hw1.size
 clear hw1 hw2 hg1 hg2;refine c_seq fun K hK=>?_;refine c_t 5 (by decide) (by kernel_rfl) (tail_ok (by kernel_rfl)) (fun _ _ d _ _ h=>by cases d <;> exact h) ?_;refine f_us #[] (QB · base) rfl rfl rfl own_cbase (fun w1 _=>cbase_f w1) rfl rfl fun r3 v3=>?_;refine f_sc g1 n rfl rfl rfl rfl rfl (fun _ h1=>(h1.blk b1).range) ?_;refine f_call #[.agg (Us (ws n)).toArray] (.agg (By (Nums.bytes 32 n)).toArray) rfl rfl rfl own_schash (fun w1 _=>schash_f n w1) rfl rfl ?_
 refine f_us #[.agg (Us r3).toArray,.agg (By (Nums.bytes 32 n)).toArray] (PB · (Ed.mul dd n base)) rfl rfl rfl own_cmul (fun w1 h1=>by
  have:=cmul_f (.inr v3) hb w1 (hT.below h1)
  rwa [hle] at this) rfl rfl fun r6 v6=>?_
 refine f_call #[.agg (Us r6).toArray] (.agg (By (encP (Ed.mul dd n base))).toArray) rfl rfl rfl own_chash (fun w1 h1=>chash_f v6 w1 (hT.below h1)) rfl rfl ?_;refine f_set g2 _ (By (encP (Ed.mul dd n base))).toArray rfl rfl rfl rfl rfl b2 (size_H (encP_len _)) (by rw [len_by (encP_len _)]; rfl) (By_oneA _) fun w4 hw4 c4=>?_;refine l_nil ?_;refine hK _ _ ?_;clear hK K;exact c_ret (k_ret_row g2 _ rfl rfl c4 Tryd.underlying22 rfl (size_H (encP_len _)) ⟨rfl,up_row (hU.step hw4) q2 _⟩)

structure Ta (w : World) : Prop where
  tw : Tw w
  sh : Tsh w
theorem Ta.below {w w' : World} (h : Ta w) (hb : Below w.heap.size w w') : Ta w':=⟨h.tw.below hb,h.sh.below hb⟩
theorem mul_a (seed : List UInt8) : encP (Ed.mul dd (le (sgAB seed) % LL) base) = sgKey seed:=by rw [mul_ll]; rfl

set_option maxRecDepth 100000 in
set_option maxHeartbeats 2000000 in
theorem public_f {seed : List UInt8} (hs : seed.length = 32) (w : World) (hT : Ta w) :
  Calls Tryd.prog 9 #[.agg (By seed).toArray] w fun e w'=>e = .returned (.agg (By (sgKey seed)).toArray) ∧ Below w.heap.size w w':=by
 refine calls_F (vs:=[.agg (By seed).toArray]) 12 Tryd.func9 rfl (by rw [Tryd.ntmps9]; rfl) ?_;have hU:=Up.refl w;refine c_seq fun K hK=>?_;refine c_lit ?_;refine l_boxA ((By seed).toArray) rfl rfl rfl rfl rfl fun W1 g1 hw1 hg1 b1=>?_;replace hU:=hU.step hw1;clear hw1 hg1;refine l_allocA z32 rfl rfl rfl rfl (by kernel_rfl) fun W2 g2 hw2 hg2 b2=>?_
 have q2 : w.heap.size ≤ g2:=by rw [hg2]; exact hU.size
 replace b1:=b1.later hw2;replace hU:=hU.step hw2;clear hw2 hg2;refine l_nil ?_;refine hK _ _ ?_;clear hK K;refine c_seq fun K hK=>?_;refine c_gF 5 ?_;refine g_op rfl ?_;refine f_by g1 0 hs rfl rfl rfl rfl rfl (fun _ h1=>(h1.1.blk b1).range) ?_;refine g_go ?_;refine g_op rfl ?_;refine f_call #[.agg (By seed).toArray] (.tuple #[.agg (Us (ws (le (sgAB seed) % LL))).toArray,.agg (By (sgPre seed)).toArray]) rfl rfl rfl own_spread (fun w1 h1=>spread_f hs w1 (hT.below (hU.step h1.1)).sh) rfl rfl ?_;refine g_go ?_;refine g_op rfl ?_;refine f_move (.tuple #[.agg (Us (ws (le (sgAB seed) % LL))).toArray,.agg (By (sgPre seed)).toArray]) rfl rfl rfl rfl rfl ?_;refine g_go ?_;refine g_op rfl ?_;refine f_extract (.agg (Us (ws (le (sgAB seed) % LL))).toArray) rfl rfl rfl rfl rfl rfl ?_;refine g_go ?_;refine g_op rfl ?_;refine f_extract (.agg (By (sgPre seed)).toArray) rfl rfl rfl rfl rfl rfl ?_;refine g_go ?_;refine g_end fun W3 hw3 hF3=>?_;clear hF3;replace b2:=b2.later hw3;replace hU:=hU.step hw3;clear hw3;refine l_allocA z4 rfl rfl rfl rfl (by kernel_rfl) fun W4 g4 hw4 hg4 b4=>?_
 have n2_4 : g2 ≠ g4:=by have:=b2.lt; omega
 have q4 : w.heap.size ≤ g4:=by rw [hg4]; exact hU.size
 replace b2:=b2.later hw4;replace hU:=hU.step hw4;clear hw4 hg4;refine l_allocA z32 rfl rfl rfl rfl (by kernel_rfl) fun W5 g5 hw5 hg5 b5=>?_
 have n2_5 : g2 ≠ g5:=by have:=b2.lt; omega
 have n4_5 : g4 ≠ g5:=by have:=b4.lt; omega
 have q5 : w.heap.size ≤ g5:=by rw [hg5]; exact hU.size
 replace b2:=b2.later hw5;replace b4:=b4.later hw5;replace hU:=hU.step hw5;clear hw5 hg5;refine l_set g4 _ ((Us (ws (le (sgAB seed) % LL))).toArray) rfl rfl rfl rfl rfl b4 (size_S _) (by rw [us_size (ws_len _)]; rfl) (Us_oneA _) ?_;replace b2:=b2.rowFar n2_4 ((Us (ws (le (sgAB seed) % LL))).toArray);replace b5:=b5.rowFar n4_5.symm ((Us (ws (le (sgAB seed) % LL))).toArray);replace b4:=b4.row ((Us (ws (le (sgAB seed) % LL))).toArray);replace hU:=up_row hU q4 ((Us (ws (le (sgAB seed) % LL))).toArray);generalize World.setRow _ g4 ((Us (ws (le (sgAB seed) % LL))).toArray) = W6 at *;refine l_set g5 _ ((By (sgPre seed)).toArray) rfl rfl rfl rfl rfl b5 (size_H ((sgPre_len seed))) (by rw [len_by ((sgPre_len seed))]; rfl) (By_oneA _) ?_;replace b2:=b2.rowFar n2_5 ((By (sgPre seed)).toArray);replace b4:=b4.rowFar n4_5 ((By (sgPre seed)).toArray);replace hU:=up_row hU q5 ((By (sgPre seed)).toArray);generalize World.setRow _ g5 ((By (sgPre seed)).toArray) = W7 at *;refine l_nil ?_;refine hK _ _ ?_;clear hK K;refine c_seq fun K hK=>?_;refine c_gF 2 ?_;refine g_op rfl ?_;refine f_sc g4 (le (sgAB seed) % LL) rfl rfl rfl rfl rfl (fun _ h1=>(h1.1.blk b4).range) ?_;refine g_go ?_;refine g_op rfl ?_
 refine f_call #[.agg (Us (ws (le (sgAB seed) % LL))).toArray] (.agg (By (sgKey seed)).toArray) rfl rfl rfl own_based (fun w1 h1=>by
   have:=based_f (ll_mod (le (sgAB seed))) w1 (hT.below (hU.step h1.1)).tw
   rwa [mul_a] at this) rfl rfl ?_
 refine g_go ?_;refine g_end fun W8 hw8 hF8=>?_;clear hF8;replace b2:=b2.later hw8;replace hU:=hU.step hw8;clear hw8;refine l_set g2 _ ((By (sgKey seed)).toArray) rfl rfl rfl rfl rfl b2 (size_H ((sgKey_len _))) (by rw [len_by ((sgKey_len _))]; rfl) (By_oneA _) ?_;replace b2:=b2.row ((By (sgKey seed)).toArray);replace hU:=up_row hU q2 ((By (sgKey seed)).toArray);generalize World.setRow _ g2 ((By (sgKey seed)).toArray) = W9 at *;refine l_nil ?_;refine hK _ _ ?_;clear hK K;exact c_ret (k_ret_row g2 _ rfl rfl b2 Tryd.underlying22 rfl (size_H ((sgKey_len _))) ⟨rfl,hU⟩)
end Go.Proofs.YtminmeljonbogaaDoor
/-
  THE PROGRAM'S SIGNATURES: Sign.
-/
namespace Go.Proofs.YtminmeljonbogaaDoor
open Go.RowKit Go.IntWalk Nums

theorem own_sign : Own 10:=fun _ _=>by go_simp
theorem sgR_eq {seed m : List UInt8} : le (digest s512 (sgPre seed ++ ([] ++ m))) % LL = sgR seed m:=rfl
theorem sgR_lt (seed m : List UInt8) : sgR seed m < LL:=mod_LL_lt _
theorem sgRB_eq {seed m : List UInt8} : encP (Ed.mul dd (sgR seed m) base) = sgRB seed m:=rfl
theorem sgK_eq {R key m : List UInt8} : le (digest s512 (R ++ (key ++ m))) % LL = sgK R key m:=rfl
theorem sgK_lt (R key m : List UInt8) : sgK R key m < LL:=mod_LL_lt _
theorem sgS_eq {seed m : List UInt8} : (sgR seed m + sgK (sgRB seed m) (sgKey seed) m * (le (sgAB seed) % LL) % LL) % LL = sgS seed m:=by
 rw [sgS,Nat.mul_mod_mod,Nat.add_mod_mod]
theorem sig_cop {seed m : List UInt8} : cop (cop z64 0 (sgRB seed m)) 32 (Nums.bytes 32 (sgS seed m)) = sgSig seed m:=by
 have h1:=sgRB_len seed m;have h2:=bytes_len 32 (sgS seed m)
 have e : cop z64 0 (sgRB seed m) = sgRB seed m ++ List.replicate 32 0:=by
  rw [cop,h1]
  simp [z64]
 rw [e,cop,h2,List.take_append_of_le_length (by rw [h1]; exact Nat.le_refl _),List.take_of_length_le (by rw [h1]; exact Nat.le_refl _),List.drop_of_length_le (by rw [List.length_append,h1,List.length_replicate]; exact Nat.le_refl _),List.append_nil]
 rfl

set_option maxRecDepth 100000 in
set_option maxHeartbeats 2000000 in
theorem sign_f {seed : List UInt8} {P : Option Addr} {ls : List (List UInt8)} {pc : Nat} (hs : seed.length = 32) (w : World) (hT : Ta w) (hP : PT w P ls) (h0 : P = none → pc = 0) (hls : ls.length ≤ 1000000) :
  Calls Tryd.prog 10 #[.agg (By seed).toArray,.slice P ls.length pc] w fun e w'=>e = .returned (.agg (By (sgSig seed ls.flatten)).toArray) ∧ Below w.heap.size w w':=by
 refine calls_F (vs:=[.agg (By seed).toArray,.slice P ls.length pc]) 42 Tryd.func10 rfl (by rw [Tryd.ntmps10]; rfl) ?_;have hU:=Up.refl w;refine c_seq fun K hK=>?_;refine c_lit ?_;refine l_boxA ((By seed).toArray) rfl rfl rfl rfl rfl fun W1 g1 hw1 hg1 b1=>?_;replace hU:=hU.step hw1;clear hw1 hg1;refine l_allocA ((By z64).toArray) rfl rfl rfl rfl zero64 fun W2 g2 hw2 hg2 b2=>?_
 have q2 : w.heap.size ≤ g2:=by rw [hg2]; exact hU.size
 replace b1:=b1.later hw2;replace hU:=hU.step hw2;clear hw2 hg2;refine l_nil ?_;refine hK _ _ ?_;clear hK K;refine c_seq fun K hK=>?_;refine c_gF 5 ?_;refine g_op rfl ?_;refine f_by g1 0 hs rfl rfl rfl rfl rfl (fun _ h1=>(h1.1.blk b1).range) ?_;refine g_go ?_;refine g_op rfl ?_;refine f_call #[.agg (By seed).toArray] (.tuple #[.agg (Us (ws (le (sgAB seed) % LL))).toArray,.agg (By (sgPre seed)).toArray]) rfl rfl rfl own_spread (fun w1 h1=>spread_f hs w1 (hT.below (hU.step h1.1)).sh) rfl rfl ?_;refine g_go ?_;refine g_op rfl ?_;refine f_move (.tuple #[.agg (Us (ws (le (sgAB seed) % LL))).toArray,.agg (By (sgPre seed)).toArray]) rfl rfl rfl rfl rfl ?_;refine g_go ?_;refine g_op rfl ?_;refine f_extract (.agg (Us (ws (le (sgAB seed) % LL))).toArray) rfl rfl rfl rfl rfl rfl ?_;refine g_go ?_;refine g_op rfl ?_;refine f_extract (.agg (By (sgPre seed)).toArray) rfl rfl rfl rfl rfl rfl ?_;refine g_go ?_;refine g_end fun W3 hw3 hF3=>?_;clear hF3;replace b1:=b1.later hw3;replace b2:=b2.later hw3;replace hU:=hU.step hw3;clear hw3;refine l_allocA z4 rfl rfl rfl rfl (by kernel_rfl) fun W4 g4 hw4 hg4 b4=>?_
 have n1_4 : g1 ≠ g4:=by have:=b1.lt; omega
 have n2_4 : g2 ≠ g4:=by have:=b2.lt; omega
 have q4 : w.heap.size ≤ g4:=by rw [hg4]; exact hU.size
 replace b1:=b1.later hw4;replace b2:=b2.later hw4;replace hU:=hU.step hw4;clear hw4 hg4;refine l_allocA z32 rfl rfl rfl rfl (by kernel_rfl) fun W5 g5 hw5 hg5 b5=>?_
 have n1_5 : g1 ≠ g5:=by have:=b1.lt; omega
 have n2_5 : g2 ≠ g5:=by have:=b2.lt; omega
 have n4_5 : g4 ≠ g5:=by have:=b4.lt; omega
 have q5 : w.heap.size ≤ g5:=by rw [hg5]; exact hU.size
 replace b1:=b1.later hw5;replace b2:=b2.later hw5;replace b4:=b4.later hw5;replace hU:=hU.step hw5;clear hw5 hg5;refine l_set g4 _ ((Us (ws (le (sgAB seed) % LL))).toArray) rfl rfl rfl rfl rfl b4 (size_S _) (by rw [us_size (ws_len _)]; rfl) (Us_oneA _) ?_;replace b1:=b1.rowFar n1_4 ((Us (ws (le (sgAB seed) % LL))).toArray);replace b2:=b2.rowFar n2_4 ((Us (ws (le (sgAB seed) % LL))).toArray);replace b5:=b5.rowFar n4_5.symm ((Us (ws (le (sgAB seed) % LL))).toArray);replace b4:=b4.row ((Us (ws (le (sgAB seed) % LL))).toArray);replace hU:=up_row hU q4 ((Us (ws (le (sgAB seed) % LL))).toArray);generalize World.setRow _ g4 ((Us (ws (le (sgAB seed) % LL))).toArray) = W6 at *;refine l_set g5 _ ((By (sgPre seed)).toArray) rfl rfl rfl rfl rfl b5 (size_H ((sgPre_len seed))) (by rw [len_by ((sgPre_len seed))]; rfl) (By_oneA _) ?_;replace b1:=b1.rowFar n1_5 ((By (sgPre seed)).toArray);replace b2:=b2.rowFar n2_5 ((By (sgPre seed)).toArray);replace b4:=b4.rowFar n4_5 ((By (sgPre seed)).toArray);replace b5:=b5.row ((By (sgPre seed)).toArray);replace hU:=up_row hU q5 ((By (sgPre seed)).toArray);generalize World.setRow _ g5 ((By (sgPre seed)).toArray) = W7 at *;refine l_nil ?_;refine hK _ _ ?_;clear hK K;refine c_seq fun K hK=>?_;refine c_gF 3 ?_;refine g_op rfl ?_;refine f_slice32 g5 rfl rfl rfl rfl rfl ?_;refine g_go ?_;refine g_op rfl ?_;refine f_move (.slice P ls.length pc) rfl rfl rfl rfl rfl ?_;refine g_go ?_;refine g_op rfl ?_
 refine f_call #[.slice (some ⟨g5,0,none⟩) 32 32,.slice none 0 0,.slice P ls.length pc] (.agg (Us (ws ((sgR seed ls.flatten)))).toArray) rfl rfl rfl own_number (fun w1 h1=>by
   have:=number_f (P:=P) (ls:=ls) (pc:=pc) w1 (hT.below (hU.step h1.1)).sh (SB.all (b5.later h1.1) ((sgPre_len seed)) (by decide)) (SB.nil _) (hP.later (hU.step h1.1)) h0 hls
   rwa [sgR_eq] at this) rfl rfl ?_
 refine g_go ?_;refine g_end fun W8 hw8 hF8=>?_;clear hF8;replace b1:=b1.later hw8;replace b2:=b2.later hw8;replace b4:=b4.later hw8;replace b5:=b5.later hw8;replace hU:=hU.step hw8;clear hw8;refine l_allocA z4 rfl rfl rfl rfl (by kernel_rfl) fun W9 g9 hw9 hg9 b9=>?_
 have n1_9 : g1 ≠ g9:=by have:=b1.lt; omega
 have n2_9 : g2 ≠ g9:=by have:=b2.lt; omega
 have n4_9 : g4 ≠ g9:=by have:=b4.lt; omega
 have n5_9 : g5 ≠ g9:=by have:=b5.lt; omega
 have q9 : w.heap.size ≤ g9:=by rw [hg9]; exact hU.size
 replace b1:=b1.later hw9;replace b2:=b2.later hw9;replace b4:=b4.later hw9;replace b5:=b5.later hw9;replace hU:=hU.step hw9;clear hw9 hg9;refine l_set g9 _ ((Us (ws ((sgR seed ls.flatten)))).toArray) rfl rfl rfl rfl rfl b9 (size_S _) (by rw [us_size (ws_len _)]; rfl) (Us_oneA _) ?_;replace b1:=b1.rowFar n1_9 ((Us (ws ((sgR seed ls.flatten)))).toArray);replace b2:=b2.rowFar n2_9 ((Us (ws ((sgR seed ls.flatten)))).toArray);replace b4:=b4.rowFar n4_9 ((Us (ws ((sgR seed ls.flatten)))).toArray);replace b5:=b5.rowFar n5_9 ((Us (ws ((sgR seed ls.flatten)))).toArray);replace b9:=b9.row ((Us (ws ((sgR seed ls.flatten)))).toArray);replace hU:=up_row hU q9 ((Us (ws ((sgR seed ls.flatten)))).toArray);generalize World.setRow _ g9 ((Us (ws ((sgR seed ls.flatten)))).toArray) = W10 at *;refine l_nil ?_;refine hK _ _ ?_;clear hK K;refine c_seq fun K hK=>?_;refine c_new 4 [nvH 8,nvH 9] (by decide) (by decide) ⟨⟨rfl,rfl,rfl,rfl,by kernel_rfl⟩,⟨rfl,rfl,rfl,rfl,by kernel_rfl⟩,trivial⟩ (by kernel_rfl) (tail_ok (by kernel_rfl)) (by kernel_rfl) (fun _ _ d _ _ h=>by cases d <;> exact h) ?_;refine f_sc g9 ((sgR seed ls.flatten)) rfl rfl rfl rfl rfl (fun _ h1=>(h1.blk b9).range) ?_
 refine f_call #[.agg (Us (ws ((sgR seed ls.flatten)))).toArray] (.agg (By (sgRB seed ls.flatten)).toArray) rfl rfl rfl own_based (fun w1 h1=>by
   have:=based_f (n:=sgR seed ls.flatten) (sgR_lt _ _) w1 (hT.below (hU.step h1)).tw
   rwa [sgRB_eq] at this) rfl rfl ?_
 refine f_sc g4 (le (sgAB seed) % LL) rfl rfl rfl rfl rfl (fun _ h1=>(h1.blk b4).range) ?_
 refine f_call #[.agg (Us (ws (le (sgAB seed) % LL))).toArray] (.agg (By (sgKey seed)).toArray) rfl rfl rfl own_based (fun w1 h1=>by
   have:=based_f (ll_mod (le (sgAB seed))) w1 (hT.below (hU.step h1)).tw
   rwa [mul_a] at this) rfl rfl ?_
 refine f_new [.tmp 22,.tmp 24] [(By (sgRB seed ls.flatten)).toArray,(By (sgKey seed)).toArray] ⟨rfl,rfl,trivial⟩ (by decide) ⟨⟨rfl,rfl,rfl⟩,⟨rfl,rfl,rfl⟩,rfl⟩ ⟨⟨rfl,(by rw [len_by ((sgRB_len seed ls.flatten))]; rfl),(size_H ((sgRB_len seed ls.flatten))),(By_oneA _)⟩,⟨rfl,(by rw [len_by ((sgKey_len seed))]; rfl),(size_H ((sgKey_len seed))),(By_oneA _)⟩,trivial⟩ fun f11 W11 hg11 hd11 hw11 hb11=>?_;have b1100 : Blk W11 (f11 0) 22 ((By (sgRB seed ls.flatten)).toArray):=hb11.1;have b1101 : Blk W11 (f11 1) 22 ((By (sgKey seed)).toArray):=hb11.2.1;clear hb11;replace b1:=b1.later hw11;replace b2:=b2.later hw11;replace b4:=b4.later hw11;replace b5:=b5.later hw11;replace b9:=b9.later hw11;replace hU:=hU.step hw11;clear hg11 hd11 hw11;generalize hf1100 : f11 0 = g1100 at *;generalize hf1101 : f11 1 = g1101 at *;simp only [ptrs,Nat.reduceAdd,hf1100,hf1101];clear hf1100 hf1101 f11;refine l_nil ?_;refine hK _ _ ?_;clear hK K;refine c_seq fun K hK=>?_;refine c_g 5 (by decide) (by kernel_rfl) (by kernel_rfl) ?_;refine g_op rfl ?_;refine f_slice32 g1100 rfl rfl rfl rfl rfl ?_;refine g_go ?_;refine g_op rfl ?_;refine f_slice32 g1101 rfl rfl rfl rfl rfl ?_;refine g_go ?_;refine g_op rfl ?_;refine f_move (.slice P ls.length pc) rfl rfl rfl rfl rfl ?_;refine g_go ?_;refine g_op rfl ?_
 refine f_call #[.slice (some ⟨g1100,0,none⟩) 32 32,.slice (some ⟨g1101,0,none⟩) 32 32,.slice P ls.length pc] (.agg (Us (ws ((sgK (sgRB seed ls.flatten) (sgKey seed) ls.flatten)))).toArray) rfl rfl rfl own_number (fun w1 h1=>by
   have:=number_f (P:=P) (ls:=ls) (pc:=pc) w1 (hT.below (hU.step h1.1)).sh (SB.all (b1100.later h1.1) ((sgRB_len seed ls.flatten)) (by decide)) (SB.all (b1101.later h1.1) ((sgKey_len seed)) (by decide)) (hP.later (hU.step h1.1)) h0 hls
   rwa [sgK_eq] at this) rfl rfl ?_
 refine g_go ?_;refine g_alloc z4 (W11).heap.size rfl rfl rfl rfl rfl (by kernel_rfl) (fun _ h=>h.size) (fun g w w' h hr=>⟨h.1,h.2.later hr⟩) fun g12 _ _ _ _=>?_;refine g_end fun W13 hw13 hF13=>?_;have b12:=(hF13 4 _ rfl).2;have ge12:=(hF13 4 _ rfl).1
 have n1_12 : g1 ≠ g12:=by have:=b1.lt; omega
 have n2_12 : g2 ≠ g12:=by have:=b2.lt; omega
 have n4_12 : g4 ≠ g12:=by have:=b4.lt; omega
 have n5_12 : g5 ≠ g12:=by have:=b5.lt; omega
 have n9_12 : g9 ≠ g12:=by have:=b9.lt; omega
 have n1100_12 : g1100 ≠ g12:=by have:=b1100.lt; omega
 have n1101_12 : g1101 ≠ g12:=by have:=b1101.lt; omega
 have q12 : w.heap.size ≤ g12:=Nat.le_trans hU.size ge12;clear ge12;clear hF13;replace b1:=b1.later hw13;replace b2:=b2.later hw13;replace b4:=b4.later hw13;replace b5:=b5.later hw13;replace b9:=b9.later hw13;replace b1100:=b1100.later hw13;replace b1101:=b1101.later hw13;replace hU:=hU.step hw13;clear hw13;refine l_set g12 _ ((Us (ws ((sgK (sgRB seed ls.flatten) (sgKey seed) ls.flatten)))).toArray) rfl rfl rfl rfl rfl b12 (size_S _) (by rw [us_size (ws_len _)]; rfl) (Us_oneA _) ?_;replace b1:=b1.rowFar n1_12 ((Us (ws ((sgK (sgRB seed ls.flatten) (sgKey seed) ls.flatten)))).toArray);replace b2:=b2.rowFar n2_12 ((Us (ws ((sgK (sgRB seed ls.flatten) (sgKey seed) ls.flatten)))).toArray);replace b4:=b4.rowFar n4_12 ((Us (ws ((sgK (sgRB seed ls.flatten) (sgKey seed) ls.flatten)))).toArray);replace b5:=b5.rowFar n5_12 ((Us (ws ((sgK (sgRB seed ls.flatten) (sgKey seed) ls.flatten)))).toArray);replace b9:=b9.rowFar n9_12 ((Us (ws ((sgK (sgRB seed ls.flatten) (sgKey seed) ls.flatten)))).toArray);replace b1100:=b1100.rowFar n1100_12 ((Us (ws ((sgK (sgRB seed ls.flatten) (sgKey seed) ls.flatten)))).toArray);replace b1101:=b1101.rowFar n1101_12 ((Us (ws ((sgK (sgRB seed ls.flatten) (sgKey seed) ls.flatten)))).toArray);replace b12:=b12.row ((Us (ws ((sgK (sgRB seed ls.flatten) (sgKey seed) ls.flatten)))).toArray);replace hU:=up_row hU q12 ((Us (ws ((sgK (sgRB seed ls.flatten) (sgKey seed) ls.flatten)))).toArray);generalize World.setRow _ g12 ((Us (ws ((sgK (sgRB seed ls.flatten) (sgKey seed) ls.flatten)))).toArray) = W14 at *;refine l_nil ?_;refine hK _ _ ?_;clear hK K;refine c_seq fun K hK=>?_;refine c_g 7 (by decide) (by kernel_rfl) (by kernel_rfl) ?_;refine g_op rfl ?_;refine f_sc g9 ((sgR seed ls.flatten)) rfl rfl rfl rfl rfl (fun _ h1=>(h1.1.blk b9).range) ?_;refine g_go ?_;refine g_op rfl ?_;refine f_sc g12 ((sgK (sgRB seed ls.flatten) (sgKey seed) ls.flatten)) rfl rfl rfl rfl rfl (fun _ h1=>(h1.1.blk b12).range) ?_;refine g_go ?_;refine g_op rfl ?_;refine f_sc g4 (le (sgAB seed) % LL) rfl rfl rfl rfl rfl (fun _ h1=>(h1.1.blk b4).range) ?_;refine g_go ?_;refine g_op rfl ?_;refine f_call #[.agg (Us (ws ((sgK (sgRB seed ls.flatten) (sgKey seed) ls.flatten)))).toArray,.agg (Us (ws (le (sgAB seed) % LL))).toArray] (.agg (Us (ws ((((sgK (sgRB seed ls.flatten) (sgKey seed) ls.flatten)) * (le (sgAB seed) % LL) % LL)))).toArray) rfl rfl rfl own_scmul (fun w1 h1=>scmul_f (sgK_lt _ _ _) (ll_mod (le (sgAB seed))) w1) rfl rfl ?_;refine g_go ?_;refine g_op rfl ?_
 refine f_call #[.agg (Us (ws ((sgR seed ls.flatten)))).toArray,.agg (Us (ws ((((sgK (sgRB seed ls.flatten) (sgKey seed) ls.flatten)) * (le (sgAB seed) % LL) % LL)))).toArray] (.agg (Us (ws ((sgS seed ls.flatten)))).toArray) rfl rfl rfl own_scadd (fun w1 h1=>by
   have:=scadd_f (x:=(sgR seed ls.flatten)) (y:=(((sgK (sgRB seed ls.flatten) (sgKey seed) ls.flatten)) * (le (sgAB seed) % LL) % LL)) (sgR_lt _ _) (ll_mod (((sgK (sgRB seed ls.flatten) (sgKey seed) ls.flatten)) * (le (sgAB seed) % LL))) w1
   rwa [sgS_eq] at this) rfl rfl ?_
 refine g_go ?_;refine g_op rfl ?_;refine f_call #[.agg (Us (ws ((sgS seed ls.flatten)))).toArray] (.agg (By (Nums.bytes 32 ((sgS seed ls.flatten)))).toArray) rfl rfl rfl own_schash (fun w1 h1=>schash_f ((sgS seed ls.flatten)) w1) rfl rfl ?_;refine g_go ?_;refine g_alloc z32 (W14).heap.size rfl rfl rfl rfl rfl (by kernel_rfl) (fun _ h=>h.size) (fun g w w' h hr=>⟨h.1,h.2.later hr⟩) fun g15 _ _ _ _=>?_;refine g_end fun W16 hw16 hF16=>?_;have b15:=(hF16 6 _ rfl).2;have ge15:=(hF16 6 _ rfl).1
 have n1_15 : g1 ≠ g15:=by have:=b1.lt; omega
 have n2_15 : g2 ≠ g15:=by have:=b2.lt; omega
 have n4_15 : g4 ≠ g15:=by have:=b4.lt; omega
 have n5_15 : g5 ≠ g15:=by have:=b5.lt; omega
 have n9_15 : g9 ≠ g15:=by have:=b9.lt; omega
 have n1100_15 : g1100 ≠ g15:=by have:=b1100.lt; omega
 have n1101_15 : g1101 ≠ g15:=by have:=b1101.lt; omega
 have n12_15 : g12 ≠ g15:=by have:=b12.lt; omega
 have q15 : w.heap.size ≤ g15:=Nat.le_trans hU.size ge15;clear ge15;clear hF16;replace b1:=b1.later hw16;replace b2:=b2.later hw16;replace b4:=b4.later hw16;replace b5:=b5.later hw16;replace b9:=b9.later hw16;replace b1100:=b1100.later hw16;replace b1101:=b1101.later hw16;replace b12:=b12.later hw16;replace hU:=hU.step hw16;clear hw16;refine l_set g15 _ ((By (Nums.bytes 32 ((sgS seed ls.flatten)))).toArray) rfl rfl rfl rfl rfl b15 (size_H ((bytes_len _ _))) (by rw [len_by ((bytes_len _ _))]; rfl) (By_oneA _) ?_;replace b1:=b1.rowFar n1_15 ((By (Nums.bytes 32 ((sgS seed ls.flatten)))).toArray);replace b2:=b2.rowFar n2_15 ((By (Nums.bytes 32 ((sgS seed ls.flatten)))).toArray);replace b4:=b4.rowFar n4_15 ((By (Nums.bytes 32 ((sgS seed ls.flatten)))).toArray);replace b5:=b5.rowFar n5_15 ((By (Nums.bytes 32 ((sgS seed ls.flatten)))).toArray);replace b9:=b9.rowFar n9_15 ((By (Nums.bytes 32 ((sgS seed ls.flatten)))).toArray);replace b1100:=b1100.rowFar n1100_15 ((By (Nums.bytes 32 ((sgS seed ls.flatten)))).toArray);replace b1101:=b1101.rowFar n1101_15 ((By (Nums.bytes 32 ((sgS seed ls.flatten)))).toArray);replace b12:=b12.rowFar n12_15 ((By (Nums.bytes 32 ((sgS seed ls.flatten)))).toArray);replace b15:=b15.row ((By (Nums.bytes 32 ((sgS seed ls.flatten)))).toArray);replace hU:=up_row hU q15 ((By (Nums.bytes 32 ((sgS seed ls.flatten)))).toArray);generalize World.setRow _ g15 ((By (Nums.bytes 32 ((sgS seed ls.flatten)))).toArray) = W17 at *;refine l_nil ?_;refine hK _ _ ?_;clear hK K;refine c_seq fun K hK=>?_;refine c_lit ?_;refine l_allocA ((By z64).toArray) rfl rfl rfl rfl zero64 fun W18 g18 hw18 hg18 b18=>?_
 have n1_18 : g1 ≠ g18:=by have:=b1.lt; omega
 have n2_18 : g2 ≠ g18:=by have:=b2.lt; omega
 have n4_18 : g4 ≠ g18:=by have:=b4.lt; omega
 have n5_18 : g5 ≠ g18:=by have:=b5.lt; omega
 have n9_18 : g9 ≠ g18:=by have:=b9.lt; omega
 have n1100_18 : g1100 ≠ g18:=by have:=b1100.lt; omega
 have n1101_18 : g1101 ≠ g18:=by have:=b1101.lt; omega
 have n12_18 : g12 ≠ g18:=by have:=b12.lt; omega
 have n15_18 : g15 ≠ g18:=by have:=b15.lt; omega
 have q18 : w.heap.size ≤ g18:=by rw [hg18]; exact hU.size
 replace b1:=b1.later hw18;replace b2:=b2.later hw18;replace b4:=b4.later hw18;replace b5:=b5.later hw18;replace b9:=b9.later hw18;replace b1100:=b1100.later hw18;replace b1101:=b1101.later hw18;replace b12:=b12.later hw18;replace b15:=b15.later hw18;replace hU:=hU.step hw18;clear hw18 hg18;refine l_nil ?_;refine hK _ _ ?_;clear hK K;refine c_seq fun K hK=>?_;refine c_g 2 (by decide) (by kernel_rfl) (by kernel_rfl) ?_;refine g_op rfl ?_;refine f_slice64l g18 rfl rfl rfl rfl rfl ?_;refine g_go ?_;refine g_op rfl ?_;refine f_slice32 g1100 rfl rfl rfl rfl rfl ?_;refine g_go ?_;refine g_end fun W19 hw19 hF19=>?_;clear hF19;replace b1:=b1.later hw19;replace b2:=b2.later hw19;replace b4:=b4.later hw19;replace b5:=b5.later hw19;replace b9:=b9.later hw19;replace b1100:=b1100.later hw19;replace b1101:=b1101.later hw19;replace b12:=b12.later hw19;replace b15:=b15.later hw19;replace b18:=b18.later hw19;replace hU:=hU.step hw19;clear hw19;refine l_copy g18 0 32 64 _ z64 (sgRB seed ls.flatten) (.slice (some ⟨g1100,0,none⟩) 32 32) rfl rfl rfl rfl rfl rfl b18 (SB.all (b1100.later (Up.refl _)) ((sgRB_len seed ls.flatten)) (by decide)) (by rw [sgRB_len]; decide) (by rw [sgRB_len]; decide) (by rw [sgRB_len]; decide) fun b18=>?_;replace b1:=b1.rowFar n1_18 (By (cop z64 0 (sgRB seed ls.flatten))).toArray;replace b2:=b2.rowFar n2_18 (By (cop z64 0 (sgRB seed ls.flatten))).toArray;replace b4:=b4.rowFar n4_18 (By (cop z64 0 (sgRB seed ls.flatten))).toArray;replace b5:=b5.rowFar n5_18 (By (cop z64 0 (sgRB seed ls.flatten))).toArray;replace b9:=b9.rowFar n9_18 (By (cop z64 0 (sgRB seed ls.flatten))).toArray;replace b1100:=b1100.rowFar n1100_18 (By (cop z64 0 (sgRB seed ls.flatten))).toArray;replace b1101:=b1101.rowFar n1101_18 (By (cop z64 0 (sgRB seed ls.flatten))).toArray;replace b12:=b12.rowFar n12_18 (By (cop z64 0 (sgRB seed ls.flatten))).toArray;replace b15:=b15.rowFar n15_18 (By (cop z64 0 (sgRB seed ls.flatten))).toArray;replace hU:=up_row hU q18 (By (cop z64 0 (sgRB seed ls.flatten))).toArray;generalize World.setRow _ g18 (By (cop z64 0 (sgRB seed ls.flatten))).toArray = W20 at *;refine l_nil ?_;refine hK _ _ ?_;clear hK K;refine c_seq fun K hK=>?_;refine c_g 2 (by decide) (by kernel_rfl) (by kernel_rfl) ?_;refine g_op rfl ?_;refine f_slice64h g18 rfl rfl rfl rfl rfl ?_;refine g_go ?_;refine g_op rfl ?_;refine f_slice32 g15 rfl rfl rfl rfl rfl ?_;refine g_go ?_;refine g_end fun W21 hw21 hF21=>?_;clear hF21;replace b1:=b1.later hw21;replace b2:=b2.later hw21;replace b4:=b4.later hw21;replace b5:=b5.later hw21;replace b9:=b9.later hw21;replace b1100:=b1100.later hw21;replace b1101:=b1101.later hw21;replace b12:=b12.later hw21;replace b15:=b15.later hw21;replace b18:=b18.later hw21;replace hU:=hU.step hw21;clear hw21;refine l_copy g18 32 32 32 _ (cop z64 0 (sgRB seed ls.flatten)) (Nums.bytes 32 ((sgS seed ls.flatten))) (.slice (some ⟨g15,0,none⟩) 32 32) rfl rfl rfl rfl rfl rfl b18 (SB.all (b15.later (Up.refl _)) ((bytes_len _ _)) (by decide)) (by rw [bytes_len]; decide) (by rw [bytes_len]; decide) (by rw [bytes_len]; rw [cop_len64 (sgRB_len _ _)]; decide) fun b18=>?_
 replace b1:=b1.rowFar n1_18 (By (cop (cop z64 0 (sgRB seed ls.flatten)) 32 (Nums.bytes 32 ((sgS seed ls.flatten))))).toArray;replace b2:=b2.rowFar n2_18 (By (cop (cop z64 0 (sgRB seed ls.flatten)) 32 (Nums.bytes 32 ((sgS seed ls.flatten))))).toArray;replace b4:=b4.rowFar n4_18 (By (cop (cop z64 0 (sgRB seed ls.flatten)) 32 (Nums.bytes 32 ((sgS seed ls.flatten))))).toArray;replace b5:=b5.rowFar n5_18 (By (cop (cop z64 0 (sgRB seed ls.flatten)) 32 (Nums.bytes 32 ((sgS seed ls.flatten))))).toArray;replace b9:=b9.rowFar n9_18 (By (cop (cop z64 0 (sgRB seed ls.flatten)) 32 (Nums.bytes 32 ((sgS seed ls.flatten))))).toArray;replace b1100:=b1100.rowFar n1100_18 (By (cop (cop z64 0 (sgRB seed ls.flatten)) 32 (Nums.bytes 32 ((sgS seed ls.flatten))))).toArray;replace b1101:=b1101.rowFar n1101_18 (By (cop (cop z64 0 (sgRB seed ls.flatten)) 32 (Nums.bytes 32 ((sgS seed ls.flatten))))).toArray;replace b12:=b12.rowFar n12_18 (By (cop (cop z64 0 (sgRB seed ls.flatten)) 32 (Nums.bytes 32 ((sgS seed ls.flatten))))).toArray;replace b15:=b15.rowFar n15_18 (By (cop (cop z64 0 (sgRB seed ls.flatten)) 32 (Nums.bytes 32 ((sgS seed ls.flatten))))).toArray;replace hU:=up_row hU q18 (By (cop (cop z64 0 (sgRB seed ls.flatten)) 32 (Nums.bytes 32 ((sgS seed ls.flatten))))).toArray;rw [sig_cop] at b1 b2 b4 b5 b9 b1100 b1101 b12 b15 b18 hU ⊢;generalize World.setRow _ g18 (By (sgSig seed ls.flatten)).toArray = W22 at *;refine l_nil ?_;refine hK _ _ ?_;clear hK K;refine c_seq fun K hK=>?_;refine c_gF 1 ?_;refine g_op rfl ?_;refine f_b64 g18 ((sgSig_len _ _)) rfl rfl rfl rfl rfl (fun _ h1=>(h1.1.blk b18).range) ?_;refine g_go ?_;refine g_end fun W23 hw23 hF23=>?_;clear hF23;replace b2:=b2.later hw23;replace hU:=hU.step hw23;clear hw23;refine l_set g2 _ ((By (sgSig seed ls.flatten)).toArray) rfl rfl rfl rfl rfl b2 (size_64 ((sgSig_len _ _))) (by rw [List.size_toArray,List.size_toArray,By_len,By_len,((sgSig_len _ _))]; rfl) (By_oneA _) ?_;replace b2:=b2.row ((By (sgSig seed ls.flatten)).toArray);replace hU:=up_row hU q2 ((By (sgSig seed ls.flatten)).toArray);generalize World.setRow _ g2 ((By (sgSig seed ls.flatten)).toArray) = W24 at *;refine l_nil ?_;refine hK _ _ ?_;clear hK K;exact c_ret (k_ret_row g2 _ rfl rfl b2 Tryd.underlying32 rfl (size_64 ((sgSig_len _ _))) ⟨rfl,hU⟩)
end Go.Proofs.YtminmeljonbogaaDoor
/-
  PLAIN NUMBERS: rows of digits of 256, and L's. No program is imported.
-/
namespace Nums

def V2 : List Int → Int
  | []=>0
  | d :: ds=>d + 256 * V2 ds
def W2 : Nat → Int
  | 0=>1
  | k + 1=>256 * W2 k
def Small2 (l : List Int) : Prop:=∀ x ∈ l,0 ≤ x ∧ x < 256
theorem W2_pos : ∀ k,0 < W2 k
 | 0=>by decide
 | k + 1=>by have:=W2_pos k; show 0 < 256 * W2 k; omega
theorem V2_append (a b : List Int) : V2 (a ++ b) = V2 a + W2 a.length * V2 b:=by
 induction a with
 | nil=>show V2 b = 0 + 1 * V2 b; omega
 | cons d ds ih =>
  show d + 256 * V2 (ds ++ b) = d + 256 * V2 ds + 256 * W2 ds.length * V2 b
  rw [ih]
  grind only
theorem V2_small {l : List Int} (h : Small2 l) : 0 ≤ V2 l ∧ V2 l < W2 l.length:=by
 induction l with
 | nil=>exact ⟨by decide,by decide⟩
 | cons d ds ih =>
  have h1:=ih (fun x hx=>h x (List.mem_cons_of_mem _ hx));have h2:=h d (List.mem_cons_self ..)
  show 0 ≤ d + 256 * V2 ds ∧ d + 256 * V2 ds < 256 * W2 ds.length
  omega

theorem V2_split {l : List Int} {k : Nat} (h : k < l.length) : V2 l = V2 (l.take k) + W2 k * (l[k]! + 256 * V2 (l.drop (k + 1))):=by
 conv=>lhs; rw [← List.take_append_drop k l]
 rw [V2_append,List.length_take,Nat.min_eq_left (by omega),List.drop_eq_getElem_cons h,getElem!_pos l k h]
 rfl

theorem V2_lt {a b : List Int} {k : Nat} (ha : Small2 a) (hb : Small2 b) (hka : k < a.length) (hkb : k < b.length) (hd : a.drop (k + 1) = b.drop (k + 1)) (hlt : a[k]! < b[k]!) : V2 a < V2 b:=by
 have h1:=V2_small (l:=a.take k) (fun x hx=>ha x (List.mem_of_mem_take hx));have h2:=V2_small (l:=b.take k) (fun x hx=>hb x (List.mem_of_mem_take hx));rw [List.length_take,Nat.min_eq_left (by omega)] at h1 h2;rw [V2_split hka,V2_split hkb,hd];have hW:=W2_pos k;generalize V2 (b.drop (k + 1)) = z at *;generalize a[k]! = x at *;generalize b[k]! = y at *;have h3 : W2 k * (x + 256 * z + 1) ≤ W2 k * (y + 256 * z):=Int.mul_le_mul_of_nonneg_left (by omega) (by omega);rw [Int.mul_add,Int.mul_one] at h3
 omega

def od : List Int:=[237,211,245,92,26,99,18,88,214,156,247,162,222,249,222,20,0,0,0,0,0,0,0,0,0,0,0,0,0,0,0,16]
def od33 : List Int:=od ++ [0]
theorem od33_small : Small2 od33:=by
 have h : ∀ x ∈ od33,0 ≤ x ∧ x < 256:=by decide
 exact h
theorem V2_od33 : V2 od33 = 7237005577332262213973186563042994240857116359379907606001950938285454250989:=by decide
theorem od33_len : od33.length = 33:=rfl
theorem od_get : ∀ k : Nat,k < 32 → od[k]! = od33[k]!:=by decide

def lowL (l : List Int) : Bool:=decide (V2 l < 7237005577332262213973186563042994240857116359379907606001950938285454250989)

theorem lowL_at {l : List Int} (hl : l.length = 33) (hs : Small2 l) {k : Nat} (hk : k < 33) (hd : l.drop (k + 1) = od33.drop (k + 1)) (hne : l[k]! ≠ od33[k]!) : lowL l = decide (l[k]! < od33[k]!):=by
 unfold lowL
 rw [← V2_od33]
 by_cases h : l[k]! < od33[k]!
 ·have:=V2_lt hs od33_small (by omega) (by rw [od33_len]; omega) hd h
  rw [decide_eq_true this,decide_eq_true h]
 ·have:=V2_lt od33_small hs (by rw [od33_len]; omega) (by omega) hd.symm (by omega)
  have h2 : ¬ V2 l < V2 od33:=by omega
  rw [decide_eq_false h2,decide_eq_false h]
theorem lowL_eq {l : List Int} (h : l.drop 0 = od33.drop 0) : lowL l = false:=by
 rw [List.drop_zero,List.drop_zero] at h;rw [h]
 decide
theorem drop_eq {l : List Int} (hl : l.length = 33) {k : Nat} (hk : k < 33) (hd : l.drop (k + 1) = od33.drop (k + 1)) (he : l[k]! = od33[k]!) : l.drop k = od33.drop k:=by
 have h1 : l.drop k = l[k]! :: l.drop (k + 1):=by rw [List.drop_eq_getElem_cons (by omega),getElem!_pos l k (by omega)]
 have h2 : od33.drop k = od33[k]! :: od33.drop (k + 1):=by rw [List.drop_eq_getElem_cons (by rw [od33_len]; omega),getElem!_pos od33 k (by rw [od33_len]; omega)]
 rw [h1,h2,hd,he]

end Nums
/-
  THE DOCUMENT'S OWN SCALARS: order, Below.
-/
namespace Go.Proofs.YtminmeljonbogaaDoor
open Go.RowKit Go.IntWalk Nums

set_option maxRecDepth 100000 in
theorem order_any (i : Nat) (hi : i < 32) (w : World) :
  Calls Tryd.prog 108 #[.int .i64 i] w fun e w'=>e = .returned (.int .i64 od33[i]!) ∧ Below w.heap.size w w':=by
 go_enter Tryd.func108,Tryd.ntmps108
 go_wp2
 go_ret
 refine ⟨?_,(Below.refl _ _).alloc (Nat.le_refl _) _⟩;rw [← od_get i hi];have hod : i < od.length:=hi
 have e : (Is od)[i]'(by rw [Is_len]; exact hod) = .int .i64 od[i]!:=by
  rw [getElem!_pos od i hod]
  simp [Is]
 exact congrArg Ending.returned e

theorem ret_bool {a b : Bool} (h : a = b) : Ending.returned (.bool a) = .returned (.bool b):=by rw [h]

def IL (w : World) (g : Nat) (l : List Int) : Prop:=g < w.heap.size ∧ ∀ j,j < l.length → w.cell? ⟨g,j,none⟩ = some (.int .i64 l[j]!)
theorem IL.below {w w' : World} {g B : Nat} {l : List Int} (h : IL w g l) (hb : Below B w w') (hg : g < B) : IL w' g l :=
 ⟨Nat.lt_of_lt_of_le h.1 hb.size,fun j hj=>(hb.cell (p:=⟨g,j,none⟩) hg).trans (h.2 j hj)⟩

set_option maxRecDepth 100000 in
set_option maxHeartbeats 1000000 in
theorem below_any (l : List Int) (g c : Nat) (w : World) (hl : l.length = 33) (hs : Small2 l) (h : IL w g l) :
  Calls Tryd.prog 74 #[.slice (some ⟨g,0,none⟩) 33 c] w fun e w'=>e = .returned (.bool (lowL l)) ∧ Below w.heap.size w w':=by
 have c32:=h.2 32 (by omega);have hx:=hs l[32]! (by rw [getElem!_pos l 32 (by omega)]; exact List.getElem_mem _);have hat:=lowL_at hl hs (k:=32) (by omega) (by rw [List.drop_eq_nil_of_le (by omega),List.drop_eq_nil_of_le (by rw [od33_len]; omega)]);have hde:=drop_eq hl (k:=32) (by omega) (by rw [List.drop_eq_nil_of_le (by omega),List.drop_eq_nil_of_le (by rw [od33_len]; omega)]);rw [show od33[32]! = 0 from rfl] at hat hde;generalize l[32]! = x at *
 go_enter Tryd.func74,Tryd.ntmps74
 by_cases hx0 : x = 0
 ·subst hx0
  have hd:=hde rfl;clear hat hde
  go_wp2
  go_loopw [3] (fun i wr=>∃ k : Nat,k ≤ 32 ∧ i = .int .i64 ((k : Int) - 1) ∧ l.drop k = od33.drop k ∧ Below w.heap.size w wr) (fun i _=>(intOf i + 1).toNat)
  case atStart=>exact ⟨32,by omega,rfl,hd,Below.refl _ _⟩
  case round =>
   clear hd;obtain ⟨k,hk,rfl,hd,hb⟩:=hrel
   by_cases hk0 : 0 < k
   ·obtain ⟨j,rfl⟩ : ∃ j,k = j + 1:=⟨k - 1,by omega⟩
    have e0 : (((j + 1 : Nat) : Int) - 1) = (j : Int):=by omega
    rw [e0];have HI:=fun (w1 : World) (hw1 : Below w.heap.size w w1)=>(h.below hw1 h.1).2 j (by omega);have HO:=fun w1=>Lib.hid (order_any j (by omega) w1);have hat:=lowL_at hl hs (k:=j) (by omega) hd;have hde:=drop_eq hl (k:=j) (by omega) hd;have HB:=Lib.hid hb
    have q0 : (j : Int) < 33:=by omega
    clear hb;generalize l[j]! = x at *;generalize od33[j]! = y at *
    by_cases hxy : x = y
    ·have hdn:=hde hxy
     have HD:=Lib.hid hdn;clear hat hde hdn
     go_wp2
     refine wp_region_quiet_C (fun w'=>Below w.heap.size w w') (by kernel_rfl) (by kernel_rfl) HB.out.drew ?_;refine wpQuiet_step (fun K hK=>?_)
     go_simp
     refine ⟨_,fun _ _=>rfl,hK _ ?_⟩;clear hK K;refine wpQuiet_step (fun K hK=>?_)
     go_simp
     refine ⟨_,fun _ _=>rfl,hK _ ?_⟩;clear hK K;refine wpQuiet_step (fun K hK=>?_)
     go_simp
     refine ⟨_,fun _ _=>rfl,hK _ ?_⟩;clear hK K;refine q_go rfl (v:=.int .i64 x) (fun w1 hw1=>by have hc:=HI w1 hw1; go_simp) ?_;refine wpQuiet_step (fun K hK=>?_)
     go_simp
     refine ⟨_,fun _ _=>rfl,hK _ ?_⟩;clear hK K;refine wpQuiet_step (fun K hK=>?_)
     go_simp
     apply Exists.intro
     refine ⟨fun w1 hw1=>(HO w1).out.mono fun e w2 ⟨he,hw2⟩=>⟨he,hw1.trans (hw2.mono hw1.size)⟩,hK _ ?_⟩;clear hK K;refine wpQuiet_step (fun K hK=>?_)
     go_simp
     refine ⟨_,fun _ _=>rfl,hK _ ?_⟩;clear hK K;refine wpQuiet_nil ?_
     intro w5 hw5
     clear HB;have HB:=Lib.hid hw5;clear hw5
     go_wp2
     go_roundw
     case rel=>exact ⟨j,by omega,rfl,HD.out,HB.out⟩
     case measure=>simp [intOf]
    ·have hv:=hat hxy
     clear hat hde
     go_wp2
     refine wp_region_quiet_C (fun w'=>Below w.heap.size w w') (by kernel_rfl) (by kernel_rfl) HB.out.drew ?_;refine wpQuiet_step (fun K hK=>?_)
     go_simp
     refine ⟨_,fun _ _=>rfl,hK _ ?_⟩;clear hK K;refine wpQuiet_step (fun K hK=>?_)
     go_simp
     refine ⟨_,fun _ _=>rfl,hK _ ?_⟩;clear hK K;refine wpQuiet_step (fun K hK=>?_)
     go_simp
     refine ⟨_,fun _ _=>rfl,hK _ ?_⟩;clear hK K;refine q_go rfl (v:=.int .i64 x) (fun w1 hw1=>by have hc:=HI w1 hw1; go_simp) ?_;refine wpQuiet_step (fun K hK=>?_)
     go_simp
     refine ⟨_,fun _ _=>rfl,hK _ ?_⟩;clear hK K;refine wpQuiet_step (fun K hK=>?_)
     go_simp
     apply Exists.intro
     refine ⟨fun w1 hw1=>(HO w1).out.mono fun e w2 ⟨he,hw2⟩=>⟨he,hw1.trans (hw2.mono hw1.size)⟩,hK _ ?_⟩;clear hK K;refine wpQuiet_step (fun K hK=>?_)
     go_simp
     refine ⟨_,fun _ _=>rfl,hK _ ?_⟩;clear hK K;refine wpQuiet_nil ?_
     intro w5 hw5
     clear HB;have HB:=Lib.hid hw5;clear hw5
     go_wp2
     refine wp_region_quiet_C (fun w'=>Below w.heap.size w w') (by kernel_rfl) (by kernel_rfl) HB.out.drew ?_;refine wpQuiet_step (fun K hK=>?_)
     go_simp
     refine ⟨_,fun _ _=>rfl,hK _ ?_⟩;clear hK K;refine wpQuiet_step (fun K hK=>?_)
     go_simp
     refine ⟨_,fun _ _=>rfl,hK _ ?_⟩;clear hK K;refine wpQuiet_step (fun K hK=>?_)
     go_simp
     refine ⟨_,fun _ _=>rfl,hK _ ?_⟩;clear hK K;refine q_go rfl (v:=.int .i64 x) (fun w1 hw1=>by have hc:=HI w1 hw1; go_simp) ?_;refine wpQuiet_step (fun K hK=>?_)
     go_simp
     refine ⟨_,fun _ _=>rfl,hK _ ?_⟩;clear hK K;refine wpQuiet_step (fun K hK=>?_)
     go_simp
     apply Exists.intro
     refine ⟨fun w1 hw1=>(HO w1).out.mono fun e w2 ⟨he,hw2⟩=>⟨he,hw1.trans (hw2.mono hw1.size)⟩,hK _ ?_⟩;clear hK K;refine wpQuiet_step (fun K hK=>?_)
     go_simp
     refine ⟨_,fun _ _=>rfl,hK _ ?_⟩;clear hK K;refine wpQuiet_step (fun K hK=>?_)
     go_simp
     refine ⟨_,fun _ _=>rfl,hK _ ?_⟩;clear hK K;refine wpQuiet_nil ?_
     intro w5 hw5
     clear HB;have HB:=Lib.hid hw5;clear hw5
     go_wp2
     go_ret
     exact ⟨ret_bool hv.symm,HB.out⟩
   ·obtain rfl : k = 0:=by omega
    have hv:=lowL_eq hd
    go_wp2
    go_ret
    exact ⟨ret_bool hv.symm,hb⟩
 ·have hv:=hat hx0
  have hn : ¬ x < 0:=by omega
  rw [decide_eq_false hn] at hv;clear hat hde
  go_wp2
  go_ret
  exact ⟨ret_bool rfl,Below.refl _ _⟩
end Go.Proofs.YtminmeljonbogaaDoor
/-
  PLAIN NUMBERS: a number of 33 digits less L, digit by digit. No program is imported.
-/
namespace Nums

theorem V2_snoc (a : List Int) (z : Int) : V2 (a ++ [z]) = V2 a + W2 a.length * z:=by
 rw [V2_append]
 show _ + _ * (z + 256 * 0) = _
 rw [Int.mul_zero,Int.add_zero]
theorem V2_take {l : List Int} {i : Nat} (h : i < l.length) : V2 (l.take (i + 1)) = V2 (l.take i) + W2 i * l[i]!:=by
 rw [List.take_succ_eq_append_getElem h,V2_snoc,List.length_take,Nat.min_eq_left (by omega),getElem!_pos l i h]
theorem small_get {l : List Int} (hs : Small2 l) {i : Nat} (h : i < l.length) : 0 ≤ l[i]! ∧ l[i]! < 256:=by
 rw [getElem!_pos l i h];exact hs _ (List.getElem_mem h)
theorem small_snoc {a : List Int} (ha : Small2 a) {z : Int} (h0 : 0 ≤ z) (h1 : z < 256) : Small2 (a ++ [z]):=fun x hx=>by
 rcases List.mem_append.1 hx with h | h
 ·exact ha x h
 ·rw [List.mem_singleton.1 h]; exact ⟨h0,h1⟩

def sub1 (br : Int) : List Int → List Int
  | []=>[]
  | x :: r=>(x - br) :: r
theorem sub1_zero : ∀ r,sub1 0 r = r
 | []=>rfl
 | x :: r=>by show (x - 0) :: r = x :: r; rw [Int.sub_zero]

def Sb (l out : List Int) (i : Nat) : Prop :=
  ∃ dn br,dn.length = i ∧ Small2 dn ∧ (br = 0 ∨ br = 1) ∧ V2 dn + V2 (od33.take i) = V2 (l.take i) + br * W2 i ∧ out = dn ++ sub1 br (l.drop i)

theorem Sb.start (l : List Int) : Sb l l 0:=by
 refine ⟨[],0,rfl,?_,.inl rfl,?_,?_⟩
 ·intro x h
  cases h
 ·simp [V2]
 ·rw [sub1_zero]
  rfl

section
variable {l out : List Int} {i : Nat}
theorem Sb.len (h : Sb l out i) (hl : l.length = 33) (hi : i ≤ 33) : out.length = 33:=by
 obtain ⟨dn,br,hd,_,_,_,rfl⟩:=h
 have e : (sub1 br (l.drop i)).length = (l.drop i).length:=by cases l.drop i <;> rfl
 rw [List.length_append,e,List.length_drop]
 omega
theorem Sb.next (h : Sb l out i) (hl : l.length = 33) (hs : Small2 l) (hi : i < 33) :
  (-1 ≤ out[i]! ∧ out[i]! < 256) ∧ (∀ z,z = out[i]! - od33[i]! → 0 ≤ z → Sb l (out.set i z) (i + 1)) ∧
  (∀ z,z = out[i]! - od33[i]! → z < 0 → i + 1 < 33 → Sb l ((out.set i (z + 256)).set (i + 1) (out[i + 1]! - 1)) (i + 1)) ∧
  (i = 32 → out[i]! < 0 → V2 l < V2 od33):=by
 obtain ⟨dn,br,hd,hdn,hbr,hV,rfl⟩:=h;have ho:=small_get od33_small (i:=i) (by rw [od33_len]; exact hi);have hx:=small_get hs (i:=i) (by omega)
 have hdr : l.drop i = l[i]! :: l.drop (i + 1):=by rw [List.drop_eq_getElem_cons (by omega),getElem!_pos l i (by omega)]
 have hlt:=V2_take (l:=l) (i:=i) (by omega);have hot:=V2_take (l:=od33) (i:=i) (by rw [od33_len]; exact hi);rw [hdr]
 show _ ∧ _
 have eo : (dn ++ sub1 br (l[i]! :: l.drop (i + 1)))[i]! = l[i]! - br:=by
  rw [getElem!_pos _ _ (by simp [sub1]; omega),List.getElem_append_right (by omega)]
  simp [sub1,hd]
 rw [eo];refine ⟨by omega,?_,?_,?_⟩
 ·rintro z rfl hz
  refine ⟨dn ++ [l[i]! - br - od33[i]!],0,by simp [hd],small_snoc hdn hz (by omega),.inl rfl,?_,?_⟩
  ·rw [V2_snoc,hd,hlt,hot]
   generalize l[i]! = x at *;generalize od33[i]! = o at *;generalize V2 dn = a at *;generalize V2 (List.take i od33) = b at *;generalize V2 (List.take i l) = c at *;generalize W2 i = W at *;clear hdr
   grind only
  ·rw [sub1_zero,← hd,List.set_append_right _ _ (Nat.le_refl _)]
   simp [sub1]
 ·rintro z rfl hz hi1
  have hdr2 : l.drop (i + 1) = l[i + 1]! :: l.drop (i + 1 + 1):=by rw [List.drop_eq_getElem_cons (by omega),getElem!_pos l (i + 1) (by omega)]
  refine ⟨dn ++ [l[i]! - br - od33[i]! + 256],1,by simp [hd],small_snoc hdn (by omega) (by omega),.inr rfl,?_,?_⟩
  ·rw [V2_snoc,hd,hlt,hot]
   show _ = _ + 1 * (256 * W2 i)
   generalize l[i]! = x at *;generalize od33[i]! = o at *;generalize V2 dn = a at *;generalize V2 (List.take i od33) = b at *;generalize V2 (List.take i l) = c at *;generalize W2 i = W at *;clear hdr hdr2
   grind only
  ·have e1 : (dn ++ sub1 br (l[i]! :: l.drop (i + 1)))[i + 1]! = l[i + 1]!:=by
    rw [hdr2,getElem!_pos _ _ (by simp [sub1]; omega),List.getElem_append_right (by omega)]
    simp [sub1,hd]
   rw [e1,hdr2,← hd,List.set_append_right _ _ (Nat.le_refl _),List.set_append_right _ _ (by omega)]
   simp [sub1]
 ·rintro rfl h0
  have hbr1 : br = 1:=by omega
  have hx0 : l[32]! = 0:=by omega
  have hsm:=(V2_small hdn).2;rw [hd] at hsm;have e33 : l.take 33 = l:=List.take_of_length_le (by omega);have o33 : od33.take 33 = od33:=List.take_of_length_le (by rw [od33_len]; omega);have hod : od33[32]! = 0:=rfl;rw [show (32 : Nat) + 1 = 33 from rfl,e33,hx0,Int.mul_zero,Int.add_zero] at hlt;rw [show (32 : Nat) + 1 = 33 from rfl,o33,hod,Int.mul_zero,Int.add_zero] at hot;rw [hlt,hot];subst hbr1;have h1:=(V2_small hdn).1
  omega
theorem Sb.after (h : Sb l out i) (hl : l.length = 33) (hs : Small2 l) (hi : i + 1 < 33) : 0 ≤ out[i + 1]! ∧ out[i + 1]! < 256:=by
 obtain ⟨dn,br,hd,hdn,hbr,hV,rfl⟩:=h;have hx:=small_get hs (i:=i + 1) (by omega)
 have hdr : l.drop i = l[i]! :: l.drop (i + 1):=by rw [List.drop_eq_getElem_cons (by omega),getElem!_pos l i (by omega)]
 have hdr2 : l.drop (i + 1) = l[i + 1]! :: l.drop (i + 1 + 1):=by rw [List.drop_eq_getElem_cons (by omega),getElem!_pos l (i + 1) (by omega)]
 have e1 : (dn ++ sub1 br (l.drop i))[i + 1]! = l[i + 1]!:=by
  rw [hdr,hdr2,getElem!_pos _ _ (by simp [sub1]; omega),List.getElem_append_right (by omega)]
  simp [sub1,hd]
 rw [e1];exact hx
theorem Sb.last (h : Sb l out 33) (hl : l.length = 33) (hs : Small2 l) (hge : V2 od33 ≤ V2 l) : Small2 out ∧ V2 out = V2 l - V2 od33:=by
 obtain ⟨dn,br,hd,hdn,hbr,hV,rfl⟩:=h;have e33 : l.take 33 = l:=List.take_of_length_le (by omega);have o33 : od33.take 33 = od33:=List.take_of_length_le (by rw [od33_len]; omega);have d33 : l.drop 33 = []:=List.drop_eq_nil_of_le (by omega);have h1:=V2_small hdn;rw [hd] at h1;rw [e33,o33] at hV;rw [d33]
 show Small2 (dn ++ []) ∧ V2 (dn ++ []) = _
 rw [List.append_nil];refine ⟨hdn,?_⟩;have hW:=W2_pos 33;have h2:=V2_small hs
 rcases hbr with rfl | rfl
 ·omega
 ·omega
end
end Nums
/-
  THE DOCUMENT'S OWN SCALARS: less.
-/
namespace Go.Proofs.YtminmeljonbogaaDoor
open Go.RowKit Go.IntWalk Nums

def RL (w : World) (g : Nat) (l : List Int) : Prop:=g < w.heap.size ∧ (∀ j,j < l.length → w.cell? ⟨g,j,none⟩ = some (.int .i64 l[j]!)) ∧ ∀ j,j < l.length → w.frozen? ⟨g,j,none⟩ = false
section
variable {w w' : World} {g B : Nat} {l : List Int}
theorem RL.il (h : RL w g l) : IL w g l:=⟨h.1,h.2.1⟩
theorem RL.below (h : RL w g l) (hb : Below B w w') (hg : g < B) : RL w' g l :=
 ⟨Nat.lt_of_lt_of_le h.1 hb.size,fun j hj=>(hb.cell (p:=⟨g,j,none⟩) hg).trans (h.2.1 j hj),fun j hj=>(hb.frozen (p:=⟨g,j,none⟩) hg).trans (h.2.2 j hj)⟩
theorem RL.later (h : RL w g l) (hb : Below w.heap.size w w') : RL w' g l:=h.below hb h.1
theorem RL.set (h : RL w g l) (k : Nat) (x : Int) : RL (w.setCell ⟨g,k,none⟩ (.int .i64 x)) g (l.set k x):=by
 refine ⟨by simpa [World.setCell] using h.1,fun j hj=>?_,fun j hj=>?_⟩
 ·rw [List.length_set] at hj
  by_cases e : j = k
  ·subst e
   rw [World.cell?_setCell_same _ _ _ (h.2.1 j hj)]
   simp [hj]
  ·rw [World.cell?_setCell_other _ _ _ _ (by intro he; injection he with _ he _; omega),h.2.1 j hj]
   have e1 : (l.set k x)[j]! = l[j]!:=by
    rw [getElem!_pos (l.set k x) j (by rw [List.length_set]; exact hj),List.getElem_set_ne (by omega),getElem!_pos l j hj]
   rw [e1]
 ·rw [List.length_set] at hj
  rw [World.frozen?_setCell];exact h.2.2 j hj
theorem RL.far (h : RL w g l) {p : Addr} (hp : g ≠ p.block) (u : Value) : RL (w.setCell p u) g l :=
 ⟨by simpa [World.setCell] using h.1,fun j hj=>by rw [World.cell?_setCell_other _ _ _ _ (fun e=>hp (by rw [e]))]; exact h.2.1 j hj,fun j hj=>by rw [World.frozen?_setCell]; exact h.2.2 j hj⟩
end
theorem own_order : Own 108:=fun _ _=>by go_simp
theorem info_i64 : (Tryd.prog.info? 3).map (fun i=>(i.zero,i.size,i.bytes)) = some (some (.int .i64 0),1,8):=by kernel_rfl

set_option maxRecDepth 100000 in
set_option maxHeartbeats 4000000 in
theorem less_any (l : List Int) (g c : Nat) (w : World) (hl : l.length = 33) (hs : Small2 l) (h : IL w g l) (hge : lowL l = false) :
  Calls Tryd.prog 75 #[.slice (some ⟨g,0,none⟩) 33 c] w fun e w'=>∃ m g' c',m.length = 33 ∧ Small2 m ∧ V2 m = V2 l - V2 od33 ∧ w.heap.size ≤ g' ∧ RL w' g' m ∧ e = .returned (.slice (some ⟨g',0,none⟩) 33 c') ∧ Below w.heap.size w w':=by
 have hge2 : V2 od33 ≤ V2 l:=by
  unfold lowL at hge
  rw [V2_od33];exact Int.not_lt.1 (of_decide_eq_false hge)
 obtain ⟨i0,hi0,hz0,hz1,hz2⟩:=info_parts info_i64
 go_enter Tryd.func75,Tryd.ntmps75
 have hown : (w.alloc (.cells #[] 3)).ownsRow w.heap.size 3 1 (.slice (some ⟨w.heap.size,0,none⟩) 0 0) 0 []:=⟨rfl,.inr ⟨w.heap.size,0,#[],rfl,Nat.le_refl _,Blk.new w _ _,Nat.le_refl _,Nat.zero_le _,rfl,rfl⟩⟩
 have hnews : ∀ j u,(Is l)[j]? = some u → (w.alloc (.cells #[] 3)).cell? ((⟨g,0,none⟩ : Addr).add j) = some u:=fun j u hu=>by
  have hj : j < l.length:=by
   have:=(List.getElem?_eq_some_iff.1 hu).1
   rwa [Is_len] at this
  rw [Addr.add_mid,Nat.zero_add,World.cell?_alloc_lt _ _ _ h.1,h.2 j hj,← hu,getElem!_pos l j hj]
  simp [Is,hj]
 have hlen : (Is l).length = 33 * 1:=by rw [Is_len,hl]
 have hbe1 : Below w.heap.size w (w.alloc (.cells #[] 3)):=(Below.refl _ _).alloc (Nat.le_refl _) _;have hbs : w.heap.size ≤ (w.alloc (.cells #[] 3)).heap.size:=hbe1.size;have HX:=Lib.hid (And.intro hs (And.intro hge2 hbe1));clear h hge hge2 hs hbe1
 go_wp2_with (at_builtin; refine wpList_append_lies _ rfl (.tmp 5) (.tmp 6) 116 rfl w.heap.size 3 i0 _ 1 8 Tryd.underlying116 hi0 hz0 hz1 hz2 rfl (by decide) (.slice (some ⟨w.heap.size,0,none⟩) 0 0) 0 [] rfl hown ⟨g,0,none⟩ 33 c (Is l) rfl hlen hnews (Is_one l) (by decide) (by decide) (by decide) hbs _ rfl ?_; intro g' cap w1 hown1 hgrow hat hlt)
 have hwg : w.heap.size ≤ g':=by
  rcases hat with h1 | h1
  ·injection h1 with h1
   exact Nat.le_of_eq h1
  ·rw [h1]; exact hbs
 have hB1 : Below w.heap.size w w1:=below_only HX.out.2.2 hgrow hbs (Nat.le_refl _)
 have hR1 : RL w1 g' l:=by
  rcases hown1.2 with ⟨_,h0⟩ | ⟨g2,cap2,cur,hv,hb,hg,hn,hc,hcs,htk⟩
  ·exact absurd h0 (by decide)
  ·injection hv with hv1 hv2 hv3
   injection hv1 with hv1
   injection hv1 with hv1
   subst hv1;rw [List.nil_append] at htk;refine ⟨hlt,fun j hj=>?_,fun j hj=>frozen_of_row w1 g' j cur _ hg⟩;rw [cell_of_row w1 g' j cur _ _ hg]
   have e1 : (Is l)[j]? = some (.int .i64 l[j]!):=by rw [getElem!_pos l j hj]; simp [Is,hj]
   rw [← htk,List.getElem?_take] at e1
   split at e1
   ·simpa using e1
   ·cases e1
 have HK:=Lib.hid (And.intro hB1 hR1);clear hown hown1 hgrow hat hlt hB1 hR1 hnews hlen hbs hi0 hz0 hz1 hz2 i0
 go_loopw [4] (fun i wr=>∃ k : Nat,k ≤ 33 ∧ i = .int .i64 k ∧ ∃ out,Sb l out k ∧ RL wr g' out ∧ Below w.heap.size w wr) (fun i _=>33 - (intOf i).toNat)
 case atStart=>exact ⟨0,by omega,rfl,l,Sb.start l,HK.out.2,HK.out.1⟩
 case round =>
  clear HK;obtain ⟨k,hk,rfl,out,hS,hR,hB⟩:=hrel;have hol:=hS.len hl hk
  by_cases hlt : k < 33
  ·obtain ⟨⟨hx0,hx1⟩,hge,hlo,hno⟩:=hS.next hl HX.out.1 hlt
   have c0:=hR.2.1 k (by omega);have f0:=hR.2.2 k (by omega);have ho:=small_get od33_small (i:=k) (by rw [od33_len]; exact hlt)
   by_cases h32 : k < 32
   ·have c1:=hR.2.1 (k + 1) (by omega)
    have f1:=hR.2.2 (k + 1) (by omega);have HO:=fun w1=>Lib.hid (order_any k h32 w1);have hgel:=hge (out[k]! - od33[k]!) rfl;have hlol:=fun hz=>hlo (out[k]! - od33[k]!) rfl hz (by omega);have hyb:=hS.after hl HX.out.1 (by omega)
    have h33 : (k : Int) < 33:=by omega
    have h32i : (k : Int) < 32:=by omega
    have HH:=Lib.hid (And.intro hR hB);have HS:=Lib.hid (And.intro hgel hlol);have hset : ∀ u : Int,(out.set k (out[k]! - od33[k]!)).set k u = out.set k u:=fun u=>List.set_set ..;clear hge hlo hno hgel hlol hS hR hB;generalize hx : out[k]! = x at *;generalize hy : out[k + 1]! = y at *;generalize od33[k]! = o at *
    go_wp2
    have hlater : ∀ w5,Up wr w5 → w5.cell? ⟨g',k,none⟩ = some (.int .i64 x):=fun w5 h5=>by
     have h7:=(HH.out.1.later h5).2.1 k (by omega);rw [hx] at h7;exact h7
    refine region_B 8 (Up wr) (by decide) (by kernel_rfl) (by kernel_rfl) (fun _ _ h hw=>h.step hw) (Up.drew wr) (fun _ _ d _ _ h=>by cases d <;> exact h) ?_;simp only [List.take_succ_cons,List.take_zero,List.drop_succ_cons,List.drop_zero];refine b_move rfl rfl ?_;refine b_move rfl rfl ?_;refine wpB_step (fun K hK=>?_)
    go_simp
    refine ⟨_,fun _ _=>⟨rfl,rfl⟩,hK _ ?_⟩;clear hK K;refine b_val (v:=.int .i64 x) rfl (fun w5 h5=>by have hc:=hlater w5 h5; go_simp) ?_;refine b_move rfl rfl ?_;refine b_one rfl own_order (fun w5=>(HO w5).out) rfl rfl ?_;refine wpB_step (fun K hK=>?_)
    go_simp
    refine ⟨_,fun _ _=>⟨rfl,rfl⟩,hK _ ?_⟩;clear hK K;refine wpB_step (fun K hK=>?_)
    go_simp
    refine ⟨_,fun _ _=>⟨rfl,rfl⟩,hK _ ?_⟩;clear hK K;refine wpB_nil ?_
    intro w5 h5
    have hR5:=HH.out.1.later h5;have hB5:=below_up HH.out.2 h5;have c0:=hR5.2.1 k (by omega);have c1:=hR5.2.1 (k + 1) (by omega);have f0:=hR5.2.2 k (by omega);have f1:=hR5.2.2 (k + 1) (by omega);rw [hx] at c0;rw [hy] at c1;have hRs:=hR5.set k (x - o);have hBs:=hB5.setCell (p:=⟨g',k,none⟩) hwg (.int .i64 (x - o))
    by_cases hz : 0 ≤ x - o
    ·have HD:=Lib.hid (And.intro (HS.out.1 hz) (And.intro hRs hBs))
     clear HS HH hRs hBs hR5 hB5 hset hlater HO
     go_wp2
     go_roundw
     case rel=>exact ⟨k + 1,by omega,by go_num,_,HD.out.1,HD.out.2.1,HD.out.2.2⟩
     case measure=>simp [intOf]; omega
    ·have hz2 : x - o < 0:=by omega
     have hRs2:=(hRs.set k (x - o + 256)).set (k + 1) (y - 1);have hBs2:=(hBs.setCell (p:=⟨g',k,none⟩) hwg (.int .i64 (x - o + 256))).setCell (p:=⟨g',k + 1,none⟩) hwg (.int .i64 (y - 1));rw [hset] at hRs2;have HD:=Lib.hid (And.intro (HS.out.2 hz2) (And.intro hRs2 hBs2));clear HS HH hRs hBs hR5 hB5 hset hlater HO hRs2 hBs2
     go_wp2
     go_roundw
     case rel=>exact ⟨k + 1,by omega,by go_num,_,HD.out.1,HD.out.2.1,HD.out.2.2⟩
     case measure=>simp [intOf]; omega
   ·obtain rfl : k = 32:=by omega
    have hx2 : ¬ out[32]! < 0:=fun h=>absurd (hno rfl h) (Int.not_lt.2 HX.out.2.1);have hg2:=hge (out[32]!) (by rw [show od33[32]! = 0 from rfl,Int.sub_zero]) (by omega);rw [getElem!_pos out 32 (by omega),List.set_getElem_self] at hg2;have HD:=Lib.hid (And.intro hg2 (And.intro hR hB));clear hge hlo hno hg2 hR hB hS;generalize out[32]! = x at *
    go_wp2
    go_roundw
    case rel=>exact ⟨33,by omega,by go_num,_,HD.out.1,HD.out.2.1,HD.out.2.2⟩
    case measure=>simp [intOf]
  ·obtain rfl : k = 33:=by omega
   obtain ⟨hsm,hv⟩:=hS.last hl HX.out.1 HX.out.2.1
   go_wp2
   go_ret
   exact ⟨out,g',cap,hol,hsm,hv,hwg,hR,by simp,hB⟩
end Go.Proofs.YtminmeljonbogaaDoor
/-
  PLAIN NUMBERS: a number modulo L, bit by bit. No program is imported.
-/
namespace Nums

def Db (m out : List Int) (c0 c : Int) (k : Nat) : Prop :=
  ∃ dn,dn.length = k ∧ Small2 dn ∧ (c = 0 ∨ c = 1) ∧ V2 dn + c * W2 k = 2 * V2 (m.take k) + c0 ∧ out = dn ++ m.drop k
section
variable {m out : List Int} {c0 c : Int} {k : Nat}
theorem Db.start (h : c0 = 0 ∨ c0 = 1) : Db m m c0 c0 0:=by
 refine ⟨[],rfl,?_,h,?_,rfl⟩
 ·intro x hx
  cases hx
 ·show V2 [] + c0 * 1 = 2 * V2 (m.take 0) + c0
  simp [V2]
theorem Db.len (h : Db m out c0 c k) (hm : m.length = 33) (hk : k ≤ 33) : out.length = 33:=by
 obtain ⟨dn,hd,_,_,_,rfl⟩:=h;rw [List.length_append,List.length_drop]
 omega
theorem Db.next (h : Db m out c0 c k) (hm : m.length = 33) (hs : Small2 m) (hk : k < 33) :
  (0 ≤ out[k]! ∧ out[k]! < 256) ∧ (0 ≤ c ∧ c ≤ 1) ∧ Db m (out.set k ((2 * out[k]! + c) % 256)) c0 ((2 * out[k]! + c) / 256) (k + 1):=by
 obtain ⟨dn,hd,hdn,hc,hV,rfl⟩:=h;have hx:=small_get hs (i:=k) (by omega)
 have hdr : m.drop k = m[k]! :: m.drop (k + 1):=by rw [List.drop_eq_getElem_cons (by omega),getElem!_pos m k (by omega)]
 have hlt:=V2_take (l:=m) (i:=k) (by omega)
 have eo : (dn ++ m.drop k)[k]! = m[k]!:=by
  rw [hdr,getElem!_pos _ _ (by simp; omega),List.getElem_append_right (by omega)]
  simp [hd]
 rw [eo];refine ⟨hx,by omega,dn ++ [(2 * m[k]! + c) % 256],by simp [hd],small_snoc hdn (by omega) (by omega),by omega,?_,?_⟩
 ·rw [V2_snoc,hd,hlt]
  show _ + _ * (256 * W2 k) = _
  have e:=Int.emod_add_mul_ediv (2 * m[k]! + c) 256;generalize (2 * m[k]! + c) % 256 = r at *;generalize (2 * m[k]! + c) / 256 = q at *;generalize m[k]! = x at *;generalize V2 dn = a at *;generalize V2 (List.take k m) = b at *;generalize W2 k = W at *;clear hdr eo hx hc
  have e2 : W * (r + 256 * q) = W * (2 * x + c):=by rw [e]
  grind only
 ·rw [hdr,← hd,List.set_append_right _ _ (Nat.le_refl _)]
  simp
theorem Db.last (h : Db m out c0 c 33) (hm : m.length = 33) (hlt : 2 * V2 m + c0 < W2 33) : Small2 out ∧ V2 out = 2 * V2 m + c0:=by
 obtain ⟨dn,hd,hdn,hc,hV,rfl⟩:=h;have e33 : m.take 33 = m:=List.take_of_length_le (by omega);have d33 : m.drop 33 = []:=List.drop_eq_nil_of_le (by omega);have h1:=V2_small hdn;rw [hd] at h1;rw [e33] at hV;rw [d33,List.append_nil];refine ⟨hdn,?_⟩;have hW:=W2_pos 33
 rcases hc with rfl | rfl
 ·omega
 ·omega
end

theorem W2_33 : W2 33 = 256 * 115792089237316195423570985008687907853269984665640564039457584007913129639936:=by decide
theorem mod_bit {P : Nat} {v b : Nat} (hv : v = P % LL) (hb : b < 2) : ((2 * v + b < LL → 2 * v + b = (2 * P + b) % LL) ∧ (¬ 2 * v + b < LL → 2 * v + b - LL = (2 * P + b) % LL)) ∧ 2 * v + b < 2 * LL:=by
 subst hv;have h1 : P % LL < LL:=Nat.mod_lt _ (by decide)
 have h2 : (2 * P + b) % LL = (2 * (P % LL) + b) % LL:=by
  have e:=Nat.div_add_mod P LL
  have e2 : 2 * P + b = 2 * (P % LL) + b + LL * (2 * (P / LL)):=by
   have : LL * (2 * (P / LL)) = 2 * (LL * (P / LL)):=by rw [Nat.mul_left_comm]
   omega
  rw [e2,Nat.add_mul_mod_self_left]
 rw [h2];clear h2;generalize P % LL = r at *;refine ⟨⟨fun h=>(Nat.mod_eq_of_lt h).symm,fun h=>?_⟩,by omega⟩;rw [Nat.mod_eq_sub_mod (a:=2 * r + b) (by omega),Nat.mod_eq_of_lt (a:=2 * r + b - LL) (by omega)]

def partL (l : List UInt8) (i t : Nat) : Nat:=le (l.drop (i + 1)) * 2 ^ t + (l[i]!).toNat / 2 ^ (8 - t)
theorem partL_zero {l : List UInt8} {i : Nat} : partL l i 0 = le (l.drop (i + 1)):=by
 have h:=(l[i]!).toNat_lt
 show le (l.drop (i + 1)) * 1 + (l[i]!).toNat / 256 = _
 omega
theorem part_eight {l : List UInt8} {i : Nat} (hi : i < l.length) : partL l i 8 = le (l.drop i):=by
 rw [List.drop_eq_getElem_cons hi]
 show le (l.drop (i + 1)) * 256 + (l[i]!).toNat / 1 = l[i].toNat + 256 * le (l.drop (i + 1))
 rw [getElem!_pos l i hi]
 omega
theorem part_next {l : List UInt8} {i t : Nat} (ht : t < 8) : partL l i (t + 1) = 2 * partL l i t + (l[i]!).toNat / 2 ^ (7 - t) % 2:=by
 unfold partL
 generalize (l[i]!).toNat = x;generalize le (l.drop (i + 1)) = v
 have e1 : 8 - (t + 1) = 7 - t:=by omega
 have e2 : 8 - t = (7 - t) + 1:=by omega
 rw [e1,e2,Nat.pow_succ,Nat.pow_succ,← Nat.div_div_eq_div_mul]
 have e3 : v * (2 ^ t * 2) = 2 * (v * 2 ^ t):=by rw [← Nat.mul_assoc,Nat.mul_comm]
 rw [e3]
 omega

theorem bytes_of {m : List Int} (hm : m.length = 33) (hs : Small2 m) {v : Nat} (hv : V2 m = (v : Int)) (hlt : v < LL) : m[32]! = 0 ∧ (m.take 32).map (fun x=>UInt8.ofNat x.toNat) = bytes 32 v:=by
 have h1:=V2_take (l:=m) (i:=32) (by omega);rw [show (32 : Nat) + 1 = 33 from rfl,List.take_of_length_le (by omega)] at h1;have hs2 : Small2 (m.take 32):=fun x hx=>hs x (List.mem_of_mem_take hx);have h2:=V2_small hs2;rw [List.length_take,hm] at h2;have h3:=small_get hs (i:=32) (by omega)
 have hW : W2 32 = 115792089237316195423570985008687907853269984665640564039457584007913129639936:=by decide
 have hW2 : W2 (min 32 33) = 115792089237316195423570985008687907853269984665640564039457584007913129639936:=by decide
 rw [hW] at h1;rw [hW2] at h2
 have hLL : LL < 115792089237316195423570985008687907853269984665640564039457584007913129639936:=by decide
 have h0 : m[32]! = 0:=by omega
 refine ⟨h0,?_⟩
 apply le_inj (by simp [bytes_len,hm])
 rw [le_bytes,show (256 : Nat) ^ 32 = 115792089237316195423570985008687907853269984665640564039457584007913129639936 by decide,Nat.mod_eq_of_lt (by omega)]
 have key : ∀ q : List Int,Small2 q → ((le (q.map (fun x=>UInt8.ofNat x.toNat)) : Nat) : Int) = V2 q:=by
  intro q
  induction q with
  | nil=>intro _; rfl
  | cons x q ih =>
   intro hq
   have hx:=hq x (List.mem_cons_self ..);have:=ih (fun y hy=>hq y (List.mem_cons_of_mem _ hy))
   show (((UInt8.ofNat x.toNat).toNat + 256 * le (q.map _) : Nat) : Int) = x + 256 * V2 q
   rw [UInt8.toNat_ofNat_of_lt' (by show _ < 256; omega)]
   omega
 have h5:=key _ hs2
 omega
end Nums
