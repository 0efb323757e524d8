/-
  SEVERAL TEXTS IN ONE: Pack, Us, FrV, FrW, ShaP, Ref02, Ws, DigS.
-/
import Derived.Test.YtminmeljonbogaaDoorMb
import Derived.Test.YtminmeljonbogaaDoorMa
import Derived.Laws.Bits64b
import Derived.Laws.BitsAllLaws
import Derived.Laws.Externs
/-
PLAIN NUMBERS: the base point's order divides L. No program is imported.
PLAIN NUMBERS: rows of digits of 16 bits, carries, products digit by digit. No program is imported.
PLAIN NUMBERS: 16 digits of 16 bits as numbers modulo p: carries that come back 38 times, products, the packed row. No program is imported.
PLAIN NUMBERS: the packed row (below p), its bytes, the folded product. No program is imported.
-/
namespace Nums

def forced {α : Type} (x : Nat) (f : Nat → α) : α :=
  match x with
  | 0=>f 0
  | k + 1=>f (k + 1)
theorem forced_eq {α : Type} (x : Nat) (f : Nat → α) : forced x f = f x:=by cases x <;> rfl

structure Tri where
  x : Nat
  y : Nat
  z : Nat

def triAdd (a b : Tri) : Tri :=
  forced (a.z * b.z % p) fun z=>forced (z * z % p) fun zz=>forced (dn * (a.x * b.x % p * (a.y * b.y % p) % p) % p) fun m =>
  forced ((zz + m) % p) fun pl=>forced ((zz + p - m) % p) fun mi =>
  forced ((a.x * b.y + a.y * b.x) % p * z % p * mi % p) fun x=>forced ((a.y * b.y + a.x * b.x) % p * z % p * pl % p) fun y =>
  forced (pl * mi % p) fun w=>⟨x,y,w⟩

def triMul : Nat → Nat → Tri → Tri → Tri
  | 0,_,acc,_=>acc
  | n + 1,k,acc,q=>triMul n (k / 2) (if k % 2 = 1 then triAdd acc q else acc) (triAdd q q)

def TriRep (t : Tri) (P : Ed.Pt p) : Prop:=Ed.Rep (fof t.x) (fof t.y) (fof t.z) P

theorem triAdd_rep {a b : Tri} {P Q : Ed.Pt p} (hP : Ed.On dd P) (hQ : Ed.On dd Q) (ha : TriRep a P) (hb : TriRep b Q) : TriRep (triAdd a b) (Ed.add dd P Q):=by
 unfold triAdd
 simp only [forced_eq];have h:=Ed.Rep.add good hP hQ ha hb rfl rfl
 unfold TriRep
 simp only
 generalize hz : a.z * b.z % p = z;generalize hm : dn * (a.x * b.x % p * (a.y * b.y % p) % p) % p = m
 have ez : fof z = fof a.z * fof b.z:=by rw [← hz,fof_mod,fof_mul]
 have em : fof m = dd * ((fof a.x * fof b.x) * (fof a.y * fof b.y)):=by
  rw [← hm];simp only [fof_mod,fof_mul]
  rfl
 have hmp : m < p:=by rw [← hm]; exact Nat.mod_lt _ (by decide)
 have es : fof (z * z % p + p - m) = fof z * fof z - fof m:=by
  rw [fof_sub (by omega),fof_add,fof_mod,fof_mul,show fof p = 0 from fof_eq (a:=p) (b:=0) (by decide)]
  grind only
 rw [← ez,← em] at h;simp only [fof_mod,fof_mul,fof_add,es];exact h

theorem triMul_rep : ∀ (n k : Nat) (acc q : Tri) (A Q : Ed.Pt p),k < 2 ^ n → Ed.On dd A → Ed.On dd Q → TriRep acc A → TriRep q Q → TriRep (triMul n k acc q) (Ed.add dd A (Ed.mul dd k Q))
 | 0,k,acc,q,A,Q,hk,hA,hQ,ha,hq=>by
  have : k = 0:=by simp at hk; omega
  subst this;rw [Ed.mul_0,Ed.add_zero good];exact ha
 | n + 1,k,acc,q,A,Q,hk,hA,hQ,ha,hq=>by
  have hk2 : k / 2 < 2 ^ n:=by rw [Nat.pow_succ] at hk; omega
  have h2:=triAdd_rep hQ hQ hq hq;have o2:=Ed.on_add good hQ hQ
  have e2 : Ed.mul dd (k / 2) (Ed.add dd Q Q) = Ed.mul dd (2 * (k / 2)) Q:=by
   rw [Ed.mul_mul good hQ,Ed.mul_2 good]
  show TriRep (triMul n (k / 2) (if k % 2 = 1 then triAdd acc q else acc) (triAdd q q)) _
  by_cases h : k % 2 = 1
  ·rw [if_pos h]
   have ih:=triMul_rep n (k / 2) (triAdd acc q) (triAdd q q) (Ed.add dd A Q) (Ed.add dd Q Q) hk2 (Ed.on_add good hA hQ) o2 (triAdd_rep hA hQ ha hq) h2;rw [e2,Ed.add_assoc good hA hQ (Ed.on_mul good hQ _),Ed.add_comm Q,← Ed.mul_succ,show 2 * (k / 2) + 1 = k by omega] at ih;exact ih
  ·rw [if_neg h]
   have ih:=triMul_rep n (k / 2) acc (triAdd q q) A (Ed.add dd Q Q) hk2 hA o2 ha h2;rw [e2,show 2 * (k / 2) = k by omega] at ih;exact ih

def LL : Nat:=7237005577332262213973186563042994240857116359379907606001950938285454250989

def ending : Bool :=
  let t:=triMul 253 LL ⟨0,1,1⟩ ⟨bx,bY,1⟩
  forced t.x fun x=>forced t.y fun y=>forced t.z fun z=>Nat.beq (x % p) 0 && Nat.beq (y % p) (z % p)

theorem ending_true : ending = true:=by decide +kernel

theorem order : Ed.mul dd LL base = Ed.zero:=by
 have ha : TriRep ⟨0,1,1⟩ Ed.zero:=by
  have:=Ed.Rep.zero prime_p
  unfold TriRep
  rw [fof_zero,fof_one];exact this
 have hq : TriRep ⟨bx,bY,1⟩ base:=by
  refine ⟨?_,?_,?_⟩
  ·show fof 1 ≠ 0
   rw [fof_one];exact fun h=>ne_one prime_p h.symm
  ·show fof bx = fof bx * fof 1
   rw [fof_one]
   grind only
  ·show fof bY = fof bY * fof 1
   rw [fof_one]
   grind only
 have h:=triMul_rep 253 LL _ _ Ed.zero base (by decide) Ed.on_zero on_base ha hq;rw [Ed.zero_add good] at h;have e:=ending_true
 unfold ending at e
 simp only [forced_eq] at e;generalize triMul 253 LL ⟨0,1,1⟩ ⟨bx,bY,1⟩ = t at h e;rw [Bool.and_eq_true] at e;obtain ⟨e1,e2⟩:=e;have e1:=Nat.eq_of_beq_eq_true e1;have e2:=Nat.eq_of_beq_eq_true e2;have x0 : fof t.x = 0:=Fin.ext e1;have yz : fof t.y = fof t.z:=Fin.ext e2
 have hz : Ed.Rep (fof t.x) (fof t.y) (fof t.z) Ed.zero:=by
  refine ⟨h.z,?_,?_⟩
  ·rw [x0]
   show (0 : F) = 0 * fof t.z
   grind only
  ·rw [yz]
   show fof t.z = 1 * fof t.z
   grind only
 exact Ed.Rep.same prime_p h hz

end Nums

namespace Nums

def V : List Int → Int
  | []=>0
  | d :: ds=>d + 65536 * V ds

def W : Nat → Int
  | 0=>1
  | k + 1=>65536 * W k

theorem W_pos : ∀ k,0 < W k
 | 0=>by decide
 | k + 1=>by have:=W_pos k; show 0 < 65536 * W k; omega
theorem W_add (j : Nat) : ∀ k,W (j + k) = W j * W k
 | 0=>by show W j = W j * 1; omega
 | k + 1=>by
  show 65536 * W (j + k) = W j * (65536 * W k)
  rw [W_add j k]
  grind only

theorem V_append (a b : List Int) : V (a ++ b) = V a + W a.length * V b:=by
 induction a with
 | nil=>show V b = 0 + 1 * V b; omega
 | cons d ds ih =>
  show d + 65536 * V (ds ++ b) = d + 65536 * V ds + 65536 * W ds.length * V b
  rw [ih]
  grind only

theorem V_set : ∀ (l : List Int) (k : Nat) (x : Int),k < l.length → V (l.set k x) = V l + (x - l[k]!) * W k
 | [],k,x,h=>absurd h (by simp)
 | d :: ds,0,x,h=>by
  show x + 65536 * V ds = d + 65536 * V ds + (x - d) * 1
  omega
 | d :: ds,k + 1,x,h=>by
  have ih:=V_set ds k x (by simpa using h)
  show d + 65536 * V (ds.set k x) = d + 65536 * V ds + (x - (d :: ds)[k+1]!) * (65536 * W k)
  rw [ih,show (d :: ds)[k+1]! = ds[k]! from rfl]
  grind only

def Small (l : List Int) : Prop:=∀ x ∈ l,0 ≤ x ∧ x < 65536

theorem V_small {l : List Int} (h : Small l) : 0 ≤ V l ∧ V l < W l.length:=by
 induction l with
 | nil=>exact ⟨by decide,by decide⟩
 | cons d ds ih =>
  have h1:=ih (fun x hx=>h x (List.mem_cons_of_mem _ hx));have h2:=h d (List.mem_cons_self ..)
  show 0 ≤ d + 65536 * V ds ∧ d + 65536 * V ds < 65536 * W ds.length
  omega

def chain : Int → List Int → List Int × Int
  | c,[]=>([],c)
  | c,d :: ds=>(((d + c) % 65536) :: (chain ((d + c) / 65536) ds).1,(chain ((d + c) / 65536) ds).2)

theorem chain_len : ∀ (c : Int) (l : List Int),(chain c l).1.length = l.length
 | _,[]=>rfl
 | c,d :: ds=>by
  show (chain ((d + c) / 65536) ds).1.length + 1 = ds.length + 1
  rw [chain_len]

theorem chain_small : ∀ (c : Int) (l : List Int),Small (chain c l).1
 | _,[]=>fun x hx=>absurd hx (by simp [chain])
 | c,d :: ds=>by
  intro x hx
  have hx : x ∈ ((d + c) % 65536) :: (chain ((d + c) / 65536) ds).1:=hx
  rcases List.mem_cons.mp hx with rfl | hx
  ·omega
  ·exact chain_small _ ds x hx

theorem chain_V : ∀ (c : Int) (l : List Int),V (chain c l).1 + (chain c l).2 * W l.length = V l + c
 | c,[]=>by show 0 + c * 1 = 0 + c; omega
 | c,d :: ds=>by
  have ih:=chain_V ((d + c) / 65536) ds
  show ((d + c) % 65536 + 65536 * V (chain ((d + c) / 65536) ds).1) + (chain ((d + c) / 65536) ds).2 * (65536 * W ds.length) = d + 65536 * V ds + c
  generalize V (chain ((d + c) / 65536) ds).1 = v at *;generalize (chain ((d + c) / 65536) ds).2 = w at *
  have e : w * (65536 * W ds.length) = 65536 * (w * W ds.length):=by grind only
  rw [e];generalize w * W ds.length = z at *
  omega

theorem chain_out (c : Int) (l : List Int) : (chain c l).2 = (V l + c) / W l.length ∧ V (chain c l).1 = (V l + c) % W l.length:=by
 have h:=chain_V c l;have hs:=V_small (chain_small c l);rw [chain_len] at hs;have hW:=W_pos l.length;generalize W l.length = w at *;generalize V (chain c l).1 = v at *;generalize (chain c l).2 = q at *;rw [← h]
 constructor
 ·rw [Int.add_mul_ediv_right _ _ (by omega),Int.ediv_eq_zero_of_lt hs.1 hs.2]
  omega
 ·rw [Int.add_mul_emod_self_right,Int.emod_eq_of_lt hs.1 hs.2]

theorem div_bound {v w b : Int} (hw : 0 < w) (h : v < b * w) (h' : -(b * w) ≤ v) : -b ≤ v / w ∧ v / w < b:=by
 constructor
 ·rw [Int.le_ediv_iff_mul_le hw]
  have : -b * w = -(b * w):=by grind only
  omega
 ·rw [Int.ediv_lt_iff_lt_mul hw]
  exact h

end Nums

namespace Nums

def zf (v : Int) : F:=fof (v % (p : Int)).toNat
theorem zf_eq {a b : Int} (h : a % (p : Int) = b % (p : Int)) : zf a = zf b:=by unfold zf; rw [h]
theorem zf_nat (a : Nat) : zf (a : Int) = fof a:=by
 unfold zf
 rw [← Int.natCast_emod,Int.toNat_natCast,fof_mod]
theorem zf_val (v : Int) : ((zf v).val : Int) = v % (p : Int):=by
 have h0 : 0 ≤ v % (p : Int):=Int.emod_nonneg _ (by decide);have h1 : v % (p : Int) < p:=Int.emod_lt_of_pos _ (by decide)
 unfold zf
 rw [fof_val,Nat.mod_eq_of_lt (by omega)]
 omega
theorem zf_inj {a b : Int} (h : zf a = zf b) : a % (p : Int) = b % (p : Int):=by rw [← zf_val,← zf_val,h]
theorem zf_add (a b : Int) : zf (a + b) = zf a + zf b:=by
 apply Fin.ext
 have h:=zf_val (a + b)
 show (zf (a + b)).val = ((zf a).val + (zf b).val) % p
 have h2 : (((zf a).val + (zf b).val) % p : Nat) = (((zf a).val : Int) + (zf b).val) % (p : Int):=by simp
 have h3 : ((zf (a + b)).val : Int) = (((zf a).val + (zf b).val) % p : Nat):=by
  rw [h2,h,zf_val,zf_val,← Int.add_emod]
 exact_mod_cast h3
theorem zf_mul (a b : Int) : zf (a * b) = zf a * zf b:=by
 apply Fin.ext
 have h:=zf_val (a * b)
 show (zf (a * b)).val = ((zf a).val * (zf b).val) % p
 have h2 : (((zf a).val * (zf b).val) % p : Nat) = (((zf a).val : Int) * (zf b).val) % (p : Int):=by simp
 have h3 : ((zf (a * b)).val : Int) = (((zf a).val * (zf b).val) % p : Nat):=by
  rw [h2,h,zf_val,zf_val,← Int.mul_emod]
 exact_mod_cast h3
theorem zf_sub (a b : Int) : zf (a - b) = zf a - zf b:=by
 have h : zf a = zf (a - b) + zf b:=by rw [← zf_add]; congr 1; omega
 rw [h]
 grind only
theorem W16 : W 16 = 2 * (p : Int) + 38:=by decide

def carry (l : List Int) : List Int :=
  match chain 0 l with
  | (d :: ds,c)=>(d + 38 * c) :: ds
  | ([],_)=>[]

def Loose (lo hi : Int) (l : List Int) : Prop:=∃ d ds,l = d :: ds ∧ ds.length = 15 ∧ Small ds ∧ lo ≤ d ∧ d ≤ hi

theorem carry_all {l : List Int} (h : l.length = 16) :
  Loose (38 * (V l / W 16)) (65535 + 38 * (V l / W 16)) (carry l) ∧ V (carry l) = V l % W 16 + 38 * (V l / W 16):=by
 have ho:=chain_out 0 l;have hs:=chain_small 0 l;have hl:=chain_len 0 l
 unfold carry
 rw [h] at ho hl;generalize chain 0 l = q at *;obtain ⟨ds,c⟩:=q
 match ds with
 | []=>simp at hl
 | d :: ds =>
  have hd:=hs d (List.mem_cons_self ..);simp only [Int.add_zero] at ho
  simp only
  refine ⟨⟨d + 38 * c,ds,rfl,by simpa using hl,fun x hx=>hs x (List.mem_cons_of_mem _ hx),?_,?_⟩,?_⟩
  ·rw [← ho.1]; omega
  ·rw [← ho.1]; omega
  ·rw [← ho.1,← ho.2]
   show d + 38 * c + 65536 * V ds = d + 65536 * V ds + 38 * c
   omega

theorem Loose.len {lo hi : Int} {l : List Int} (h : Loose lo hi l) : l.length = 16:=by
 obtain ⟨d,ds,rfl,h1,_⟩:=h
 simp [h1]
theorem Loose.small {lo hi : Int} {l : List Int} (h : Loose lo hi l) (h0 : 0 ≤ lo) (h1 : hi < 65536) : Small l:=by
 obtain ⟨d,ds,rfl,_,h2,h3,h4⟩:=h
 intro x hx
 rcases List.mem_cons.mp hx with rfl | hx
 ·omega
 ·exact h2 x hx
theorem Loose.mono {lo hi lo' hi' : Int} {l : List Int} (h : Loose lo hi l) (h0 : lo' ≤ lo) (h1 : hi ≤ hi') : Loose lo' hi' l:=by
 obtain ⟨d,ds,e,h1,h2,h3,h4⟩:=h;exact ⟨d,ds,e,h1,h2,by omega,by omega⟩

theorem carry_zf {l : List Int} (h : l.length = 16) : zf (V (carry l)) = zf (V l):=by
 rw [(carry_all h).2]
 apply zf_eq
 have h1:=Int.emod_add_mul_ediv (V l) (W 16);have h2:=W16;generalize V l / W 16 = c at *
 have h3 : V l % W 16 + 38 * c = V l + (-2 * c) * (p : Int):=by
  rw [← h1,h2]
  grind only
 rw [h3,Int.add_mul_emod_self_right]

theorem big : 1000000000000000000000000000000 < W 16:=by decide

theorem carry_two {l : List Int} (h : l.length = 16) (hb : V l < 140737488355328 * W 16) (hb' : -(140737488355328 * W 16) ≤ V l) :
  Loose (-38) 65573 (carry (carry l)) ∧ V (carry (carry l)) = V (carry l) % W 16 + 38 * (V (carry l) / W 16) ∧ (V (carry l) / W 16 = -1 ∨ V (carry l) / W 16 = 0 ∨ V (carry l) / W 16 = 1)
   ∧ (-5348024557502464 ≤ V (carry l) ∧ V (carry l) < W 16 + 5348024557502464):=by
 have c1:=carry_all h;have c2:=carry_all c1.1.len;have hc:=div_bound (W_pos 16) hb hb';have hW:=big;have hr:=Int.emod_nonneg (V l) (b:=W 16) (by have:=W_pos 16; omega);have hr2:=Int.emod_lt_of_pos (V l) (W_pos 16);rw [c1.2] at c2 ⊢;generalize V l / W 16 = c at *;generalize V l % W 16 = r at *;have hq:=div_bound (v:=r + 38 * c) (w:=W 16) (b:=2) (W_pos 16) (by omega) (by omega)
 have hq2 : -1 ≤ (r + 38 * c) / W 16:=by
  rw [Int.le_ediv_iff_mul_le (W_pos 16)]
  omega
 generalize hqe : (r + 38 * c) / W 16 = q at *;refine ⟨c2.1.mono (by omega) (by omega),c2.2,by omega,by omega,by omega⟩

theorem carry_three {l : List Int} (h : l.length = 16) (hb : V l < 140737488355328 * W 16) (hb' : -(140737488355328 * W 16) ≤ V l) :
  (carry (carry (carry l))).length = 16 ∧ Small (carry (carry (carry l))) ∧ zf (V (carry (carry (carry l)))) = zf (V l):=by
 obtain ⟨k1,k2,k3,k4,k5⟩:=carry_two h hb hb';have c1:=carry_all h;have c2:=carry_all c1.1.len;have c3:=carry_all k1.len;refine ⟨c3.1.len,?_,by rw [carry_zf k1.len,carry_zf c1.1.len,carry_zf h]⟩;have hW:=big;have hr:=Int.emod_nonneg (V (carry l)) (b:=W 16) (by have:=W_pos 16; omega);have hr2:=Int.emod_lt_of_pos (V (carry l)) (W_pos 16);have hd:=Int.emod_add_mul_ediv (V (carry l)) (W 16)
 have h0 : V (carry (carry l)) / W 16 = 0:=by
  rw [k2];generalize V (carry l) = v at *
  apply Int.ediv_eq_zero_of_lt
  ·rcases k3 with k3 | k3 | k3
   ·rw [k3] at hd ⊢; omega
   ·rw [k3] at hd ⊢; omega
   ·rw [k3] at hd ⊢; omega
  ·rcases k3 with k3 | k3 | k3
   ·rw [k3] at hd ⊢; omega
   ·rw [k3] at hd ⊢; omega
   ·rw [k3] at hd ⊢; omega
 rw [h0] at c3;exact c3.1.small (by omega) (by omega)

end Nums

namespace Nums

theorem V_zip (f : Int → Int → Int) (k : Int) (hf : ∀ x y,f x y = x + k * y) : ∀ (a b : List Int),a.length = b.length → V (List.zipWith f a b) = V a + k * V b
 | [],[],_=>by show (0 : Int) = 0 + k * 0; omega
 | x :: a,y :: b,h=>by
  have ih:=V_zip f k hf a b (by simpa using h)
  show f x y + 65536 * V (List.zipWith f a b) = x + 65536 * V a + k * (y + 65536 * V b)
  rw [ih,hf]
  grind only

def pdig : List Int:=[65517,65535,65535,65535,65535,65535,65535,65535,65535,65535,65535,65535,65535,65535,65535,32767]
theorem V_pdig : V pdig = (p : Int):=by decide
theorem W15 : W 16 = 65536 * W 15:=rfl

def lessp (l : List Int) : List Int:=List.zipWith (fun x y=>x - y) l pdig
theorem lessp_len {l : List Int} (h : l.length = 16) : (lessp l).length = 16:=by simp [lessp,h,pdig]
theorem V_lessp {l : List Int} (h : l.length = 16) : V (lessp l) = V l - (p : Int):=by
 rw [lessp,V_zip _ (-1) (fun x y=>by omega) l pdig (by simp [h,pdig]),V_pdig]
 omega

def lent (l : List Int) : List Int:=(chain 0 (l.take 15)).1 ++ [l[15]! + (chain 0 (l.take 15)).2]

theorem take15 {l : List Int} (h : l.length = 16) : l = l.take 15 ++ [l[15]!]:=by
 have h1 : l.drop 15 = [l[15]!]:=by
  rw [List.drop_eq_getElem_cons (by omega),List.drop_eq_nil_of_le (by omega)];rw [getElem!_pos l 15 (by omega)]
 calc l = l.take 15 ++ l.drop 15:=(List.take_append_drop 15 l).symm
  _ = _:=by rw [h1]

theorem lent_all {l : List Int} (h : l.length = 16) :
  (lent l).length = 16 ∧ Small ((lent l).take 15) ∧ V (lent l) = V l ∧ (0 ≤ (lent l)[15]! ↔ 0 ≤ V l) ∧ V (lent l) = V ((lent l).take 15) + W 15 * (lent l)[15]!:=by
 have ht : (l.take 15).length = 15:=by simp [h]
 have hl:=chain_len 0 (l.take 15);have hs:=chain_small 0 (l.take 15);have hv:=chain_V 0 (l.take 15);have he:=take15 h
 have hV : V l = V (l.take 15) + W 15 * (l[15]! + 65536 * 0):=by
  conv=>lhs; rw [he]
  rw [V_append,ht]
  rfl
 unfold lent
 rw [ht] at hl hv;generalize chain 0 (l.take 15) = q at *;obtain ⟨ds,c⟩:=q;simp only at hl hs hv ⊢
 have g1 : (ds ++ [l[15]! + c])[15]! = l[15]! + c:=by
  rw [getElem!_pos _ 15 (by simp [hl]),List.getElem_append_right (by omega)]
  simp [hl]
 have g2 : (ds ++ [l[15]! + c]).take 15 = ds:=by rw [← hl,List.take_left]
 have g3 : V (ds ++ [l[15]! + c]) = V ds + W 15 * (l[15]! + c + 65536 * 0):=by rw [V_append,hl]; rfl
 have hd:=V_small hs;rw [hl] at hd
 have e : V (ds ++ [l[15]! + c]) = V l:=by
  rw [g3,hV]
  have : c * W 15 = W 15 * c:=by grind only
  grind only
 refine ⟨by simp [hl],by rw [g2]; exact hs,e,?_,by rw [g1,g2,g3]; simp⟩;rw [g1,← e,g3];have hW:=W_pos 15;generalize l[15]! + c = x at *
 constructor
 ·intro hx
  have : 0 ≤ W 15 * (x + 65536 * 0):=Int.mul_nonneg (by omega) (by omega)
  omega
 ·intro hx
  apply Classical.byContradiction
  intro hn
  have h2 : W 15 * (x + 65536 * 0) ≤ W 15 * (-1):=Int.mul_le_mul_of_nonneg_left (by omega) (by omega)
  omega

def redp (l : List Int) : List Int:=if 0 ≤ (lent (lessp l))[15]! then lent (lessp l) else l

theorem redp_all {l : List Int} (h : l.length = 16) (hs : Small l) :
  (redp l).length = 16 ∧ Small (redp l) ∧ V (redp l) = if (p : Int) ≤ V l then V l - (p : Int) else V l:=by
 have ha:=lent_all (lessp_len h);rw [V_lessp h] at ha;have hv:=V_small hs;rw [h] at hv
 have hp : (0 : Int) < (p : Int):=by decide
 unfold redp
 by_cases hc : 0 ≤ (lent (lessp l))[15]!
 ·have h1:=ha.2.2.2.1.mp hc
  rw [if_pos hc,if_pos (by omega)];refine ⟨ha.1,?_,ha.2.2.1⟩;have h2:=ha.2.2.2.2;have h3:=ha.2.2.1;have h4:=V_small ha.2.1
  intro x hx
  rw [take15 ha.1] at hx
  rcases List.mem_append.mp hx with hx | hx
  ·exact ha.2.1 x hx
  ·have hx : x = (lent (lessp l))[15]!:=by simpa using hx
   subst hx;refine ⟨hc,?_⟩;generalize (lent (lessp l))[15]! = y at *
   apply Classical.byContradiction
   intro hn
   have h5 : W 15 * 65536 ≤ W 15 * y:=Int.mul_le_mul_of_nonneg_left (by omega) (by have:=W_pos 15; omega);have h6:=W15
   omega
 ·have h1 : ¬ 0 ≤ V l - (p : Int):=fun h=>hc (ha.2.2.2.1.mpr h)
  rw [if_neg hc,if_neg (by omega)];exact ⟨h,hs,rfl⟩

def pack (l : List Int) : List Int:=redp (redp (carry (carry (carry l))))

theorem pack_all {l : List Int} (h : l.length = 16) (hb : V l < 140737488355328 * W 16) (hb' : -(140737488355328 * W 16) ≤ V l) :
  (pack l).length = 16 ∧ Small (pack l) ∧ V (pack l) = ((zf (V l)).val : Int):=by
 obtain ⟨a1,a2,a3⟩:=carry_three h hb hb'
 unfold pack
 generalize carry (carry (carry l)) = t at *;have r1:=redp_all a1 a2;have r2:=redp_all r1.1 r1.2.1;refine ⟨r2.1,r2.2.1,?_⟩;have hv:=V_small a2;rw [a1,W16] at hv
 have hz : V (redp (redp t)) % (p : Int) = V l % (p : Int):=by
  rw [← zf_inj a3,r2.2.2,r1.2.2]
  by_cases h1 : (p : Int) ≤ V t
  ·rw [if_pos h1]
   by_cases h2 : (p : Int) ≤ V t - (p : Int)
   ·rw [if_pos h2,Int.sub_emod_right,Int.sub_emod_right]
   ·rw [if_neg h2,Int.sub_emod_right]
  ·rw [if_neg h1,if_neg h1]
 rw [zf_val,← hz]
 have hp : (38 : Int) < (p : Int):=by decide
 have hlt : 0 ≤ V (redp (redp t)) ∧ V (redp (redp t)) < (p : Int):=by
  rw [r2.2.2,r1.2.2]
  by_cases h1 : (p : Int) ≤ V t
  ·rw [if_pos h1]
   by_cases h2 : (p : Int) ≤ V t - (p : Int)
   ·rw [if_pos h2]; omega
   ·rw [if_neg h2]; omega
  ·rw [if_neg h1,if_neg h1]; omega
 rw [Int.emod_eq_of_lt hlt.1 hlt.2]

def folded (t : List Int) : List Int:=List.zipWith (fun x y=>x + 38 * y) (t.take 16) (t.drop 16 ++ [0])

theorem V_folded {t : List Int} (h : t.length = 31) : (folded t).length = 16 ∧ zf (V (folded t)) = zf (V t):=by
 refine ⟨by simp [folded,h],?_⟩;have h1:=V_append (t.take 16) (t.drop 16);rw [List.take_append_drop,show (t.take 16).length = 16 by simp [h]] at h1;have h2:=V_append (t.drop 16) [0];rw [show V [0] = 0 from rfl,Int.mul_zero,Int.add_zero] at h2
 apply zf_eq
 rw [folded,V_zip _ 38 (fun x y=>rfl) _ _ (by simp [h]),h2,h1,W16];generalize V (t.take 16) = a;generalize V (t.drop 16) = b
 have : a + (2 * (p : Int) + 38) * b = a + 38 * b + (2 * b) * (p : Int):=by grind only
 rw [this,Int.add_mul_emod_self_right]

def Bnd (B : Int) (l : List Int) : Prop:=∀ x ∈ l, -B ≤ x ∧ x ≤ B

theorem V_bnd {B : Int} {l : List Int} (h : Bnd B l) : -(B * (W l.length - 1)) ≤ 65535 * V l ∧ 65535 * V l ≤ B * (W l.length - 1):=by
 induction l with
 | nil =>
  show -(B * (1 - 1)) ≤ 65535 * 0 ∧ 65535 * 0 ≤ B * (1 - 1)
  omega
 | cons d ds ih =>
  have h2:=h d (List.mem_cons_self ..);have h1:=ih (fun x hx=>h x (List.mem_cons_of_mem _ hx))
  show -(B * (65536 * W ds.length - 1)) ≤ 65535 * (d + 65536 * V ds) ∧ 65535 * (d + 65536 * V ds) ≤ B * (65536 * W ds.length - 1)
  have e : B * (65536 * W ds.length - 1) = 65536 * (B * (W ds.length - 1)) + 65535 * B:=by grind only
  rw [e];generalize B * (W ds.length - 1) = z at *
  omega

theorem V_room {l : List Int} (hl : l.length = 16) (h : Bnd 4611686018427387904 l) : V l < 140737488355328 * W 16 ∧ -(140737488355328 * W 16) ≤ V l:=by
 have h1:=V_bnd h;rw [hl] at h1;have h2:=W_pos 16
 omega

theorem Small.bnd {l : List Int} (h : Small l) : Bnd 65535 l:=fun x hx=>by have:=h x hx; omega
theorem Bnd.mono {B C : Int} {l : List Int} (h : Bnd B l) (hc : B ≤ C) : Bnd C l:=fun x hx=>by have:=h x hx; omega
theorem Loose.bnd {lo hi B : Int} {l : List Int} (h : Loose lo hi l) (h0 : -B ≤ lo) (h1 : hi ≤ B) (h2 : 65535 ≤ B) : Bnd B l:=by
 obtain ⟨d,ds,rfl,_,h3,h4,h5⟩:=h
 intro x hx
 rcases List.mem_cons.mp hx with rfl | hx
 ·omega
 ·have:=h3 x hx; omega

def le : List UInt8 → Nat
  | []=>0
  | b :: bs=>b.toNat + 256 * le bs

def split : List Int → List UInt8
  | []=>[]
  | d :: ds=>UInt8.ofNat (d % 256).toNat :: UInt8.ofNat (d / 256).toNat :: split ds
def join : List UInt8 → List Int
  | a :: b :: bs=>((a.toNat : Int) + 256 * (b.toNat : Int)) :: join bs
  | _=>[]

theorem split_len : ∀ l : List Int,(split l).length = 2 * l.length
 | []=>rfl
 | d :: ds=>by
  show (split ds).length + 1 + 1 = 2 * (ds.length + 1)
  rw [split_len ds]
  omega

theorem le_split : ∀ {l : List Int},Small l → (le (split l) : Int) = V l
 | [],_=>rfl
 | d :: ds,h=>by
  have h1:=h d (List.mem_cons_self ..);have ih:=le_split (l:=ds) (fun x hx=>h x (List.mem_cons_of_mem _ hx))
  show (((UInt8.ofNat (d % 256).toNat).toNat + 256 * ((UInt8.ofNat (d / 256).toNat).toNat + 256 * le (split ds)) : Nat) : Int) = d + 65536 * V ds
  rw [← ih,UInt8.toNat_ofNat',UInt8.toNat_ofNat']
  omega

theorem le_inj : ∀ {a b : List UInt8},a.length = b.length → le a = le b → a = b
 | [],[],_,_=>rfl
 | x :: a,y :: b,hl,h=>by
  have h1:=x.toNat_lt;have h2:=y.toNat_lt;have h3 : x.toNat + 256 * le a = y.toNat + 256 * le b:=h;have h4 : x = y:=UInt8.toNat.inj (by omega);have h5:=le_inj (a:=a) (b:=b) (by simpa using hl) (by omega);rw [h4,h5]

def bytes : Nat → Nat → List UInt8
  | 0,_=>[]
  | k + 1,v=>UInt8.ofNat v :: bytes k (v / 256)
theorem bytes_len : ∀ k v,(bytes k v).length = k
 | 0,_=>rfl
 | k + 1,v=>by show (bytes k (v / 256)).length + 1 = k + 1; rw [bytes_len]
theorem le_bytes : ∀ k v,le (bytes k v) = v % 256 ^ k
 | 0,v=>by show 0 = v % 1; omega
 | k + 1,v=>by
  show (UInt8.ofNat v).toNat + 256 * le (bytes k (v / 256)) = v % 256 ^ (k + 1)
  rw [le_bytes,UInt8.toNat_ofNat',show 256 ^ (k + 1) = 256 * 256 ^ k by rw [Nat.pow_succ,Nat.mul_comm],Nat.mod_mul]

def enc (x : F) : List UInt8:=bytes 32 x.val
theorem enc_len (x : F) : (enc x).length = 32:=bytes_len _ _
theorem le_enc (x : F) : le (enc x) = x.val:=by
 unfold enc
 rw [le_bytes];exact Nat.mod_eq_of_lt (Nat.lt_trans x.isLt (by decide))
theorem enc_inj {x y : F} (h : enc x = enc y) : x = y:=by
 apply Fin.ext
 rw [← le_enc,← le_enc,h]
theorem enc_of {b : List UInt8} (hb : b.length = 32) {x : F} (h : le b = x.val) : b = enc x :=
 le_inj (by rw [hb,enc_len]) (by rw [h,le_enc])
theorem split_pack {l : List Int} (h : l.length = 16) (hb : Bnd 4611686018427387904 l) : split (pack l) = enc (zf (V l)):=by
 obtain ⟨v1,v2⟩:=V_room h hb;obtain ⟨a1,a2,a3⟩:=pack_all h v1 v2
 apply enc_of
 ·rw [split_len,a1]
 ·have:=le_split a2
  omega

end Nums
/-
  WORDS OF 64 BITS: rows of words, the walk's numbers made natural; a number's words and bytes.
-/
namespace Go.Proofs.YtminmeljonbogaaDoor
open Go.RowKit Go.IntWalk

def Us (l : List Nat) : List Value:=l.map fun x : Nat=>.int .u64 (x : Int)
theorem Us_len (l : List Nat) : (Us l).length = l.length:=by simp [Us]
theorem Us_one (l : List Nat) : ∀ u ∈ Us l,u.oneCell' = true:=by
 intro u hu
 obtain ⟨x,_,rfl⟩:=List.mem_map.1 hu
 rfl
theorem Us_at {l : List Nat} {j : Nat} (h : j < l.length) : (Us l).toArray[j]? = some (.int .u64 (l[j]! : Nat)):=by
 simp [Us,h]
theorem Us_set (l : List Nat) (k x : Nat) : (Us l).toArray.setIfInBounds k (.int .u64 (x : Int)) = (Us (l.set k x)).toArray:=by
 simp [Us,List.map_set]

theorem maskW (a : Nat) (ha : a < 18446744073709551616) : bits .and .u64 (a : Int) 2251799813685247 = ((a % 2251799813685248 : Nat) : Int):=by
 have h:=u64_and_nat a 2251799813685247 ha (by omega);have e : a &&& 2251799813685247 = a % 2251799813685248:=Nat.and_two_pow_sub_one_eq_mod a 51;rw [e] at h;exact h

theorem orW (i x y : Nat) (hx : x % 2 ^ i = 0) (hy : y < 2 ^ i) (h1 : x < 18446744073709551616) (h2 : y < 18446744073709551616) : bits .or .u64 (x : Int) (y : Int) = ((x + y : Nat) : Int):=by
 rw [u64_or_nat x y h1 h2,nat_join i x y hx hy]
/-! ### The numbers of a walk, made natural -/
theorem mask32 (a : Nat) (ha : a < 18446744073709551616) : bits .and .u64 (a : Int) 4294967295 = ((a % 4294967296 : Nat) : Int):=by
 have h:=u64_and_nat a 4294967295 ha (by omega);have e : a &&& 4294967295 = a % 4294967296:=Nat.and_two_pow_sub_one_eq_mod a 32;rw [e] at h;exact h
theorem div32 (a : Nat) : (a : Int) / 4294967296 = ((a / 4294967296 : Nat) : Int):=by omega
theorem div51 (a : Nat) : (a : Int) / 2251799813685248 = ((a / 2251799813685248 : Nat) : Int):=by omega
theorem mulN (a b : Nat) : (a : Int) * (b : Int) = ((a * b : Nat) : Int):=(Int.natCast_mul a b).symm
theorem addN (a b : Nat) : (a : Int) + (b : Int) = ((a + b : Nat) : Int):=(Int.natCast_add a b).symm
theorem wrapN (a : Nat) (ha : a < 18446744073709551616) : IntKind.u64.wrap (a : Int) = (a : Int):=by rw [IntKind.wrap_u64]; omega
theorem wrapM (a : Nat) : IntKind.u64.wrap (a : Int) = ((a % 18446744073709551616 : Nat) : Int):=by rw [IntKind.wrap_u64]; omega

def subEntry : Array Value → Sem Value:=fun args=>do
  let (x,y,b) ← Extern.MathBitsCarry.three "Sub64" args
  pure (Extern.MathBitsCarry.pair ((x + Extern.MathBitsCarry.m64 - y - b) % Extern.MathBitsCarry.m64) (if x < y + b then 1 else 0))
theorem run_sub {P : Program} (x y b : Nat) (hb : b ≤ 1) (w : World) :
  (subEntry #[.int .u64 x,.int .u64 y,.int .u64 b]).run P w =
   .ok (.tuple #[.int .u64 (((x + 18446744073709551616 - y - b) % 18446744073709551616 : Nat) : Int),.int .u64 ((if x < y + b then 1 else 0 : Nat) : Int)]) w:=by
 have : b = 0 ∨ b = 1:=by omega
 rcases this with rfl | rfl <;> rfl

/-! ### Bytes and words -/
def fb (l : List UInt8) (n : Nat) : List UInt8:=(List.range 32).map fun m=>if m < n then l[m]! else 0
theorem fb_len (l : List UInt8) (n : Nat) : (fb l n).length = 32:=by simp [fb]
theorem fb_zero (l : List UInt8) : fb l 0 = List.replicate 32 0:=by
 apply List.ext_getElem (by simp [fb])
 intro i h1 h2
 rw [List.getElem_replicate]
 simp [fb]
theorem fb_all {l : List UInt8} (h : l.length = 32) : fb l 32 = l:=by
 apply List.ext_getElem (by simp [fb,h])
 intro i h1 h2
 have h3 : i < 32:=by simpa [fb] using h1
 simp [fb,h3,h2]
theorem fb_set (l : List UInt8) {n : Nat} : (fb l n).set n l[n]! = fb l (n + 1):=by
 apply List.ext_getElem (by simp [fb])
 intro j h1 h2
 rw [List.getElem_set];simp only [fb,List.getElem_map,List.getElem_range]
 by_cases hjk : n = j
 ·subst hjk
  simp
 ·rw [if_neg hjk]
  by_cases hlt : j < n
  ·rw [if_pos hlt,if_pos (by omega)]
  ·rw [if_neg hlt,if_neg (by omega)]

theorem bytes_get : ∀ (k v : Nat) {m : Nat},m < k → ((Nums.bytes k v)[m]!).toNat = v / 256 ^ m % 256
 | k + 1,v,0,_=>by
  show (UInt8.ofNat v).toNat = v / 1 % 256
  rw [UInt8.toNat_ofNat',Nat.div_one]
 | k + 1,v,m + 1,h=>by
  have ih:=bytes_get k (v / 256) (m:=m) (by omega)
  show ((Nums.bytes k (v / 256))[m]!).toNat = v / 256 ^ (m + 1) % 256
  rw [ih,Nat.div_div_eq_div_mul,Nat.pow_succ,Nat.mul_comm 256]

def wd (L k : Nat) : Nat:=L / 18446744073709551616 ^ k % 18446744073709551616

theorem wd_byte (L k j : Nat) (hj : j < 8) : wd L k / 2 ^ (8 * j) % 256 = L / 256 ^ (8 * k + j) % 256:=by
 have e1 : (256 : Nat) ^ (8 * k + j) = 18446744073709551616 ^ k * 256 ^ j:=by
  rw [Nat.pow_add,Nat.pow_mul]
 have e2 : (2 : Nat) ^ (8 * j) = 256 ^ j:=by rw [Nat.pow_mul]
 rw [e1,e2,← Nat.div_div_eq_div_mul]
 unfold wd
 generalize L / 18446744073709551616 ^ k = z
 have h8 : j = 0 ∨ j = 1 ∨ j = 2 ∨ j = 3 ∨ j = 4 ∨ j = 5 ∨ j = 6 ∨ j = 7:=by omega
 rcases h8 with rfl | rfl | rfl | rfl | rfl | rfl | rfl | rfl <;> simp only [Nat.reducePow] <;> omega

end Go.Proofs.YtminmeljonbogaaDoor
/-
  ROWS OF CELLS, AND STORES OVER FRAMES BY WHAT IS KNOWN OF THEM.
-/
namespace Go.Proofs.YtminmeljonbogaaDoor
open Go.RowKit Go.IntWalk

structure VL (w : World) (g : Nat) (l : List Value) : Prop where
  lt : g < w.heap.size
  cell : ∀ j v,l[j]? = some v → w.cell? ⟨g,j,none⟩ = some v
  free : ∀ j,j < l.length → w.frozen? ⟨g,j,none⟩ = false
section
variable {w w' : World} {g B : Nat} {l : List Value}
theorem VL.below (h : VL w g l) (hb : Below B w w') (hg : g < B) : VL w' g l :=
 ⟨Nat.lt_of_lt_of_le h.lt hb.size,fun j v hj=>(hb.cell (p:=⟨g,j,none⟩) hg).trans (h.cell j v hj),fun j hj=>(hb.frozen (p:=⟨g,j,none⟩) hg).trans (h.free j hj)⟩
theorem VL.up (h : VL w g l) (hb : Up w w') : VL w' g l:=h.below hb h.lt
theorem VL.set (h : VL w g l) (k : Nat) (x : Value) : VL (w.setCell ⟨g,k,none⟩ x) g (l.set k x):=by
 refine ⟨by simpa [World.setCell] using h.lt,fun j v hj=>?_,fun j hj=>?_⟩
 ·rw [List.getElem?_set] at hj
  by_cases e : k = j
  ·subst e
   rw [if_pos rfl] at hj
   split at hj
   ·rename_i hk
    cases hj
    exact World.cell?_setCell_same _ _ _ (h.cell k l[k] (List.getElem?_eq_getElem hk))
   ·cases hj
  ·rw [if_neg e] at hj
   rw [World.cell?_setCell_other _ _ _ _ (by intro he; injection he with _ he _; omega),h.cell j v hj]
 ·rw [List.length_set] at hj
  rw [World.frozen?_setCell];exact h.free j hj
theorem VL.far (h : VL w g l) {p : Addr} (hp : g ≠ p.block) (u : Value) : VL (w.setCell p u) g l :=
 ⟨by simpa [World.setCell] using h.lt,fun j v hj=>by rw [World.cell?_setCell_other _ _ _ _ (fun e=>hp (by rw [e]))]; exact h.cell j v hj,fun j hj=>by rw [World.frozen?_setCell]; exact h.free j hj⟩
end
theorem Us_at? {l : List Nat} {j : Nat} (h : j < l.length) : (Us l)[j]? = some (.int .u64 (l[j]! : Nat)):=by
 simp [Us,h]
theorem Us_put (l : List Nat) (k x : Nat) : (Us l).set k (.int .u64 (x : Int)) = Us (l.set k x):=by
 simp [Us,List.map_set]
theorem By_at? {l : List UInt8} {j : Nat} (h : j < l.length) : (By l)[j]? = some (.int .u8 ((l[j]!).toNat : Int)):=by
 have h1:=By_get h
 simpa using h1
theorem VL.byte {w : World} {g : Nat} {l : List UInt8} (h : VL w g (By l)) {j : Nat} (hj : j < l.length) : w.cell? ⟨g,j,none⟩ = some (.int .u8 ((l[j]!).toNat : Int)):=h.cell j _ (By_at? hj)
theorem VL.word {w : World} {g : Nat} {l : List Nat} (h : VL w g (Us l)) {j : Nat} (hj : j < l.length) : w.cell? ⟨g,j,none⟩ = some (.int .u64 (l[j]! : Nat)):=h.cell j _ (Us_at? hj)

section
variable {ops : Array Oper} {Q : Exit → Act → World → Prop} {N : Nat} {E : List (Nat × Value)} {w : World}
theorem f_store {os : Oper} {px x : Operand} {t : TypeId} {K : IntKind} (p : Addr) (v : Int) (old : Value) (ht : (t = 56 ∧ K = .u64) ∨ (t = 5 ∧ K = .u8)) (hg : os.guard = none) (hd : os.dst = none) (ho : os.op = .store t px x) (hp : ev E px = some (.pointer (some p))) (hx : ev E x = some (.int K v))
  (hc : w.cell? p = some old) (hf : w.frozen? p = false) (hlt : p.block < w.heap.size) (h : ∀ w',Up w w' → kF (Q .normal) N E (w'.setCell p (.int K v))) :
  bF Tryd.prog ops (Up w) (fun a'=>∀ w',Up w w' → wpList Tryd.prog ops Q [os] a' w') [] N E:=fun a ha=>wpB_nil fun w' hw'=>by
 have h1:=ha.eval hp;have h2:=ha.eval hx;have h3 : w'.cell? p = some old:=(hw'.cell hlt).trans hc;have h4 : w'.frozen? p = false:=(hw'.frozen hlt).trans hf;have h5:=h w' hw' a ha
 unfold wpList
 rw [if_pos (by simp [Region.wanted,hg])];refine .inl ?_
 unfold Oper.wp execOp
 simp only [ho,h1,h2]
 have key : (Instr.storeAt t (.pointer (some p)) (.int K v)).run Tryd.prog w' = .ok () (w'.setCell p (.int K v)):=by
  rcases ht with ⟨rfl,rfl⟩ | ⟨rfl,rfl⟩ <;> go_simp
 simp only [Sem.run_bind,key,Result.andThen_ok,Sem.run_pure,Oper.upon,hd];exact h5
end
section
variable {ops : Array Oper} {C0 : World → Prop} {Q : Act → Prop} {N : Nat} {E : List (Nat × Value)} {o : Oper} {rest : List Oper} {k : Nat}
theorem f_subV {x y : Operand} {t : TypeId} (m n r : Int) (hg : o.guard = none) (hd : o.dst = some k) (hk : Nat.blt k N = true) (ho : o.op = .binOp .sub 25 x y t) (hx : ev E x = some (.int .u64 m)) (hy : ev E y = some (.int .u64 n))
  (hr : IntKind.u64.wrap (m - n) = r) (hn : bF Tryd.prog ops C0 Q rest N ((k,.int .u64 r) :: E)) : bF Tryd.prog ops C0 Q (o :: rest) N E :=
 f_val _ hg hd hk (fun a ha w _=>by
  have h1:=ha.eval hx;have h2:=ha.eval hy
  unfold execOp
  simp only [ho,h1,h2]
  go_simp) hn
theorem f_shrU {x y : Operand} {t : TypeId} (m : Int) (n : Nat) (r : Int) (h64 : n ≤ 64) (hg : o.guard = none) (hd : o.dst = some k) (hk : Nat.blt k N = true) (ho : o.op = .binOp .shr 56 x y t) (hx : ev E x = some (.int .u64 m)) (hy : ev E y = some (.int .u64 (n : Int)))
  (hr : m / 2 ^ n = r) (hn : bF Tryd.prog ops C0 Q rest N ((k,.int .u64 r) :: E)) : bF Tryd.prog ops C0 Q (o :: rest) N E :=
 f_val _ hg hd hk (fun a ha w _=>by
  have h1:=ha.eval hx;have h2:=ha.eval hy
  have h3 : (n : Int) ≤ 64:=by omega
  unfold execOp
  simp only [ho,h1,h2]
  go_simp) hn
end
theorem VL.new (w : World) (l : List Value) (t : TypeId) : VL (w.alloc (.cells l.toArray t)) w.heap.size l:=by
 have hb:=Blk.new w t l.toArray;exact ⟨by rw [World.size_alloc]; omega,fun j v hj=>by rw [hb.cell j]; simpa using hj,fun j _=>hb.free j⟩
section
variable {ops : Array Oper} {C0 : World → Prop} {Q : Act → Prop} {N : Nat} {E : List (Nat × Value)} {o : Oper} {rest : List Oper} {k : Nat}
theorem f_wordB {x : Operand} (m r : Int) (hg : o.guard = none) (hd : o.dst = some k) (hk : Nat.blt k N = true) (ho : o.op = .convert 5 56 x) (hx : ev E x = some (.int .u8 m))
  (hr : IntKind.u64.wrap m = r) (hn : bF Tryd.prog ops C0 Q rest N ((k,.int .u64 r) :: E)) : bF Tryd.prog ops C0 Q (o :: rest) N E :=
 f_val _ hg hd hk (fun a ha w _=>by
  have h1:=ha.eval hx
  unfold execOp
  simp only [ho,h1]
  go_simp) hn
theorem f_byteU {x : Operand} (m r : Int) (hg : o.guard = none) (hd : o.dst = some k) (hk : Nat.blt k N = true) (ho : o.op = .convert 56 5 x) (hx : ev E x = some (.int .u64 m))
  (hr : IntKind.u8.wrap m = r) (hn : bF Tryd.prog ops C0 Q rest N ((k,.int .u8 r) :: E)) : bF Tryd.prog ops C0 Q (o :: rest) N E :=
 f_val _ hg hd hk (fun a ha w _=>by
  have h1:=ha.eval hx
  unfold execOp
  simp only [ho,h1]
  go_simp) hn
theorem f_uintI {x : Operand} (m r : Int) (hg : o.guard = none) (hd : o.dst = some k) (hk : Nat.blt k N = true) (ho : o.op = .convert 3 25 x) (hx : ev E x = some (.int .i64 m))
  (hr : IntKind.u64.wrap m = r) (hn : bF Tryd.prog ops C0 Q rest N ((k,.int .u64 r) :: E)) : bF Tryd.prog ops C0 Q (o :: rest) N E :=
 f_val _ hg hd hk (fun a ha w _=>by
  have h1:=ha.eval hx
  unfold execOp
  simp only [ho,h1]
  go_simp) hn
theorem f_wordI {x : Operand} (m r : Int) (hg : o.guard = none) (hd : o.dst = some k) (hk : Nat.blt k N = true) (ho : o.op = .convert 3 56 x) (hx : ev E x = some (.int .i64 m))
  (hr : IntKind.u64.wrap m = r) (hn : bF Tryd.prog ops C0 Q rest N ((k,.int .u64 r) :: E)) : bF Tryd.prog ops C0 Q (o :: rest) N E :=
 f_val _ hg hd hk (fun a ha w _=>by
  have h1:=ha.eval hx
  unfold execOp
  simp only [ho,h1]
  go_simp) hn
theorem f_geqI {x y : Operand} {t : TypeId} (m n : Int) (q : Bool) (hg : o.guard = none) (hd : o.dst = some k) (hk : Nat.blt k N = true) (ho : o.op = .binOp .geq 3 x y t) (hx : ev E x = some (.int .i64 m)) (hy : ev E y = some (.int .i64 n))
  (hr : decide (n ≤ m) = q) (hn : bF Tryd.prog ops C0 Q rest N ((k,.bool q) :: E)) : bF Tryd.prog ops C0 Q (o :: rest) N E :=
 f_val _ hg hd hk (fun a ha w _=>by
  have h1:=ha.eval hx;have h2:=ha.eval hy;subst hr
  unfold execOp
  simp only [ho,h1,h2]
  go_simp) hn
theorem f_neqI {x y : Operand} {t : TypeId} (m n : Int) (q : Bool) (hg : o.guard = none) (hd : o.dst = some k) (hk : Nat.blt k N = true) (ho : o.op = .binOp .neq 3 x y t) (hx : ev E x = some (.int .i64 m)) (hy : ev E y = some (.int .i64 n))
  (hr : decide (m ≠ n) = q) (hn : bF Tryd.prog ops C0 Q rest N ((k,.bool q) :: E)) : bF Tryd.prog ops C0 Q (o :: rest) N E :=
 f_val _ hg hd hk (fun a ha w _=>by
  have h1:=ha.eval hx;have h2:=ha.eval hy;subst hr
  unfold execOp
  simp only [ho,h1,h2]
  by_cases e : m = n <;> go_simp) hn
theorem f_remI {x y : Operand} {t : TypeId} (m n r : Int) (hz : n ≠ 0) (hg : o.guard = none) (hd : o.dst = some k) (hk : Nat.blt k N = true) (ho : o.op = .binOp .rem 3 x y t) (hx : ev E x = some (.int .i64 m)) (hy : ev E y = some (.int .i64 n))
  (hr : m.tmod n = r) (hn : bF Tryd.prog ops C0 Q rest N ((k,.int .i64 r) :: E)) : bF Tryd.prog ops C0 Q (o :: rest) N E :=
 f_val _ hg hd hk (fun a ha w _=>by
  have h1:=ha.eval hx;have h2:=ha.eval hy;subst hr
  unfold execOp
  simp only [ho,h1,h2]
  go_simp) hn
theorem f_remU {x y : Operand} {t : TypeId} (m n r : Int) (hz : n ≠ 0) (hg : o.guard = none) (hd : o.dst = some k) (hk : Nat.blt k N = true) (ho : o.op = .binOp .rem 56 x y t) (hx : ev E x = some (.int .u64 m)) (hy : ev E y = some (.int .u64 n))
  (hr : m.tmod n = r) (hn : bF Tryd.prog ops C0 Q rest N ((k,.int .u64 r) :: E)) : bF Tryd.prog ops C0 Q (o :: rest) N E :=
 f_val _ hg hd hk (fun a ha w _=>by
  have h1:=ha.eval hx;have h2:=ha.eval hy;subst hr
  unfold execOp
  simp only [ho,h1,h2]
  go_simp) hn
theorem f_quoU {x y : Operand} {t : TypeId} (m n r : Int) (hz : n ≠ 0) (hg : o.guard = none) (hd : o.dst = some k) (hk : Nat.blt k N = true) (ho : o.op = .binOp .quo 56 x y t) (hx : ev E x = some (.int .u64 m)) (hy : ev E y = some (.int .u64 n))
  (hr : IntKind.u64.wrap (m.tdiv n) = r) (hn : bF Tryd.prog ops C0 Q rest N ((k,.int .u64 r) :: E)) : bF Tryd.prog ops C0 Q (o :: rest) N E :=
 f_val _ hg hd hk (fun a ha w _=>by
  have h1:=ha.eval hx;have h2:=ha.eval hy;subst hr
  unfold execOp
  simp only [ho,h1,h2]
  go_simp) hn
end
/-! ### The check of a region whose first forced operation waits for some by more than four steps -/
section
variable {ops : Array Oper}
def sinksD (f : Nat) (md : Region.Mode) (ops : Array Oper) (N : Nat) : Bool:=match ops[N]? with
  | none=>true
  | some o=>(List.range N).all fun i=>edgeTo md o i || waitsT md ops (min f ops.size) N i
def tailD (f : Nat) (ops : Array Oper) (n k m : Nat) : Bool :=
  Region.noSelect ops && headC .any ops n ops.toList 0 && chainB .any ops.toList 0 none && decide (ops.size = m + k + n) && sinksD f .any ops (k + n) &&
    forcedB .any ops m (k + n) (marks k n (marks n 0 (Array.replicate ops.size false)))
theorem tail_okD (f : Nat) {n k m : Nat} (h : tailD f ops n k m = true) : tailB ops n k m = true:=by
 simp only [tailD,Bool.and_eq_true,decide_eq_true_eq] at h;obtain ⟨⟨⟨⟨⟨h1,h2⟩,h3⟩,h4⟩,h5⟩,h6⟩:=h
 have hr : ∀ j ∈ Region.ready .any ops (marks k n (marks n 0 (Array.replicate ops.size false))),j = k + n:=by
  intro j hj
  cases m with
  | zero =>
   simp only [forcedB,List.isEmpty_iff] at h6;rw [h6] at hj
   cases hj
  | succ m =>
   simp only [forcedB,Bool.and_eq_true,decide_eq_true_eq] at h6;rw [h6.1] at hj
   simpa using hj
 simp only [tailB,Bool.and_eq_true,decide_eq_true_eq];refine ⟨⟨⟨⟨h1,headB_of h3 n ops.toList 0 _ Inv.start rfl h2⟩,h4⟩,?_⟩,h6⟩
 unfold sinksB
 rw [List.all_eq_true]
 intro j hj
 have hjk:=hr j hj;subst hjk;obtain ⟨_,o,ho,_⟩:=mem_ready.1 hj
 unfold sinksD at h5
 rw [ho] at h5;simp only [List.all_eq_true,List.mem_range] at h5 ⊢
 intro i hi
 have hz : 0 < ops.size:=Nat.lt_of_le_of_lt (Nat.zero_le _) (Array.getElem?_eq_some_iff.1 ho).1;obtain ⟨g,hg⟩ : ∃ g,ops.size = g + 1:=⟨ops.size - 1,by omega⟩;have h7:=h5 i hi;simp only [Bool.or_eq_true] at h7
 rcases h7 with h7 | h7
 ·rw [hg]
  exact waitsT_edge ho h7
 ·exact waitsT_mono (Nat.min_le_right _ _) h7
end
theorem f_tail {P : Program} {ops : Array Oper} {Q : Exit → Act → World → Prop} {T : List Oper} {N : Nat} {E : List (Nat × Value)} {w : World} (h : ∀ w',Up w w' → lF P ops Q T N E w') :
  bF P ops (Up w) (fun a'=>∀ w',Up w w' → wpList P ops Q T a' w') [] N E:=fun a ha=>wpB_nil fun w' hw'=>h w' hw' a ha
section
variable {P : Program} {ops : Array Oper} {Q : Exit → Act → World → Prop} {N : Nat} {E : List (Nat × Value)} {w : World} {o : Oper} {rest : List Oper} {k : Nat}
theorem l_nil (h : kF (Q .normal) N E w) : lF P ops Q [] N E w:=fun a ha=>wpl_nil (h a ha)
theorem l_val {w' : World} (v : Value) (hg : o.guard = none) (hd : o.dst = some k) (hk : Nat.blt k N = true) (h : ∀ a,Fr N E a → (execOp a.eval o).run P w = .ok (.value v) w') (hn : lF P ops Q rest N ((k,v) :: E) w') : lF P ops Q (o :: rest) N E w:=fun a ha=>by
 have h1:=h a ha;have h2:=hn _ (ha.put hk v)
 unfold wpList
 rw [if_pos (by simp [Region.wanted,hg])];refine .inl ?_
 unfold Oper.wp
 rw [h1];simp only [Oper.upon,hd];exact h2
theorem l_move {x : Operand} (v : Value) (hg : o.guard = none) (hd : o.dst = some k) (hk : Nat.blt k N = true) (ho : o.op = .move x) (hx : ev E x = some v) (hn : lF P ops Q rest N ((k,v) :: E) w) : lF P ops Q (o :: rest) N E w :=
 l_val v hg hd hk (fun a ha=>by
  have h1:=ha.eval hx
  unfold execOp
  simp only [ho,h1,Sem.run_pure]) hn
theorem l_assign {x : Operand} (v : Value) (hg : o.guard = none) (hd : o.dst = some k) (hk : Nat.blt k N = true) (ho : o.op = .assign x) (hx : ev E x = some v) (hn : lF P ops Q rest N ((k,v) :: E) w) : lF P ops Q (o :: rest) N E w :=
 l_val v hg hd hk (fun a ha=>by
  have h1:=ha.eval hx
  unfold execOp
  simp only [ho,h1,Sem.run_pure]) hn
end
theorem calls_still {f : FuncId} {args : Array Value} {v : Value} {w : World} (h : Calls Tryd.prog f args w fun e w'=>e = .returned v ∧ w' = w) : Calls Tryd.prog f args w fun e w'=>e = .returned v ∧ Below w.heap.size w w' :=
 h.mono fun _ _ ⟨h1,h2⟩=>⟨h1,by rw [h2]; exact Below.refl _ _⟩
end Go.Proofs.YtminmeljonbogaaDoor
/-
  SLICES OF WORDS OVER FRAMES BY WHAT IS KNOWN OF THEM.
-/
namespace Go.Proofs.YtminmeljonbogaaDoor
open Go.RowKit Go.IntWalk

section
variable {ops : Array Oper} {C0 : World → Prop} {Q : Act → Prop} {N : Nat} {E : List (Nat × Value)} {o : Oper} {rest : List Oper} {k : Nat}
theorem f_idx {x y : Operand} {t : TypeId} (g off n c i : Nat) (hi : i < n) (ht : t = 153 ∨ t = 152 ∨ t = 23) (hg : o.guard = none) (hd : o.dst = some k) (hk : Nat.blt k N = true) (ho : o.op = .indexAddr t x y)
  (hx : ev E x = some (.slice (some ⟨g,off,none⟩) n c)) (hy : ev E y = some (.int .i64 (i : Int))) (hn : bF Tryd.prog ops C0 Q rest N ((k,.pointer (some ⟨g,off + i,none⟩)) :: E)) : bF Tryd.prog ops C0 Q (o :: rest) N E :=
 f_val _ hg hd hk (fun a ha w _=>by
  have h1:=ha.eval hx;have h2:=ha.eval hy
  have h3 : (i : Int) < (n : Int):=by omega
  have h4 : (0 : Int) ≤ (i : Int):=by omega
  unfold execOp
  simp only [ho,h1,h2]
  rcases ht with rfl | rfl | rfl <;> go_simp) hn
end
section
variable {ops : Array Oper} {C0 : World → Prop} {Q : Act → Prop} {N : Nat} {E : List (Nat × Value)} {o : Oper} {rest : List Oper} {k : Nat}
theorem f_idx0 {x y : Operand} {t : TypeId} (g n c i : Nat) (hi : i < n) (ht : t = 153 ∨ t = 152 ∨ t = 23) (hg : o.guard = none) (hd : o.dst = some k) (hk : Nat.blt k N = true) (ho : o.op = .indexAddr t x y)
  (hx : ev E x = some (.slice (some ⟨g,0,none⟩) n c)) (hy : ev E y = some (.int .i64 (i : Int))) (hn : bF Tryd.prog ops C0 Q rest N ((k,.pointer (some ⟨g,i,none⟩)) :: E)) : bF Tryd.prog ops C0 Q (o :: rest) N E :=
 f_idx g 0 n c i hi ht hg hd hk ho hx hy (by rw [Nat.zero_add]; exact hn)
end
theorem run_slice8 (a b c d e f g h : Int) (w : World) :
  (Instr.buildSlice 153 8 #[(0,.int .u64 a),(1,.int .u64 b),(2,.int .u64 c),(3,.int .u64 d),(4,.int .u64 e),(5,.int .u64 f),(6,.int .u64 g),(7,.int .u64 h)]).run Tryd.prog w =
   .ok (.slice (some ⟨w.heap.size,0,none⟩) 8 8) (w.alloc (.cells #[.int .u64 a,.int .u64 b,.int .u64 c,.int .u64 d,.int .u64 e,.int .u64 f,.int .u64 g,.int .u64 h] 56)):=by
 go_simp
section
variable {ops : Array Oper} {C0 : World → Prop} {Q : Act → Prop} {N : Nat} {E : List (Nat × Value)} {o : Oper} {rest : List Oper} {k : Nat}
theorem f_len {x : Operand} {t : TypeId} (p : Option Addr) (n c : Nat) (ht : t = 153 ∨ t = 23) (hg : o.guard = none) (hd : o.dst = some k) (hk : Nat.blt k N = true) (ho : o.op = .call { callee:=.builtin .len,args:=#[x],argTypes:=#[t] }) (hx : ev E x = some (.slice p n c))
  (hn : bF Tryd.prog ops C0 Q rest N ((k,.int .i64 (n : Int)) :: E)) : bF Tryd.prog ops C0 Q (o :: rest) N E :=
 f_val _ hg hd hk (fun a ha w _=>by
  have h1:=ha.eval hx
  unfold execOp
  simp only [ho,resolve,invoke,builtin,Sem.run_bind,Sem.run_pure,Result.andThen_ok,List.map_toArray,List.map_cons,List.map_nil,h1]
  rcases ht with rfl | rfl <;> go_simp) hn
end
theorem l_slice8 {ops : Array Oper} {Q : Exit → Act → World → Prop} {N : Nat} {E : List (Nat × Value)} {w : World} {o : Oper} {rest : List Oper} {k : Nat} {x0 x1 x2 x3 x4 x5 x6 x7 : Operand} (a b c d e f g h : Nat) (hg : o.guard = none) (hd : o.dst = some k) (hk : Nat.blt k N = true)
  (ho : o.op = .buildSlice 153 8 #[(0,x0),(1,x1),(2,x2),(3,x3),(4,x4),(5,x5),(6,x6),(7,x7)]) (e0 : ev E x0 = some (.int .u64 (a : Int))) (e1 : ev E x1 = some (.int .u64 (b : Int))) (e2 : ev E x2 = some (.int .u64 (c : Int))) (e3 : ev E x3 = some (.int .u64 (d : Int)))
  (e4 : ev E x4 = some (.int .u64 (e : Int))) (e5 : ev E x5 = some (.int .u64 (f : Int))) (e6 : ev E x6 = some (.int .u64 (g : Int))) (e7 : ev E x7 = some (.int .u64 (h : Int)))
  (hn : lF Tryd.prog ops Q rest N ((k,.slice (some ⟨w.heap.size,0,none⟩) 8 8) :: E) (w.alloc (.cells (Us [a,b,c,d,e,f,g,h]).toArray 56))) : lF Tryd.prog ops Q (o :: rest) N E w :=
 l_val _ hg hd hk (fun ac ha=>by
  have h0:=ha.eval e0;have h1:=ha.eval e1;have h2:=ha.eval e2;have h3:=ha.eval e3;have h4:=ha.eval e4;have h5:=ha.eval e5;have h6:=ha.eval e6;have h7:=ha.eval e7;have hr:=run_slice8 (a : Int) b c d e f g h w
  unfold execOp
  simp only [ho,List.map_toArray,List.map_cons,List.map_nil,h0,h1,h2,h3,h4,h5,h6,h7,Sem.run_bind,hr,Result.andThen_ok,Sem.run_pure]
  rfl) hn
end Go.Proofs.YtminmeljonbogaaDoor
/-
  PLAIN NUMBERS: the digests of FIPS 180-4 over words of w bits: turned words, the message's words, rounds, blocks, the message's end. No program is imported.
-/
namespace Nums

def rotw (w n x : Nat) : Nat:=x / 2 ^ n + x % 2 ^ n * 2 ^ (w - n)
def chw (w e f g : Nat) : Nat:=(e &&& f) ^^^ ((2 ^ w - 1 - e) &&& g)
def maw (a b c : Nat) : Nat:=(a &&& b) ^^^ (a &&& c) ^^^ (b &&& c)

structure Sha where
  w : Nat
  n : Nat
  big1 : Nat × Nat × Nat
  big0 : Nat × Nat × Nat
  low1 : Nat × Nat × Nat
  low0 : Nat × Nat × Nat
  k : Nat → Nat
  start : List Nat
def bigw (w : Nat) (t : Nat × Nat × Nat) (x : Nat) : Nat:=rotw w t.1 x ^^^ rotw w t.2.1 x ^^^ rotw w t.2.2 x
def loww (w : Nat) (t : Nat × Nat × Nat) (x : Nat) : Nat:=rotw w t.1 x ^^^ rotw w t.2.1 x ^^^ x / 2 ^ t.2.2

def sqs : List Nat:=[7640891576956012808,13503953896175478587,4354685564936845355,11912009170470909681,5840696475078001361,11170449401992604703,2270897969802886507,6620516959819538809]
def cbs : List Nat:=[4794697086780616226,8158064640168781261,13096744586834688815,16840607885511220156,4131703408338449720,6480981068601479193,10538285296894168987,12329834152419229976,15566598209576043074,1334009975649890238,2608012711638119052,6128411473006802146,8268148722764581231,9286055187155687089,11230858885718282805,13951009754708518548,16472876342353939154,17275323862435702243,1135362057144423861,2597628984639134821,3308224258029322869,5365058923640841347,6679025012923562964,8573033837759648693,10970295158949994411,12119686244451234320,12683024718118986047,13788192230050041572,14330467153632333762,15395433587784984357,489312712824947311,1452737877330783856,2861767655752347644,3322285676063803686,5560940570517711597,5996557281743188959,7280758554555802590,8532644243296465576,9350256976987008742,10552545826968843579,11727347734174303076,12113106623233404929,14000437183269869457,14369950271660146224,15101387698204529176,15463397548674623760,17586052441742319658,1182934255886127544,1847814050463011016,2177327727835720531,2830643537854262169,3796741975233480872,4115178125766777443,5681478168544905931,6601373596472566643,7507060721942968483,8399075790359081724,8693463985226723168,9568029438360202098,10144078919501101548,10430055236837252648,11840083180663258601,13761210420658862357,14299343276471374635,14566680578165727644,15097957966210449927,16922976911328602910,17689382322260857208,500013540394364858,748580250866718886,1242879168328830382,1977374033974150939,2944078676154940804,3659926193048069267,4368137639120453308,4836135668995329356,5532061633213252278,6448918945643986474,6902733635092675308,7801388544844847127]
def s512 : Sha where
  w:=64
  n:=80
  big1:=(14,18,41)
  big0:=(28,34,39)
  low1:=(19,61,6)
  low0:=(1,8,7)
  k:=fun t=>cbs[t]!
  start:=sqs
def ben (f : Nat → Nat) : Nat → Nat
  | 0=>0
  | j + 1=>ben f j * 256 + f j
theorem ben_lt {f : Nat → Nat} (h : ∀ j,f j < 256) : ∀ j,ben f j < 256 ^ j
 | 0=>Nat.one_pos
 | j + 1=>by
  have h1:=ben_lt h j;have h2:=h j
  show ben f j * 256 + f j < 256 ^ (j + 1)
  rw [Nat.pow_succ]
  omega
def bword (s : Sha) (b : List UInt8) (t : Nat) : Nat:=ben (fun k=>(b[t * (s.w / 8) + k]!).toNat) (s.w / 8)
def sx (s : Sha) (b : List UInt8) (t : Nat) : Nat :=
  if _h : t < 16 then bword s b t else (loww s.w s.low1 (sx s b (t - 2)) + sx s b (t - 7) + loww s.w s.low0 (sx s b (t - 15)) + sx s b (t - 16)) % 2 ^ s.w
termination_by t
decreasing_by all_goals omega

structure Oct where
  a : Nat
  b : Nat
  c : Nat
  d : Nat
  e : Nat
  f : Nat
  g : Nat
  h : Nat
def Oct.list (o : Oct) : List Nat:=[o.a,o.b,o.c,o.d,o.e,o.f,o.g,o.h]
def t1w (s : Sha) (k x : Nat) (o : Oct) : Nat:=o.h + bigw s.w s.big1 o.e + chw s.w o.e o.f o.g + k + x
def t2w (s : Sha) (o : Oct) : Nat:=bigw s.w s.big0 o.a + maw o.a o.b o.c
def rnd (s : Sha) (k x : Nat) (o : Oct) : Oct:=⟨(t1w s k x o + t2w s o) % 2 ^ s.w,o.a,o.b,o.c,(o.d + t1w s k x o) % 2 ^ s.w,o.e,o.f,o.g⟩
def rnds (s : Sha) (b : List UInt8) (o : Oct) : Nat → Oct
  | 0=>o
  | t + 1=>rnd s (s.k t) (sx s b t) (rnds s b o t)
def add8 (w : Nat) (o p : Oct) : Oct:=⟨(o.a + p.a) % 2 ^ w,(o.b + p.b) % 2 ^ w,(o.c + p.c) % 2 ^ w,(o.d + p.d) % 2 ^ w,(o.e + p.e) % 2 ^ w,(o.f + p.f) % 2 ^ w,(o.g + p.g) % 2 ^ w,(o.h + p.h) % 2 ^ w⟩
def turnw (s : Sha) (o : Oct) (b : List UInt8) : Oct:=add8 s.w o (rnds s b o s.n)

/-! ### Bounds -/
theorem xor_lt {a b w : Nat} (ha : a < 2 ^ w) (hb : b < 2 ^ w) : a ^^^ b < 2 ^ w:=Nat.xor_lt_two_pow ha hb
theorem and_lt {a b w : Nat} (ha : a < 2 ^ w) : a &&& b < 2 ^ w:=Nat.lt_of_le_of_lt Nat.and_le_left ha
theorem rotw_lt {w n x : Nat} (hn : n ≤ w) (hx : x < 2 ^ w) : rotw w n x < 2 ^ w:=by
 have e : (2 : Nat) ^ w = 2 ^ n * 2 ^ (w - n):=by rw [← Nat.pow_add,Nat.add_sub_cancel' hn]
 have h1 : x / 2 ^ n < 2 ^ (w - n):=Nat.div_lt_of_lt_mul (by rw [← e]; exact hx);have h2 : x % 2 ^ n + 1 ≤ 2 ^ n:=Nat.mod_lt _ (Nat.two_pow_pos n);have h3:=Nat.mul_le_mul_right (2 ^ (w - n)) h2;rw [← e,Nat.add_mul,Nat.one_mul] at h3
 unfold rotw
 omega
theorem bigw_lt {w x : Nat} {t : Nat × Nat × Nat} (h : t.1 ≤ w ∧ t.2.1 ≤ w ∧ t.2.2 ≤ w) (hx : x < 2 ^ w) : bigw w t x < 2 ^ w :=
 xor_lt (xor_lt (rotw_lt h.1 hx) (rotw_lt h.2.1 hx)) (rotw_lt h.2.2 hx)
theorem chw_lt {w e f g : Nat} (he : e < 2 ^ w) : chw w e f g < 2 ^ w:=xor_lt (and_lt he) (and_lt (by have:=Nat.two_pow_pos w; omega))
theorem maw_lt {w a b c : Nat} (ha : a < 2 ^ w) (hb : b < 2 ^ w) : maw a b c < 2 ^ w:=xor_lt (xor_lt (and_lt ha) (and_lt ha)) (and_lt hb)
theorem sx_lt (s : Sha) (b : List UInt8) (hw : s.w / 8 * 8 = s.w) (t : Nat) : sx s b t < 2 ^ s.w:=by
 rw [sx]
 split
 ·have h:=ben_lt (f:=fun k=>(b[t * (s.w / 8) + k]!).toNat) (fun j=>UInt8.toNat_lt _) (s.w / 8)
  rw [show (256 : Nat) = 2 ^ 8 from rfl,← Nat.pow_mul,Nat.mul_comm 8,hw] at h;exact h
 ·exact Nat.mod_lt _ (Nat.two_pow_pos _)
structure OB (w : Nat) (o : Oct) : Prop where
  a : o.a < 2 ^ w
  b : o.b < 2 ^ w
  c : o.c < 2 ^ w
  d : o.d < 2 ^ w
  e : o.e < 2 ^ w
  f : o.f < 2 ^ w
  g : o.g < 2 ^ w
  h : o.h < 2 ^ w
theorem OB.rnd {s : Sha} {o : Oct} (h : OB s.w o) (k x : Nat) : OB s.w (rnd s k x o) :=
 ⟨Nat.mod_lt _ (Nat.two_pow_pos _),h.a,h.b,h.c,Nat.mod_lt _ (Nat.two_pow_pos _),h.e,h.f,h.g⟩
theorem OB.rnds {s : Sha} {b : List UInt8} {o : Oct} (h : OB s.w o) : ∀ t,OB s.w (rnds s b o t)
 | 0=>h
 | t + 1=>(OB.rnds h t).rnd _ _
theorem OB.add8 (w : Nat) (o p : Oct) : OB w (add8 w o p):=by
 constructor <;> exact Nat.mod_lt _ (Nat.two_pow_pos _)
theorem OB.turnw (s : Sha) (o : Oct) (b : List UInt8) : OB s.w (turnw s o b):=OB.add8 _ _ _

/-! ### The other spellings -/
theorem ch_or {w e f g : Nat} (he : e < 2 ^ w) : (e &&& f) ||| ((2 ^ w - 1 - e) &&& g) = chw w e f g:=by
 unfold chw
 apply Nat.eq_of_testBit_eq
 intro i
 simp only [Nat.testBit_or,Nat.testBit_xor,Nat.testBit_and];have h:=Nat.testBit_two_pow_sub_succ he i;rw [show 2 ^ w - 1 - e = 2 ^ w - (e + 1) by omega,h]
 cases e.testBit i <;> cases f.testBit i <;> cases g.testBit i <;> simp
theorem ma_or (a b c : Nat) : (a &&& b) ||| (a &&& c) ||| (b &&& c) = maw a b c:=by
 unfold maw
 apply Nat.eq_of_testBit_eq
 intro i
 simp only [Nat.testBit_or,Nat.testBit_xor,Nat.testBit_and]
 cases a.testBit i <;> cases b.testBit i <;> cases c.testBit i <;> rfl

/-! ### The whole message -/
def runw (s : Sha) (B : Nat) (o : Oct) (l : List UInt8) : Oct :=
  if _h : B = 0 ∨ l.length < B then o else runw s B (turnw s o (l.take B)) (l.drop B)
termination_by l.length
decreasing_by
  rw [List.length_drop]
  omega
theorem runw_short {s : Sha} {B : Nat} {o : Oct} {l : List UInt8} (h : l.length < B) : runw s B o l = o:=by
 rw [runw,dif_pos (.inr h)]
theorem runw_block {s : Sha} {B : Nat} {o : Oct} {b l : List UInt8} (hB : 0 < B) (h : b.length = B) : runw s B o (b ++ l) = runw s B (turnw s o b) l:=by
 rw [runw,dif_neg (by rw [List.length_append]; omega),← h,List.take_left,List.drop_left]
theorem runw_append {s : Sha} {B : Nat} (hB : 0 < B) : ∀ (n : Nat) {o : Oct} {a l : List UInt8},a.length = n * B → runw s B o (a ++ l) = runw s B (runw s B o a) l
 | 0,o,a,l,h=>by
  have h0 : a = []:=List.eq_nil_of_length_eq_zero (by omega);subst h0;rw [List.nil_append,runw_short (l:=[]) (by simpa using hB)]
 | n + 1,o,a,l,h=>by
  have hl : (a.take B).length = B:=by rw [List.length_take,h,Nat.add_mul]; omega
  have hd : (a.drop B).length = n * B:=by rw [List.length_drop,h,Nat.add_mul]; omega
  have e : a = a.take B ++ a.drop B:=(List.take_append_drop B a).symm;rw [e,List.append_assoc,runw_block hB hl,runw_block hB hl,runw_append hB n hd]
def be64 (v : Nat) : List UInt8:=(bytes 8 v).reverse
def tailw (B r v : Nat) : List UInt8:=128 :: (List.replicate ((if r + 1 ≤ B - B / 8 then B else 2 * B) - 9 - r) 0 ++ be64 v)
def sumw (s : Sha) (m : List UInt8) : Oct:=runw s (2 * s.w) (⟨s.start[0]!,s.start[1]!,s.start[2]!,s.start[3]!,s.start[4]!,s.start[5]!,s.start[6]!,s.start[7]!⟩) (m ++ tailw (2 * s.w) (m.length % (2 * s.w)) (8 * m.length))
def layw (s : Sha) (x : Nat) : List UInt8:=(bytes (s.w / 8) x).reverse
def digest (s : Sha) (m : List UInt8) : List UInt8:=((sumw s m).list.map (layw s)).flatten
end Nums
/-
  THE DOCUMENT'S OWN DIGESTS: turn, three, cut.
-/
namespace Go.Proofs.YtminmeljonbogaaDoor
open Go.RowKit Go.IntWalk Nums

theorem rot_sum (w n x : Nat) (hn : n ≤ w) (hx : x < 2 ^ w) : x * 2 ^ (w - n) % 2 ^ w = x % 2 ^ n * 2 ^ (w - n) ∧ x / 2 ^ n < 2 ^ (w - n):=by
 have e : (2 : Nat) ^ w = 2 ^ n * 2 ^ (w - n):=by rw [← Nat.pow_add,Nat.add_sub_cancel' hn]
 refine ⟨?_,Nat.div_lt_of_lt_mul (by rw [← e]; exact hx)⟩;rw [e,Nat.mul_mod_mul_right]

set_option maxRecDepth 100000 in
set_option maxHeartbeats 1000000 in
theorem rturn64_f (x n : Nat) (hx : x < 18446744073709551616) (hn : n < 64) (w : World) :
  Calls Tryd.prog 131 #[.int .u64 (x : Int),.int .u64 (n : Int),.int .u64 64] w fun e w'=>e = .returned (.int .u64 ((rotw 64 n x : Nat) : Int)) ∧ w' = w:=by
 obtain ⟨e1,e2⟩:=rot_sum 64 n x (by omega) hx
 have q3 : IntKind.u64.wrap ((x : Int) * 2 ^ (64 - n)) = ((x % 2 ^ n * 2 ^ (64 - n) : Nat) : Int):=by
  rw [← e1,IntKind.wrap_u64]
  simp
 have q4 : IntKind.u64.wrap (64 - (n : Int)) = ((64 - n : Nat) : Int):=by
  rw [IntKind.wrap_u64]
  omega
 have f1 : ((x : Int) / 2 ^ n) = ((x / 2 ^ n : Nat) : Int):=by simp
 have hm : x % 2 ^ n * 2 ^ (64 - n) < 18446744073709551616:=by
  rw [← e1];exact Nat.mod_lt _ (by decide)
 have hd : x / 2 ^ n < 18446744073709551616:=Nat.lt_of_le_of_lt (Nat.div_le_self _ _) hx
 have q5 : bits .or .u64 ((x / 2 ^ n : Nat) : Int) ((x % 2 ^ n * 2 ^ (64 - n) : Nat) : Int) = ((rotw 64 n x : Nat) : Int):=by
  rw [u64_or_nat _ _ hd hm,Nat.or_comm,nat_join (64 - n) _ _ (Nat.mul_mod_left _ _) e2]
  unfold rotw
  rw [Nat.add_comm]
 have g1 : ((64 - n : Nat) : Int) ≤ 64:=by omega
 have g2 : (n : Int) ≤ 64:=by omega
 clear e1 e2 hm hd;generalize rotw 64 n x = r at *;generalize x % 2 ^ n * 2 ^ (64 - n) = m at *;generalize x / 2 ^ n = d at *;generalize hs : 64 - n = s at *;clear hs
 go_enter Tryd.func131,Tryd.ntmps131
 go_wp2
 go_ret
 exact ⟨rfl,rfl⟩

theorem own_rthree : Own 111:=fun _ _=>by go_simp
theorem own_rcut : Own 110:=fun _ _=>by go_simp
theorem own_rcube : Own 112:=fun _ _=>by go_simp
theorem own_rsquare : Own 109:=fun _ _=>by go_simp

set_option maxRecDepth 100000 in
set_option maxHeartbeats 1000000 in
theorem rcut64_f (x : Nat) (w : World) : Calls Tryd.prog 110 #[.int .u64 (x : Int),.int .u64 64] w fun e w'=>e = .returned (.int .u64 (x : Int)) ∧ w' = w:=by
 go_enter Tryd.func110,Tryd.ntmps110
 go_wp2
 go_ret
 exact ⟨rfl,rfl⟩
set_option maxRecDepth 100000 in
set_option maxHeartbeats 1000000 in
theorem rbig64_f (x a b c : Nat) (hx : x < 18446744073709551616) (ha : a < 64) (hb : b < 64) (hc : c < 64) (w : World) :
  Calls Tryd.prog 111 #[.int .u64 (x : Int),.int .u64 64,.int .u64 (a : Int),.int .u64 (b : Int),.int .u64 (c : Int),.bool false] w fun e w'=>e = .returned (.int .u64 ((bigw 64 (a,b,c) x : Nat) : Int)) ∧ w' = w:=by
 have r1:=rotw_lt (w:=64) (n:=a) (x:=x) (by omega) hx;have r2:=rotw_lt (w:=64) (n:=b) (x:=x) (by omega) hx;have r3:=rotw_lt (w:=64) (n:=c) (x:=x) (by omega) hx;have R1:=fun w1=>Lib.hid (rturn64_f x a hx ha w1);have R2:=fun w1=>Lib.hid (rturn64_f x b hx hb w1);have R3:=fun w1=>Lib.hid (rturn64_f x c hx hc w1);have x1:=u64_xor_nat _ _ r1 r2;have x2:=u64_xor_nat _ _ (xor_lt r1 r2) r3;have e1 : bigw 64 (a,b,c) x = rotw 64 a x ^^^ rotw 64 b x ^^^ rotw 64 c x:=rfl;rw [← e1] at x2;clear e1 r1 r2 r3;generalize bigw 64 (a,b,c) x = z at *;generalize rotw 64 a x ^^^ rotw 64 b x = y at *;generalize rotw 64 a x = p1 at *;generalize rotw 64 b x = p2 at *;generalize rotw 64 c x = p3 at *
 go_enter Tryd.func111,Tryd.ntmps111
 go_wp2_with (fail)
 refine (R1 _).out.mono ?_
 rintro e w4 ⟨rfl,rfl⟩
 go_wp2_with (fail)
 refine (R2 _).out.mono ?_
 rintro e w4 ⟨rfl,rfl⟩
 go_wp2_with (fail)
 refine (R3 _).out.mono ?_
 rintro e w4 ⟨rfl,rfl⟩
 go_wp2_with (fail)
 go_ret
 exact ⟨rfl,rfl⟩

set_option maxRecDepth 100000 in
set_option maxHeartbeats 1000000 in
theorem rlow64_f (x a b c : Nat) (hx : x < 18446744073709551616) (ha : a < 64) (hb : b < 64) (hc : c < 64) (w : World) :
  Calls Tryd.prog 111 #[.int .u64 (x : Int),.int .u64 64,.int .u64 (a : Int),.int .u64 (b : Int),.int .u64 (c : Int),.bool true] w fun e w'=>e = .returned (.int .u64 ((loww 64 (a,b,c) x : Nat) : Int)) ∧ w' = w:=by
 have r1:=rotw_lt (w:=64) (n:=a) (x:=x) (by omega) hx;have r2:=rotw_lt (w:=64) (n:=b) (x:=x) (by omega) hx;have r3 : x / 2 ^ c < 2 ^ 64:=Nat.lt_of_le_of_lt (Nat.div_le_self _ _) hx;have R1:=fun w1=>Lib.hid (rturn64_f x a hx ha w1);have R2:=fun w1=>Lib.hid (rturn64_f x b hx hb w1);have x1:=u64_xor_nat _ _ r1 r2;have x2:=u64_xor_nat _ _ (xor_lt r1 r2) r3;have e1 : loww 64 (a,b,c) x = rotw 64 a x ^^^ rotw 64 b x ^^^ x / 2 ^ c:=rfl;rw [← e1] at x2;clear e1 r1 r2 r3
 have f1 : ((x : Int) / 2 ^ c) = ((x / 2 ^ c : Nat) : Int):=by simp
 have g2 : (c : Int) ≤ 64:=by omega
 generalize loww 64 (a,b,c) x = z at *;generalize rotw 64 a x ^^^ rotw 64 b x = y at *;generalize rotw 64 a x = p1 at *;generalize rotw 64 b x = p2 at *;generalize x / 2 ^ c = p3 at *
 go_enter Tryd.func111,Tryd.ntmps111
 go_wp2_with (fail)
 refine (R1 _).out.mono ?_
 rintro e w4 ⟨rfl,rfl⟩
 go_wp2_with (fail)
 refine (R2 _).out.mono ?_
 rintro e w4 ⟨rfl,rfl⟩
 go_wp2_with (fail)
 go_ret
 exact ⟨rfl,rfl⟩

set_option maxRecDepth 100000 in
set_option maxHeartbeats 2000000 in
theorem rcube_f (i : Nat) (hi : i < 80) (w : World) :
  Calls Tryd.prog 112 #[.int .i64 (i : Int)] w fun e w'=>e = .returned (.int .u64 (cbs[i]! : Nat)) ∧ Below w.heap.size w w':=by
 go_enter Tryd.func112,Tryd.ntmps112
 go_wp2
 go_ret
 refine ⟨?_,(Below.refl _ _).alloc (Nat.le_refl _) _⟩;have hod : i < cbs.length:=hi
 have e : (Us cbs)[i]'(by rw [Us_len]; exact hod) = .int .u64 (cbs[i]! : Nat):=by
  rw [getElem!_pos cbs i hod]
  simp [Us]
 exact congrArg Ending.returned e
set_option maxRecDepth 100000 in
set_option maxHeartbeats 2000000 in
theorem rsquare_f (i : Nat) (hi : i < 8) (w : World) :
  Calls Tryd.prog 109 #[.int .i64 (i : Int)] w fun e w'=>e = .returned (.int .u64 (sqs[i]! : Nat)) ∧ Below w.heap.size w w':=by
 go_enter Tryd.func109,Tryd.ntmps109
 go_wp2
 go_ret
 refine ⟨?_,(Below.refl _ _).alloc (Nat.le_refl _) _⟩;have hod : i < sqs.length:=hi
 have e : (Us sqs)[i]'(by rw [Us_len]; exact hod) = .int .u64 (sqs[i]! : Nat):=by
  rw [getElem!_pos sqs i hod]
  simp [Us]
 exact congrArg Ending.returned e
end Go.Proofs.YtminmeljonbogaaDoor
/-
  PLAIN NUMBERS: a number as four words of 64 bits; sums with carries; the number modulo L out of five words. No program is imported.
-/
namespace Nums

def ws (n : Nat) : List Nat:=[n % 18446744073709551616,n / 18446744073709551616 % 18446744073709551616,n / 340282366920938463463374607431768211456 % 18446744073709551616,n / 6277101735386680763835789423207666416102355444464034512896 % 18446744073709551616]
def v4 (a b c d : Nat) : Nat:=a + 18446744073709551616 * b + 340282366920938463463374607431768211456 * c + 6277101735386680763835789423207666416102355444464034512896 * d
theorem ws_len (n : Nat) : (ws n).length = 4:=rfl
theorem ws_v4 {a b c d : Nat} (h0 : a < 18446744073709551616) (h1 : b < 18446744073709551616) (h2 : c < 18446744073709551616) (h3 : d < 18446744073709551616) : ws (v4 a b c d) = [a,b,c,d]:=by
 unfold ws v4
 have e0 : (a + 18446744073709551616 * b + 340282366920938463463374607431768211456 * c + 6277101735386680763835789423207666416102355444464034512896 * d) % 18446744073709551616 = a:=by omega
 have e1 : (a + 18446744073709551616 * b + 340282366920938463463374607431768211456 * c + 6277101735386680763835789423207666416102355444464034512896 * d) / 18446744073709551616 % 18446744073709551616 = b:=by omega
 have e2 : (a + 18446744073709551616 * b + 340282366920938463463374607431768211456 * c + 6277101735386680763835789423207666416102355444464034512896 * d) / 340282366920938463463374607431768211456 % 18446744073709551616 = c:=by omega
 have e3 : (a + 18446744073709551616 * b + 340282366920938463463374607431768211456 * c + 6277101735386680763835789423207666416102355444464034512896 * d) / 6277101735386680763835789423207666416102355444464034512896 % 18446744073709551616 = d:=by omega
 rw [e0,e1,e2,e3]
theorem ws_cut {n : Nat} (h : n < 115792089237316195423570985008687907853269984665640564039457584007913129639936) :
  ∃ a b c d,n = v4 a b c d ∧ ws n = [a,b,c,d] ∧ a < 18446744073709551616 ∧ b < 18446744073709551616 ∧ c < 18446744073709551616 ∧ d < 18446744073709551616:=by
 refine ⟨_,_,_,_,?_,rfl,Nat.mod_lt _ (by decide),Nat.mod_lt _ (by decide),Nat.mod_lt _ (by decide),Nat.mod_lt _ (by decide)⟩
 unfold v4
 omega
theorem ws_lt (n : Nat) : ∀ y ∈ ws n,y < 18446744073709551616:=by
 intro y hy
 simp only [ws,List.mem_cons,List.not_mem_nil,or_false] at hy
 rcases hy with rfl | rfl | rfl | rfl <;> exact Nat.mod_lt _ (by decide)
theorem ws_get_lt (n : Nat) {k : Nat} (hk : k < 4) : (ws n)[k]! < 18446744073709551616 :=
 ws_lt n _ (by rw [getElem!_pos (ws n) k hk]; exact List.getElem_mem _)

/-! ### Rows whose first k words have turned -/
def mxl (f : Nat → Nat) (l : List Nat) (k : Nat) : List Nat:=(List.range l.length).map fun j=>if j < k then f j else l[j]!
theorem mxl_len (f : Nat → Nat) (l : List Nat) (k : Nat) : (mxl f l k).length = l.length:=by simp [mxl]
theorem mxl_zero (f : Nat → Nat) (l : List Nat) : mxl f l 0 = l:=by
 apply List.ext_getElem (by simp [mxl])
 intro i h1 h2
 simp [mxl,h2]
theorem mxl_get (f : Nat → Nat) (l : List Nat) {k : Nat} (h : k < l.length) : (mxl f l k)[k]! = l[k]!:=by
 rw [getElem!_pos _ k (by rw [mxl_len]; exact h)]
 simp [mxl]
theorem mxl_set (f : Nat → Nat) (l : List Nat) {k : Nat} : (mxl f l k).set k (f k) = mxl f l (k + 1):=by
 apply List.ext_getElem (by simp [mxl])
 intro j h1 h2
 rw [List.getElem_set];simp only [mxl,List.getElem_map,List.getElem_range]
 by_cases hjk : k = j
 ·subst hjk
  simp
 ·rw [if_neg hjk]
  by_cases hlt : j < k
  ·rw [if_pos hlt,if_pos (by omega)]
  ·rw [if_neg hlt,if_neg (by omega)]

/-! ### Sums -/
def sup (a b : List Nat) : Nat → Nat
  | 0=>0
  | k + 1=>(a[k]! + b[k]! + sup a b k) / 18446744073709551616
def swd (a b : List Nat) (k : Nat) : Nat:=(a[k]! + b[k]! + sup a b k) % 18446744073709551616
theorem sup_le {a b : List Nat} (ha : ∀ k,k < 4 → a[k]! < 18446744073709551616) (hb : ∀ k,k < 4 → b[k]! < 18446744073709551616) : ∀ k,k ≤ 4 → sup a b k ≤ 1
 | 0,_=>Nat.zero_le _
 | k + 1,hk=>by
  have:=sup_le ha hb k (by omega);have:=ha k (by omega);have:=hb k (by omega)
  show (a[k]! + b[k]! + sup a b k) / 18446744073709551616 ≤ 1
  omega
theorem sum_ws {A B : Nat} (hA : A < 115792089237316195423570985008687907853269984665640564039457584007913129639936) (hB : B < 115792089237316195423570985008687907853269984665640564039457584007913129639936) :
  mxl (swd (ws A) (ws B)) (ws A) 4 = ws ((A + B) % 115792089237316195423570985008687907853269984665640564039457584007913129639936):=by
 obtain ⟨a0,a1,a2,a3,eA,wA,p0,p1,p2,p3⟩:=ws_cut hA;obtain ⟨b0,b1,b2,b3,eB,wB,q0,q1,q2,q3⟩:=ws_cut hB;rw [wA,wB];have e : mxl (swd [a0,a1,a2,a3] [b0,b1,b2,b3]) [a0,a1,a2,a3] 4 = [swd [a0,a1,a2,a3] [b0,b1,b2,b3] 0,swd [a0,a1,a2,a3] [b0,b1,b2,b3] 1,swd [a0,a1,a2,a3] [b0,b1,b2,b3] 2,swd [a0,a1,a2,a3] [b0,b1,b2,b3] 3]:=rfl;have g0 : sup [a0,a1,a2,a3] [b0,b1,b2,b3] 0 = 0:=rfl;have g1 : sup [a0,a1,a2,a3] [b0,b1,b2,b3] 1 = (a0 + b0 + sup [a0,a1,a2,a3] [b0,b1,b2,b3] 0) / 18446744073709551616:=rfl;have g2 : sup [a0,a1,a2,a3] [b0,b1,b2,b3] 2 = (a1 + b1 + sup [a0,a1,a2,a3] [b0,b1,b2,b3] 1) / 18446744073709551616:=rfl;have g3 : sup [a0,a1,a2,a3] [b0,b1,b2,b3] 3 = (a2 + b2 + sup [a0,a1,a2,a3] [b0,b1,b2,b3] 2) / 18446744073709551616:=rfl;have s0 : swd [a0,a1,a2,a3] [b0,b1,b2,b3] 0 = (a0 + b0 + sup [a0,a1,a2,a3] [b0,b1,b2,b3] 0) % 18446744073709551616:=rfl;have s1 : swd [a0,a1,a2,a3] [b0,b1,b2,b3] 1 = (a1 + b1 + sup [a0,a1,a2,a3] [b0,b1,b2,b3] 1) % 18446744073709551616:=rfl;have s2 : swd [a0,a1,a2,a3] [b0,b1,b2,b3] 2 = (a2 + b2 + sup [a0,a1,a2,a3] [b0,b1,b2,b3] 2) % 18446744073709551616:=rfl;have s3 : swd [a0,a1,a2,a3] [b0,b1,b2,b3] 3 = (a3 + b3 + sup [a0,a1,a2,a3] [b0,b1,b2,b3] 3) % 18446744073709551616:=rfl;rw [e];generalize swd [a0,a1,a2,a3] [b0,b1,b2,b3] 0 = x0 at *;generalize swd [a0,a1,a2,a3] [b0,b1,b2,b3] 1 = x1 at *;generalize swd [a0,a1,a2,a3] [b0,b1,b2,b3] 2 = x2 at *;generalize swd [a0,a1,a2,a3] [b0,b1,b2,b3] 3 = x3 at *;generalize sup [a0,a1,a2,a3] [b0,b1,b2,b3] 0 = c0 at *;generalize sup [a0,a1,a2,a3] [b0,b1,b2,b3] 1 = c1 at *;generalize sup [a0,a1,a2,a3] [b0,b1,b2,b3] 2 = c2 at *;generalize sup [a0,a1,a2,a3] [b0,b1,b2,b3] 3 = c3 at *
 have hx : (A + B) % 115792089237316195423570985008687907853269984665640564039457584007913129639936 = v4 x0 x1 x2 x3:=by
  rw [eA,eB]
  unfold v4
  clear e wA wB hA hB eA eB
  omega
 rw [hx,ws_v4 (by omega) (by omega) (by omega) (by omega)]

/-! ### Five words modulo L -/
theorem LL_eq : LL = 7237005577332262213973186563042994240857116359379907606001950938285454250989:=rfl
theorem rest_L {v0 v1 v2 v3 t m0 m1 p1 r0 r1 r2 r3 l0 l1 l2 l3 V : Nat} (h0 : v0 < 18446744073709551616) (h1 : v1 < 18446744073709551616) (h2 : v2 < 18446744073709551616) (h3 : v3 < 1152921504606846976) (ht : t < 34359738368)
  (hm0 : m0 = t * 6346243789798364141) (hm1 : m1 = t * 1503914060200516822) (hp1 : p1 = m1 % 18446744073709551616 + m0 / 18446744073709551616)
  (hl0 : l0 = if v0 < m0 % 18446744073709551616 + 0 then 1 else 0) (hr0 : r0 = (v0 + 18446744073709551616 - m0 % 18446744073709551616 - 0) % 18446744073709551616)
  (hl1 : l1 = if v1 < p1 % 18446744073709551616 + l0 then 1 else 0) (hr1 : r1 = (v1 + 18446744073709551616 - p1 % 18446744073709551616 - l0) % 18446744073709551616)
  (hl2 : l2 = if v2 < m1 / 18446744073709551616 + p1 / 18446744073709551616 + l1 then 1 else 0) (hr2 : r2 = (v2 + 18446744073709551616 - (m1 / 18446744073709551616 + p1 / 18446744073709551616) - l1) % 18446744073709551616)
  (hl3 : l3 = if v3 < 0 + l2 then 1 else 0) (hr3 : r3 = (v3 + 18446744073709551616 - 0 - l2) % 18446744073709551616)
  (hV : V = v4 v0 v1 v2 v3 + 7237005577332262213973186563042994240829374041602535252466099000494570602496 * t) :
  (l3 = 0 → v4 r0 r1 r2 r3 = V % LL) ∧ (l3 = 1 → (v4 r0 r1 r2 r3 + LL) % 115792089237316195423570985008687907853269984665640564039457584007913129639936 = V % LL) ∧ l3 ≤ 1 ∧ l0 ≤ 1 ∧ l1 ≤ 1 ∧ l2 ≤ 1 ∧
   r0 < 18446744073709551616 ∧ r1 < 18446744073709551616 ∧ r2 < 18446744073709551616 ∧ r3 < 18446744073709551616:=by
 have b0 : l0 ≤ 1:=by rw [hl0]; split <;> omega
 have b1 : l1 ≤ 1:=by rw [hl1]; split <;> omega
 have b2 : l2 ≤ 1:=by rw [hl2]; split <;> omega
 have b3 : l3 ≤ 1:=by rw [hl3]; split <;> omega
 have d0 : r0 + m0 % 18446744073709551616 = v0 + 18446744073709551616 * l0:=by rw [hr0,hl0]; split <;> omega
 have d1 : r1 + p1 % 18446744073709551616 + l0 = v1 + 18446744073709551616 * l1:=by rw [hr1,hl1]; split <;> omega
 have hm : m1 / 18446744073709551616 < 17179869184:=by omega
 have hp : p1 / 18446744073709551616 < 2:=by omega
 have d2 : r2 + (m1 / 18446744073709551616 + p1 / 18446744073709551616) + l1 = v2 + 18446744073709551616 * l2:=by rw [hr2,hl2]; split <;> omega
 have d3 : r3 + l2 = v3 + 18446744073709551616 * l3:=by rw [hr3,hl3]; split <;> omega
 have c0 : r0 < 18446744073709551616:=by omega
 have c1 : r1 < 18446744073709551616:=by omega
 have c2 : r2 < 18446744073709551616:=by omega
 have c3 : r3 < 18446744073709551616:=by omega
 clear hr0 hr1 hr2 hr3 hl0 hl1 hl2 hl3
 have key : v4 r0 r1 r2 r3 + m0 + 18446744073709551616 * m1 = v4 v0 v1 v2 v3 + 115792089237316195423570985008687907853269984665640564039457584007913129639936 * l3:=by
  unfold v4
  omega
 have hlow : v4 v0 v1 v2 v3 < 7237005577332262213973186563042994240829374041602535252466099000494570602496:=by
  unfold v4
  omega
 have hR : v4 r0 r1 r2 r3 < 115792089237316195423570985008687907853269984665640564039457584007913129639936:=by
  unfold v4
  omega
 clear d0 d1 d2 d3 hp1 hm hp;refine ⟨fun h=>?_,fun h=>?_,b3,b0,b1,b2,c0,c1,c2,c3⟩
 ·have e : V = v4 r0 r1 r2 r3 + LL * t:=by
   rw [hV,LL_eq]
   omega
  rw [e,Nat.add_mul_mod_self_left,Nat.mod_eq_of_lt];rw [LL_eq]
  omega
 ·have hg : 115792089237316195423570985008687907853269984665640564039457584007913129639936 ≤ v4 r0 r1 r2 r3 + LL:=by
   rw [LL_eq]
   omega
  have e : V + LL = (v4 r0 r1 r2 r3 + LL - 115792089237316195423570985008687907853269984665640564039457584007913129639936) + LL * t:=by
   rw [hV,LL_eq] at *
   omega
  have e2 : V % LL = (V + LL) % LL:=by rw [Nat.add_mod_right]
  rw [e2,e,Nat.add_mul_mod_self_left,Nat.mod_eq_sub_mod hg,Nat.mod_eq_of_lt,Nat.mod_eq_of_lt]
  ·rw [LL_eq] at *
   omega
  ·rw [LL_eq] at *
   omega
end Nums
/-
  THE DOCUMENT'S OWN DIGESTS: Digest with words of 64 bits: its loops, over frames of which a part is told: the schedule.
-/
namespace Go.Proofs.YtminmeljonbogaaDoor
open Go.RowKit Go.IntWalk Nums

def loopsOf : Code → List Code
  | .loop c=>c :: loopsOf c
  | .seq a b=>loopsOf a ++ loopsOf b
  | .block _ c=>loopsOf c
  | .scope c=>loopsOf c
  | .cond _ a b=>loopsOf a ++ loopsOf b
  | _=>[]
noncomputable def dl (k : Nat) : Code:=((Tryd.f76.body.map loopsOf).getD [])[k]?.getD .skip

def n64 : List Nat:=[28,34,39,14,18,41,1,8,7,19,61,6]
def y80 : List Nat:=List.replicate 80 0
theorem y80_len : y80.length = 80:=by decide
theorem mxl_at {f : Nat → Nat} {l : List Nat} {k j : Nat} (h : j < k) (hj : j < l.length) : (mxl f l k)[j]! = f j:=by
 rw [getElem!_pos _ j (by rw [mxl_len]; exact hj)]
 simp [mxl,h]

structure DS (W0 w : World) (gm gn gh gx : Nat) (m : List UInt8) (h x : List Nat) : Prop where
  mm : VL w gm (By m)
  nn : VL w gn (Us n64)
  hh : VL w gh (Us h)
  xx : VL w gx (Us x)
  be : Below W0.heap.size W0 w
  ne : gm ≠ gh ∧ gm ≠ gx ∧ gn ≠ gh ∧ gn ≠ gx ∧ gh ≠ gx
  le : W0.heap.size ≤ gh ∧ W0.heap.size ≤ gx
section
variable {W0 w w' : World} {gm gn gh gx : Nat} {m : List UInt8} {h x : List Nat}
theorem DS.up (d : DS W0 w gm gn gh gx m h x) (k : Up w w') : DS W0 w' gm gn gh gx m h x:=⟨d.mm.up k,d.nn.up k,d.hh.up k,d.xx.up k,below_up d.be k,d.ne,d.le⟩
theorem DS.setX (d : DS W0 w gm gn gh gx m h x) (k v : Nat) : DS W0 (w.setCell ⟨gx,k,none⟩ (.int .u64 (v : Int))) gm gn gh gx m h (x.set k v) :=
 ⟨d.mm.far d.ne.2.1 _,d.nn.far d.ne.2.2.2.1 _,d.hh.far d.ne.2.2.2.2 _,by rw [← Us_put]; exact d.xx.set k _,d.be.setCell d.le.2 _,d.ne,d.le⟩
theorem DS.setH (d : DS W0 w gm gn gh gx m h x) (k v : Nat) : DS W0 (w.setCell ⟨gh,k,none⟩ (.int .u64 (v : Int))) gm gn gh gx m (h.set k v) x :=
 ⟨d.mm.far d.ne.1 _,d.nn.far d.ne.2.2.1 _,by rw [← Us_put]; exact d.hh.set k _,d.xx.far (Ne.symm d.ne.2.2.2.2) _,d.be.setCell d.le.1 _,d.ne,d.le⟩
end

section
variable {W0 : World} {gm gn gh gx : Nat} {m : List UInt8} {h : List Nat} {b : List UInt8} {Q : Exit → Act → World → Prop}
def FB (lm cm gm gn gh gx a : Nat) : List (Nat × Value) :=
  [(15,.slice (some ⟨gx,0,none⟩) 80 80),(5,.slice (some ⟨gn,0,none⟩) 12 12),(1,.int .u64 64),(6,.int .i64 80),(7,.int .i64 8),
    (8,.slice (some ⟨gm,0,none⟩) lm cm),(12,.slice (some ⟨gh,0,none⟩) 8 8),(14,.int .i64 (a : Int))]
def FS (lm cm gm gn gh gx a t : Nat) : List (Nat × Value):=(18,.int .i64 (t : Int)) :: FB lm cm gm gn gh gx a
set_option maxRecDepth 100000 in
set_option maxHeartbeats 4000000 in
theorem sched64 {w : World} (lm cm a : Nat) (F : Nat → Nat) (hlt : ∀ t,F t < 18446744073709551616)
  (hrec : ∀ t,16 ≤ t → F t = (loww 64 (19,61,6) (F (t - 2)) + F (t - 7) + loww 64 (1,8,7) (F (t - 15)) + F (t - 16)) % 18446744073709551616)
  (h0 : DS W0 w gm gn gh gx m h (mxl F y80 16)) (hQ : ∀ c a d v w,Q (.panic c) (a.put d v) w → Q (.panic c) a w)
  (hend : ∀ w',DS W0 w' gm gn gh gx m h (mxl F y80 80) → kF (Q .normal) 359 (FS lm cm gm gn gh gx a 80) w') :
  cF Tryd.prog (.loop (dl 6)) (Exit.inBlock 12 Q) 359 (FS lm cm gm gn gh gx a 16) w:=by
 refine c_loop (m:=fun t : Nat=>80 - t) (F:=FS lm cm gm gn gh gx a) (R:=fun t w=>16 ≤ t ∧ t ≤ 80 ∧ DS W0 w gm gn gh gx m h (mxl F y80 t)) ?_ 16 ⟨by omega,by omega,h0⟩
 rintro t w ⟨h16,ht,hS⟩
 conv=>arg 2; whnf
 refine c_seq fun K1 hK1=>?_;refine c_seq fun K2 hK2=>?_;refine c_qF ?_;refine f_move (.int .i64 (t : Int)) rfl rfl rfl rfl rfl ?_;refine f_move (.int .i64 80) rfl rfl rfl rfl rfl ?_
 by_cases htl : t < 80
 ·refine f_lssI (t : Int) 80 true rfl rfl rfl rfl rfl rfl (decide_eq_true (by omega)) ?_
  refine f_end fun w1 hw1=>hK2 _ _ ?_;refine c_cond true rfl ?_;refine c_skip ?_;refine hK1 _ _ ?_;refine c_seq fun K3 hK3=>?_;refine c_block ?_;have hS:=hS.up hw1;have hF:=hrec t h16;have hN:=hS.up (Up.drew w1)
  have hl : (mxl F y80 t).length = 80:=by rw [mxl_len,y80_len]
  have c2:=hS.xx.word (j:=t - 2) (by omega);have c7:=hS.xx.word (j:=t - 7) (by omega);have c15:=hS.xx.word (j:=t - 15) (by omega);have c16:=hS.xx.word (j:=t - 16) (by omega);have ct:=hS.xx.word (j:=t) (by omega);have cf:=hS.xx.free t (by rw [Us_len]; omega);rw [mxl_at (by omega) (by rw [y80_len]; omega)] at c2 c7 c15 c16;have p2:=hlt (t - 2);have p7:=hlt (t - 7);have p15:=hlt (t - 15);have p16:=hlt (t - 16)
  have i2 : IntKind.i64.wrap ((t : Int) - 2) = ((t - 2 : Nat) : Int):=by rw [i64_left,wrap64_in _ (by omega)]; omega
  have i7 : IntKind.i64.wrap ((t : Int) - 7) = ((t - 7 : Nat) : Int):=by rw [i64_left,wrap64_in _ (by omega)]; omega
  have i15 : IntKind.i64.wrap ((t : Int) - 15) = ((t - 15 : Nat) : Int):=by rw [i64_left,wrap64_in _ (by omega)]; omega
  have i16 : IntKind.i64.wrap ((t : Int) - 16) = ((t - 16 : Nat) : Int):=by rw [i64_left,wrap64_in _ (by omega)]; omega
  have j2 : t - 2 < 80:=by omega
  have j7 : t - 7 < 80:=by omega
  have j15 : t - 15 < 80:=by omega
  have j16 : t - 16 < 80:=by omega
  have R1:=fun w1=>rlow64_f (F (t - 2)) 19 61 6 p2 (by decide) (by decide) (by decide) w1;have R2:=fun w1=>rlow64_f (F (t - 15)) 1 8 7 p15 (by decide) (by decide) (by decide) w1;have R3:=fun w1=>rcut64_f (F t) w1;have hset:=mxl_set F y80 (k:=t);generalize F (t - 2) = x2 at *;generalize F (t - 7) = x7 at *;generalize F (t - 15) = x15 at *;generalize F (t - 16) = x16 at *;generalize t - 2 = a2 at *;generalize t - 7 = a7 at *;generalize t - 15 = a15 at *;generalize t - 16 = a16 at *;generalize loww 64 (19,61,6) x2 = v1 at *;generalize loww 64 (1,8,7) x15 = v0 at *;obtain ⟨z1,hz1⟩ : ∃ z,z = (v1 + x7) % 18446744073709551616:=⟨_,rfl⟩;obtain ⟨z2,hz2⟩ : ∃ z,z = (z1 + v0) % 18446744073709551616:=⟨_,rfl⟩
  have w1' : IntKind.u64.wrap ((v1 : Int) + (x7 : Int)) = (z1 : Int):=by rw [IntKind.wrap_u64]; omega
  have w2 : IntKind.u64.wrap ((z1 : Int) + (v0 : Int)) = (z2 : Int):=by rw [IntKind.wrap_u64]; omega
  have w3 : IntKind.u64.wrap ((z2 : Int) + (x16 : Int)) = ((F t : Nat) : Int):=by rw [hF,IntKind.wrap_u64]; omega
  refine c_t 50 (by decide) (by kernel_rfl) (tail_ok (by kernel_rfl)) hQ ?_;simp only [List.take_succ_cons,List.take_zero]
  -- walk sched
  refine f_move (.slice (some ⟨gx,0,none⟩) 80 80) rfl rfl rfl rfl rfl ?_;refine f_move (.int .i64 (t : Int)) rfl rfl rfl rfl rfl ?_;refine f_move (.slice (some ⟨gx,0,none⟩) 80 80) rfl rfl rfl rfl rfl ?_;refine f_move (.int .i64 (t : Int)) rfl rfl rfl rfl rfl ?_;refine f_subI (t : Int) (2 : Int) (a2 : Int) rfl rfl rfl rfl rfl rfl i2 ?_;refine f_idx0 gx 80 80 a2 (by omega) (by decide) rfl rfl rfl rfl rfl rfl ?_;refine f_load ⟨gx,a2,none⟩ (.int .u64 (x2 : Int)) (by decide) rfl rfl rfl rfl rfl (fun _ h=>(h.cell hS.xx.lt).trans c2) ?_;refine f_move (.int .u64 64) rfl rfl rfl rfl rfl ?_;refine f_move (.slice (some ⟨gn,0,none⟩) 12 12) rfl rfl rfl rfl rfl ?_;refine f_idx0 gn 12 12 9 (by decide) (by decide) rfl rfl rfl rfl rfl rfl ?_;refine f_load ⟨gn,9,none⟩ (.int .u64 ((19 : Nat) : Int)) (by decide) rfl rfl rfl rfl rfl (fun _ h=>(hS.nn.up h).cell 9 _ rfl) ?_;refine f_move (.slice (some ⟨gn,0,none⟩) 12 12) rfl rfl rfl rfl rfl ?_;refine f_idx0 gn 12 12 10 (by decide) (by decide) rfl rfl rfl rfl rfl rfl ?_;refine f_load ⟨gn,10,none⟩ (.int .u64 ((61 : Nat) : Int)) (by decide) rfl rfl rfl rfl rfl (fun _ h=>(hS.nn.up h).cell 10 _ rfl) ?_;refine f_move (.slice (some ⟨gn,0,none⟩) 12 12) rfl rfl rfl rfl rfl ?_;refine f_idx0 gn 12 12 11 (by decide) (by decide) rfl rfl rfl rfl rfl rfl ?_;refine f_load ⟨gn,11,none⟩ (.int .u64 ((6 : Nat) : Int)) (by decide) rfl rfl rfl rfl rfl (fun _ h=>(hS.nn.up h).cell 11 _ rfl) ?_;refine f_call #[.int .u64 (x2 : Int),.int .u64 64,.int .u64 ((19 : Nat) : Int),.int .u64 ((61 : Nat) : Int),.int .u64 ((6 : Nat) : Int),.bool true] (.int .u64 (v1 : Int)) rfl rfl rfl own_rthree (fun w _=>calls_still (R1 w)) rfl rfl ?_;refine f_move (.slice (some ⟨gx,0,none⟩) 80 80) rfl rfl rfl rfl rfl ?_;refine f_move (.int .i64 (t : Int)) rfl rfl rfl rfl rfl ?_;refine f_subI (t : Int) (7 : Int) (a7 : Int) rfl rfl rfl rfl rfl rfl i7 ?_;refine f_idx0 gx 80 80 a7 (by omega) (by decide) rfl rfl rfl rfl rfl rfl ?_;refine f_load ⟨gx,a7,none⟩ (.int .u64 (x7 : Int)) (by decide) rfl rfl rfl rfl rfl (fun _ h=>(h.cell hS.xx.lt).trans c7) ?_;refine f_addU (v1 : Int) (x7 : Int) (z1 : Int) rfl rfl rfl rfl rfl rfl w1' ?_;refine f_move (.slice (some ⟨gx,0,none⟩) 80 80) rfl rfl rfl rfl rfl ?_;refine f_move (.int .i64 (t : Int)) rfl rfl rfl rfl rfl ?_;refine f_subI (t : Int) (15 : Int) (a15 : Int) rfl rfl rfl rfl rfl rfl i15 ?_;refine f_idx0 gx 80 80 a15 (by omega) (by decide) rfl rfl rfl rfl rfl rfl ?_;refine f_load ⟨gx,a15,none⟩ (.int .u64 (x15 : Int)) (by decide) rfl rfl rfl rfl rfl (fun _ h=>(h.cell hS.xx.lt).trans c15) ?_;refine f_move (.int .u64 64) rfl rfl rfl rfl rfl ?_;refine f_move (.slice (some ⟨gn,0,none⟩) 12 12) rfl rfl rfl rfl rfl ?_;refine f_idx0 gn 12 12 6 (by decide) (by decide) rfl rfl rfl rfl rfl rfl ?_;refine f_load ⟨gn,6,none⟩ (.int .u64 ((1 : Nat) : Int)) (by decide) rfl rfl rfl rfl rfl (fun _ h=>(hS.nn.up h).cell 6 _ rfl) ?_;refine f_move (.slice (some ⟨gn,0,none⟩) 12 12) rfl rfl rfl rfl rfl ?_
  refine f_idx0 gn 12 12 7 (by decide) (by decide) rfl rfl rfl rfl rfl rfl ?_;refine f_load ⟨gn,7,none⟩ (.int .u64 ((8 : Nat) : Int)) (by decide) rfl rfl rfl rfl rfl (fun _ h=>(hS.nn.up h).cell 7 _ rfl) ?_;refine f_move (.slice (some ⟨gn,0,none⟩) 12 12) rfl rfl rfl rfl rfl ?_;refine f_idx0 gn 12 12 8 (by decide) (by decide) rfl rfl rfl rfl rfl rfl ?_;refine f_load ⟨gn,8,none⟩ (.int .u64 ((7 : Nat) : Int)) (by decide) rfl rfl rfl rfl rfl (fun _ h=>(hS.nn.up h).cell 8 _ rfl) ?_;refine f_call #[.int .u64 (x15 : Int),.int .u64 64,.int .u64 ((1 : Nat) : Int),.int .u64 ((8 : Nat) : Int),.int .u64 ((7 : Nat) : Int),.bool true] (.int .u64 (v0 : Int)) rfl rfl rfl own_rthree (fun w _=>calls_still (R2 w)) rfl rfl ?_;refine f_addU (z1 : Int) (v0 : Int) (z2 : Int) rfl rfl rfl rfl rfl rfl w2 ?_;refine f_move (.slice (some ⟨gx,0,none⟩) 80 80) rfl rfl rfl rfl rfl ?_;refine f_move (.int .i64 (t : Int)) rfl rfl rfl rfl rfl ?_;refine f_subI (t : Int) (16 : Int) (a16 : Int) rfl rfl rfl rfl rfl rfl i16 ?_;refine f_idx0 gx 80 80 a16 (by omega) (by decide) rfl rfl rfl rfl rfl rfl ?_;refine f_load ⟨gx,a16,none⟩ (.int .u64 (x16 : Int)) (by decide) rfl rfl rfl rfl rfl (fun _ h=>(h.cell hS.xx.lt).trans c16) ?_;refine f_addU (z2 : Int) (x16 : Int) ((F t : Nat) : Int) rfl rfl rfl rfl rfl rfl w3 ?_;refine f_move (.int .u64 64) rfl rfl rfl rfl rfl ?_;refine f_call #[.int .u64 ((F t : Nat) : Int),.int .u64 64] (.int .u64 ((F t : Nat) : Int)) rfl rfl rfl own_rcut (fun w _=>calls_still (R3 w)) rfl rfl ?_;refine f_idx0 gx 80 80 t htl (by decide) rfl rfl rfl rfl rfl rfl ?_
  -- end sched
  refine f_store ⟨gx,t,none⟩ (F t : Int) _ (.inl ⟨rfl,rfl⟩) rfl rfl rfl rfl rfl ct cf hS.xx.lt fun w2 hw2=>?_;refine hK3 _ _ ?_;refine c_qF ?_;refine f_move (.int .i64 (t : Int)) rfl rfl rfl rfl rfl ?_;refine f_addI (t : Int) 1 ((t + 1 : Nat) : Int) rfl rfl rfl rfl rfl rfl (by rw [i64_left,wrap64_in _ (by omega)]; omega) ?_;refine f_assign (.int .i64 ((t + 1 : Nat) : Int)) rfl rfl rfl rfl rfl ?_;refine f_end fun w3 hw3=>k_round (t + 1) ⟨rfl,rfl,rfl,rfl,rfl,rfl,rfl,rfl,rfl,trivial⟩ ⟨by omega,by omega,?_⟩ (by omega);rw [← hset];exact ((hS.up hw2).setX t (F t)).up hw3
 ·refine f_lssI (t : Int) 80 false rfl rfl rfl rfl rfl rfl (decide_eq_false (by omega)) ?_
  refine f_end fun w1 hw1=>hK2 _ _ ?_;refine c_cond false rfl ?_;refine c_exit ?_;refine k_exit (id:=12) (Q:=Q) ?_
  obtain rfl : t = 80:=by omega
  exact k_sub (E':=FS lm cm gm gn gh gx a 80) ⟨rfl,rfl,rfl,rfl,rfl,rfl,rfl,rfl,rfl,trivial⟩ (hend _ (hS.up hw1))
end
end Go.Proofs.YtminmeljonbogaaDoor
