/-
  SEVERAL TEXTS IN ONE: RdP, Vk, Vm, Vn, Vo, Vq, Vr, Vt, RdW, PaW.
-/
import Derived.Test.YtlcbhbahchiofaaGreatDoorMm
import Derived.Lib.SlBytesConst
import Derived.Test.YtlcbhbahchiofaaGreatDoorMc
import Derived.Test.YtlcbhbahchiofaaGreatDoorMe
import Derived.Deep.RegionHeld3
import Derived.Laws.CopyOwn
/-
  READERS (plain): what is read of bytes; certificates' bytes, there and back.
-/
namespace Go.Proofs.YtlcbhbahchiofaaGreatDoor
open Go.RowKit Go.IntWalk

abbrev Rds:=List UInt8 × Nat
def tkO (k : Nat) (s : Rds) : List UInt8:=(tk s.1 s.2 k).1
def tkS (k : Nat) (s : Rds) : Rds:=(tk s.1 s.2 k).2
def nuO (s : Rds) : Nat:=val (tkO 8 s)
def nuS (s : Rds) : Rds:=tkS 8 s
def moO (m : Nat) (s : Rds) : Nat:=if m < nuO s then 0 else nuO s
def moS (m : Nat) (s : Rds) : Rds:=if m < nuO s then ((nuS s).1,12) else nuS s
def byO (s : Rds) : List UInt8:=tkO (moO 1048576 s) (moS 1048576 s)
def byS (s : Rds) : Rds:=tkS (moO 1048576 s) (moS 1048576 s)
def pad64 (x : List UInt8) : List UInt8:=x ++ List.replicate (64 - x.length) 0
def sgO (s : Rds) : List UInt8:=pad64 (tkO 64 s)
def sgS (s : Rds) : Rds:=tkS 64 s
def endE (s : Rds) : Nat:=don s.1 s.2
section
variable {k : Nat} {s : Rds}
theorem tk_stick (h : s.2 ≠ 0) : tkO k s = [] ∧ tkS k s = s:=by
 unfold tkO tkS
 rw [tk_fail h];exact ⟨rfl,rfl⟩
theorem tk_less (h : s.2 = 0) (hk : s.1.length < k) : tkO k s = [] ∧ tkS k s = (s.1,10):=by
 unfold tkO tkS
 rw [h,tk_short hk];exact ⟨rfl,rfl⟩
theorem tk_take (h : s.2 = 0) (hk : k ≤ s.1.length) : tkO k s = s.1.take k ∧ tkS k s = (s.1.drop k,0):=by
 unfold tkO tkS
 rw [h,tk_ok hk];exact ⟨rfl,rfl⟩
theorem tk_all (k : Nat) (s : Rds) : (tkO k s = [] ∧ tkS k s = s ∧ s.2 ≠ 0) ∨ (tkO k s = [] ∧ tkS k s = (s.1,10) ∧ s.2 = 0 ∧ s.1.length < k) ∨ (tkO k s = s.1.take k ∧ tkS k s = (s.1.drop k,0) ∧ s.2 = 0 ∧ k ≤ s.1.length):=by
 by_cases h : s.2 = 0
 ·by_cases hk : s.1.length < k
  ·exact .inr (.inl ⟨(tk_less h hk).1,(tk_less h hk).2,h,hk⟩)
  ·exact .inr (.inr ⟨(tk_take h (by omega)).1,(tk_take h (by omega)).2,h,by omega⟩)
 ·exact .inl ⟨(tk_stick h).1,(tk_stick h).2,h⟩
theorem tk_yes (h : (tkS k s).2 = 0) : s.2 = 0 ∧ (tkO k s).length = k ∧ s.1 = tkO k s ++ (tkS k s).1:=by
 rcases tk_all k s with ⟨h1,h2,h3⟩ | ⟨h1,h2,h3,h4⟩ | ⟨h1,h2,h3,h4⟩
 ·rw [h2] at h
  exact absurd h h3
 ·rw [h2] at h
  cases h
 ·rw [h1,h2]
  exact ⟨h3,by rw [List.length_take]; omega,(List.take_append_drop k s.1).symm⟩
theorem tkO_le (k : Nat) (s : Rds) : (tkO k s).length ≤ k ∧ (tkO k s).length ≤ s.1.length:=by
 rcases tk_all k s with ⟨h1,_⟩ | ⟨h1,_⟩ | ⟨h1,_⟩ <;> rw [h1] <;> simp
 omega
theorem nuO_lt (s : Rds) : nuO s < 18446744073709551616:=val_lt _
theorem be8_val {l : List UInt8} (h : l.length = 8) : be8 (val l) = l:=by
 match l,h with
 | [a,b,c,d,e,f,g,i],_ =>
  have ha:=a.toNat_lt;have hb:=b.toNat_lt;have hc:=c.toNat_lt;have hd:=d.toNat_lt;have he:=e.toNat_lt;have hf:=f.toNat_lt;have hg:=g.toNat_lt;have hi:=i.toNat_lt
  have hv : val [a,b,c,d,e,f,g,i] = a.toNat * 72057594037927936 + b.toNat * 281474976710656 + c.toNat * 1099511627776 + d.toNat * 4294967296 + e.toNat * 16777216 + f.toNat * 65536 + g.toNat * 256 + i.toNat:=by
   simp only [val,List.foldl_cons,List.foldl_nil,step]
   omega
  have key : ∀ (x : UInt8) (n : Nat),n % 256 = x.toNat → UInt8.ofNat n = x:=fun x n h=>by
   apply UInt8.toNat_inj.1
   rw [UInt8.toNat_ofNat',h]
  rw [hv]
  unfold be8
  rw [key a _ (by omega),key b _ (by omega),key c _ (by omega),key d _ (by omega),key e _ (by omega),key f _ (by omega),key g _ (by omega),key i _ (by omega)]
theorem nu_yes (h : (nuS s).2 = 0) : s.2 = 0 ∧ s.1 = be8 (nuO s) ++ (nuS s).1:=by
 obtain ⟨h1,h2,h3⟩:=tk_yes h;refine ⟨h1,?_⟩
 unfold nuO
 rw [be8_val h2];exact h3
theorem mo_yes {m : Nat} (h : (moS m s).2 = 0) : s.2 = 0 ∧ moO m s = nuO s ∧ moO m s ≤ m ∧ s.1 = be8 (moO m s) ++ (moS m s).1:=by
 unfold moS moO at *
 split at h
 ·cases h
 ·rename_i hm
  rw [if_neg hm,if_neg hm];obtain ⟨h1,h2⟩:=nu_yes h;exact ⟨h1,rfl,by omega,h2⟩
theorem moO_le (m : Nat) (s : Rds) : moO m s ≤ m:=by
 unfold moO
 split <;> omega
theorem by_yes (h : (byS s).2 = 0) : s.2 = 0 ∧ s.1 = be8 (byO s).length ++ (byO s) ++ (byS s).1:=by
 obtain ⟨h1,h2,h3⟩:=tk_yes h;obtain ⟨g1,_,_,g2⟩:=mo_yes h1;refine ⟨g1,?_⟩
 unfold byO byS
 rw [h2,List.append_assoc,← h3];exact g2
theorem pad_self {x : List UInt8} (h : x.length = 64) : pad64 x = x:=by simp [pad64,h]
theorem pad_len {x : List UInt8} (h : x.length ≤ 64) : (pad64 x).length = 64:=by simp [pad64]; omega
theorem sgO_len (s : Rds) : (sgO s).length = 64:=pad_len (tkO_le 64 s).1
theorem sg_yes (h : (sgS s).2 = 0) : s.2 = 0 ∧ s.1 = sgO s ++ (sgS s).1:=by
 obtain ⟨h1,h2,h3⟩:=tk_yes h;refine ⟨h1,?_⟩
 unfold sgO
 rw [pad_self h2];exact h3
end
def stI (s : Rds) : Nat → Rds
  | 0=>s
  | i + 1=>sgS (nuS (stI s i))
def nuI (s : Rds) (i : Nat) : Nat:=nuO (stI s i)
def siI (s : Rds) (i : Nat) : List UInt8:=sgO (nuS (stI s i))
theorem stI_stick {s : Rds} {i : Nat} (h : (stI s i).2 ≠ 0) : ∀ d,stI s (i + d) = stI s i
 | 0=>rfl
 | d + 1=>by
  have h1:=stI_stick h d
  show sgS (nuS (stI s (i + d))) = _
  rw [h1];have h2 : nuS (stI s i) = stI s i:=(tk_stick h).2;rw [h2];exact (tk_stick h).2
theorem stI_ok {s : Rds} {n i : Nat} (h : (stI s n).2 = 0) (hi : i ≤ n) : (stI s i).2 = 0:=by
 by_cases h1 : (stI s i).2 = 0
 ·exact h1
 ·have h2:=stI_stick h1 (n - i)
  rw [show i + (n - i) = n by omega] at h2;rw [h2] at h;exact absurd h h1
def ent (v : Int) (x : List UInt8) : List UInt8:=be8 (IntKind.u64.wrap v).toNat ++ x
theorem wrap64_or (v : Nat) (h : v < 18446744073709551616) : wrap64 (v : Int) = (v : Int) ∨ wrap64 (v : Int) = (v : Int) - 18446744073709551616:=by
 unfold wrap64
 omega
theorem u64_is (z : Int) : IntKind.u64.wrap z = z % 18446744073709551616:=rfl
theorem wrap_back {v : Nat} (h : v < 18446744073709551616) : (IntKind.u64.wrap (IntKind.i64.wrap (v : Int))).toNat = v:=by
 have h1:=wrap64_or v h;rw [i64_left];generalize wrap64 (v : Int) = z at h1;rw [u64_is]
 omega
theorem st_yes {s : Rds} {n : Nat} (h : (stI s n).2 = 0) : s.1 = ((List.range n).map fun i=>ent (IntKind.i64.wrap (nuI s i : Int)) (siI s i)).flatten ++ (stI s n).1:=by
 induction n with
 | zero=>rfl
 | succ n ih =>
  have h1:=stI_ok h (Nat.le_succ n);have h2:=ih h1;obtain ⟨g1,g2⟩:=sg_yes (s:=nuS (stI s n)) h;obtain ⟨_,g3⟩:=nu_yes g1;rw [List.range_succ,List.map_append,List.flatten_append];simp only [List.map_cons,List.map_nil,List.flatten_cons,List.flatten_nil,List.append_nil];rw [List.append_assoc]
  have e : (stI s n).1 = ent (IntKind.i64.wrap (nuI s n : Int)) (siI s n) ++ (stI s (n + 1)).1:=by
   unfold ent
   rw [wrap_back (v:=nuI s n) (nuO_lt _),List.append_assoc]
   show (stI s n).1 = be8 (nuO (stI s n)) ++ (sgO (nuS (stI s n)) ++ (sgS (nuS (stI s n))).1)
   rw [← g2];exact g3
  rw [← e];exact h2
def paS (l : List UInt8) : Rds:=moS 65536 (byS (l,0))
def paN (l : List UInt8) : Nat:=moO 65536 (byS (l,0))
def paR (l : List UInt8) : Rds:=stI (paS l) (paN l)
def paG (l : List UInt8) (n : Nat) : Bool:=(List.range n).any fun i=>decide (65536 < nuI (paS l) i)
def paE (l : List UInt8) : Nat:=if endE (paR l) = 0 then (if paG l (paN l) = true then 13 else 0) else endE (paR l)
def sgsI (s : Rds) (n : Nat) : List Int:=(List.range n).map fun i=>IntKind.i64.wrap (nuI s i : Int)
def sisI (s : Rds) (n : Nat) : List (List UInt8):=(List.range n).map (siI s)
def paC (l : List UInt8) : CV:=if paE l = 0 then ⟨byO (l,0),sgsI (paS l) (paN l),sisI (paS l) (paN l)⟩ else cv0
def entsC (c : CV) (n : Nat) : List UInt8:=((List.range n).map fun i=>ent (c.sg[i]!) ((c.si[i]?).getD (List.replicate 64 0))).flatten
def bytesC (c : CV) : List UInt8:=be8 c.body.length ++ c.body ++ be8 c.sg.length ++ entsC c c.sg.length
theorem entsC_next (c : CV) (n : Nat) : entsC c (n + 1) = entsC c n ++ ent (c.sg[n]!) ((c.si[n]?).getD (List.replicate 64 0)):=by
 unfold entsC
 rw [List.range_succ,List.map_append,List.flatten_append]
 simp
theorem end_ok {s : Rds} (h : endE s = 0) : s.2 = 0 ∧ s.1 = []:=by
 unfold endE don at h
 split at h
 ·split at h
  ·exact ⟨by assumption,List.eq_nil_of_length_eq_zero (by assumption)⟩
  ·cases h
 ·exact absurd h (by assumption)
theorem paE_ok {l : List UInt8} (h : paE l = 0) : endE (paR l) = 0 ∧ paG l (paN l) = false:=by
 unfold paE at h
 split at h
 ·rename_i h1
  refine ⟨h1,?_⟩
  split at h
  ·cases h
  ·simpa using (by assumption : ¬ paG l (paN l) = true)
 ·exact absurd h (by assumption)
theorem back {l : List UInt8} (h : paE l = 0) : bytesC (paC l) = l:=by
 obtain ⟨h1,_⟩:=paE_ok h;obtain ⟨h2,h3⟩:=end_ok h1;have h4:=st_yes (s:=paS l) (n:=paN l) h2;have h5 : (paS l).2 = 0:=stI_ok (i:=0) h2 (Nat.zero_le _);obtain ⟨h6,_,_,h7⟩:=mo_yes h5;obtain ⟨_,h8⟩:=by_yes h6
 unfold paC
 rw [if_pos h]
 have e1 : (sgsI (paS l) (paN l)).length = paN l:=by simp [sgsI]
 have e2 : entsC ⟨byO (l,0),sgsI (paS l) (paN l),sisI (paS l) (paN l)⟩ (paN l) = ((List.range (paN l)).map fun i=>ent (IntKind.i64.wrap (nuI (paS l) i : Int)) (siI (paS l) i)).flatten:=by
  unfold entsC
  refine congrArg List.flatten (List.map_congr_left fun i hi=>?_);have hi:=List.mem_range.1 hi
  have a1 : (sgsI (paS l) (paN l))[i]! = IntKind.i64.wrap (nuI (paS l) i : Int):=by simp [sgsI,hi]
  have a2 : (sisI (paS l) (paN l))[i]? = some (siI (paS l) i):=by simp [sisI,hi]
  dsimp only
  rw [a1,a2]
  rfl
 unfold bytesC
 dsimp only
 rw [e1,e2]
 have h9 : (paS l).1 = ((List.range (paN l)).map fun i=>ent (IntKind.i64.wrap (nuI (paS l) i : Int)) (siI (paS l) i)).flatten:=by
  rw [h4]
  show _ ++ (paR l).1 = _
  rw [h3,List.append_nil]
 rw [← h9];have h7' : (byS (l,0)).1 = be8 (paN l) ++ (paS l).1:=h7;have h8' : l = be8 (byO (l,0)).length ++ byO (l,0) ++ (byS (l,0)).1:=h8;rw [h7',← List.append_assoc] at h8';exact h8'.symm
end Go.Proofs.YtlcbhbahchiofaaGreatDoor
/-
  LITERALS OF BYTES, over states.
-/
namespace Go.Proofs.YtlcbhbahchiofaaGreatDoor
open Go.RowKit Go.IntWalk

theorem rd_alloc {w : World} {m : Nat × Nat} (l : List UInt8) (hm : l.length ≤ 9223372036854775807) : Rd 1 eB (some ⟨w.heap.size,0,none⟩) l.length l (w.alloc (.cells (By l).toArray 5 m)):=by
 have hc : (w.alloc (.cells (By l).toArray 5 m)).heap[w.heap.size]? = some (.cells (By l).toArray 5 m):=heap_alloc_new w _;have hsz : (w.alloc (.cells (By l).toArray 5 m)).heap.size = w.heap.size + 1:=World.size_alloc _ _;refine ⟨Nat.le_refl _,hm,fun h=>(by cases h),okF_B l,fun _=>⟨w.heap.size,0,rfl,by rw [hsz]; exact Nat.lt_succ_self _,fun i x hi j v hj=>?_⟩⟩
 cases j with
 | zero =>
  have e : v = .int .u8 (x.toNat : Int):=(Option.some.inj ((show (eB x).cl[0]? = some (.int .u8 (x.toNat : Int)) from rfl).symm.trans hj)).symm;rw [cell_of_row _ _ _ _ _ _ hc,e];obtain ⟨h1,h2⟩:=List.getElem?_eq_some_iff.1 hi;have h3:=By_at? h1;rw [getElem!_pos l i h1,h2] at h3
  simpa using h3
 | succ j =>
  have : (eB x).cl[j + 1]? = none:=rfl;rw [this] at hj
  cases hj
section
variable {b : Base} {ops : Array Oper} {Q : Exit → Act → World → Prop} {N : Nat} {E : SE} {L : List LV} {R : List Res} {F M : World → Prop} {o o2 : Oper} {rest : List Oper} {k k2 : Nat}
theorem l_litS {n : Nat} {parts : Array (Nat × Operand)} (l : List UInt8) (hg : o.guard = none) (hd : o.dst = some k) (hk : Nat.blt k N = true) (ho : o.op = .buildSlice 22 n parts) (hp : ∀ G : Nat → Nat,parts.toList.map (fun p=>(p.1,(evS E p.2).map (SV.den G))) = ((l.map fun x=>(eB x).den).zipIdx 0).map fun x=>(x.2,some x.1))
  (hn : l.length = n) (h0 : 0 < n) (h24 : n ≤ 16777216) (hf : lookS E k = none) (hg2 : o2.guard = none) (hd2 : o2.dst = some k2) (hk2 : Nat.blt k2 N = true) (ho2 : o2.op = .convert 22 22 (.tmp k))
  (hc : ∀ g,lS Tryz.prog b ops Q N rest ⟨(k2,.v (.slice (some ⟨g,0,none⟩) n n)) :: E,L,R,F,fun w=>Rd 1 eB (some ⟨g,0,none⟩) n l w ∧ M w⟩) : lS Tryz.prog b ops Q N (o :: o2 :: rest) ⟨E,L,R,F,M⟩:=fun a w ⟨G,S,h1,h2,h3⟩=>by
 obtain ⟨ht,ie,z,hi,hz,hsz,hbs,hzs,_⟩:=slS_ok (T:=TY) TY_ok (t:=22) (e:=5) (k:=1) (bs:=1) rfl
 have hr:=run_lit (P:=Tryz.prog) ht hi hz hsz (l.map fun x=>(eB x).den) n (parts.map fun (i,x)=>(i,a.eval x)) (by rw [Array.toList_map]; exact map_parts h1 _ _ (hp G)) (by rw [List.length_map,hn]) (by omega) (by omega) (fun v hv=>by
  obtain ⟨x,hx,rfl⟩:=List.mem_map.1 hv
  rfl) w
 have e1 : ((l.map fun x=>(eB x).den).flatMap fun v=>v.cells.toList) = By l:=by rw [List.flatMap_map,← flat_B]; rfl
 rw [e1] at hr;subst hn
 refine wpl_go (v:=.slice (some ⟨w.heap.size,0,none⟩) l.length l.length) (w':=w.alloc (.cells (By l).toArray 5)) (oneS hg) (by
  unfold execOp
  simp only [ho,Sem.run_bind,hr,Result.andThen_ok,Sem.run_pure]) ?_
 rw [hd];have f1:=h1.putFar (k:=k) (by rw [look_den,hf]; rfl) (.slice (some ⟨w.heap.size,0,none⟩) l.length l.length);have e2 : (a.put (some k) (.slice (some ⟨w.heap.size,0,none⟩) l.length l.length)).eval (.tmp k) = .slice (some ⟨w.heap.size,0,none⟩) l.length l.length:=eval_put_same h1 hk _;have hr2:=Lib.run_convert_bytes_const (P:=Tryz.prog) w 22 5 (By l).toArray l.length l.length Tryz.underlying22 Tryz.underlying5
 refine wpl_go (v:=.slice (some ⟨w.heap.size,0,none⟩) l.length l.length) (w':=w.alloc (.cells (By l).toArray 5 ((By l).toArray.size,(By l).toArray.size + 1))) (oneS hg2) (by
  unfold execOp
  simp only [ho2,e2,Sem.run_bind,hr2,Result.andThen_ok,Sem.run_pure]) ?_
 rw [hd2];have h4:=rd_alloc (w:=w) (m:=((By l).toArray.size,(By l).toArray.size + 1)) l (by omega);have h5:=h3.later ((Below.refl w.heap.size w).alloc (Nat.le_refl _) (.cells (By l).toArray 5 ((By l).toArray.size,(By l).toArray.size + 1)));refine hc w.heap.size _ _ ⟨G,S,f1.put hk2 _,h2.cons trivial,h5.andM fun w2 hw2=>h4.keep hw2.size fun g e hlt=>hw2.block g hlt fun hx=>?_⟩;simp only [Option.map_some,Option.some.injEq] at e;subst e
 rcases hx with hx | hx
 ·exact Nat.lt_irrefl _ (Nat.lt_of_lt_of_le hx h3.chg.size)
 ·exact Nat.lt_irrefl _ (h3.lt _ hx)
end
end Go.Proofs.YtlcbhbahchiofaaGreatDoor
/-
  MORE STEPS, over states: equality of bools, of rows of bytes, of strings; bytes as strings; xor, min, cuts.
-/
namespace Go.Proofs.YtlcbhbahchiofaaGreatDoor
open Go.RowKit Go.IntWalk

section
variable {P : Program} {b : Base} {ops : Array Oper} {Q : Exit → Act → World → Prop} {N : Nat} {E : SE} {L : List LV} {R : List Res} {F M : World → Prop} {o : Oper} {rest : List Oper} {k : Nat}
theorem l_op (v : SV) (hv : v.Ok) (hg : o.guard = none) (hd : o.dst = some k) (hk : Nat.blt k N = true) (h : ∀ (G : Nat → Nat) (a : Act) (w : World),Fr N (denE G E) a → (execOp a.eval o).run P w = .ok (.value (v.den G)) w)
  (hn : lS P b ops Q N rest ⟨(k,v) :: E,L,R,F,M⟩) : lS P b ops Q N (o :: rest) ⟨E,L,R,F,M⟩:=fun a w ⟨G,S,h1,h2,h3⟩=>by
 refine wpl_go (oneS hg) (h G a w h1) ?_;rw [hd];exact hn _ w ⟨G,S,h1.put hk _,h2.cons hv,h3⟩
variable {T' : List Oper} {G : Nat → Nat} {S : Nat → Prop} {w0 : World} {grest : List (Nat × Oper)} {i : Nat}
theorem g_opS (v : SV) (hv : v.Ok) (hg : o.guard = none) (hd : o.dst = some k) (hk : Nat.blt k N = true) (h : ∀ (G : Nat → Nat) (a : Act) (w : World),Fr N (denE G E) a → (execOp a.eval o).run P w = .ok (.value (v.den G)) w)
  (hn : gS P b ops Q N T' G w0 grest ((k,v) :: E)) : gS P b ops Q N T' G w0 ((i,o) :: grest) E:=fun hE =>
 g_op rfl (fun a ha=>b_val (by simp [Region.wanted,hg]) (fun w _=>h G a w ha) (by
  rw [hd]
  exact g_go (o:=o) (hn (hE.cons hv)) _ (ha.put hk _)))
end
section
variable {N : Nat} {E : SE} {o : Oper} {x y : Operand} {t t' : TypeId}
theorem run_neqY {n : Nat} {l m : List UInt8} (ho : o.op = .binOp .neq t x y t') (hx : evS E x = some (.q (eY n l))) (hy : evS E y = some (.q (eY n m))) (ht : Tryz.prog.underlying t = some (.array n 5)) (hg : Tryz.prog.eqGuardType Tryz.prog.depth t = false) (hl : l.length = n) (hm : m.length = n) :
  ∀ (G : Nat → Nat) (a : Act) (w : World),Fr N (denE G E) a → (execOp a.eval o).run Tryz.prog w = .ok (.value ((SV.b (!decide (l = m))).den G)) w:=fun G a w ha=>by
 have h1 : a.eval x = .agg (By l).toArray:=ha.eval (evS_ok hx);have h2 : a.eval y = .agg (By m).toArray:=ha.eval (evS_ok hy)
 unfold execOp
 simp only [ho,h1,h2,Sem.run_bind,run_eqGuard_agg (hm:=hg),Result.andThen_ok,binOp,Op.equal,Op.maxDepth,equalIn_bytes 9998 n t l m ht hl hm w,Sem.run_pure]
 rfl
abbrev vS (l : List UInt8) : SV:=.v (.string ⟨l.toArray⟩)
theorem run_neqS {l m : List UInt8} (ho : o.op = .binOp .neq 9 x y t') (hx : evS E x = some (vS l)) (hy : evS E y = some (vS m)) :
  ∀ (G : Nat → Nat) (a : Act) (w : World),Fr N (denE G E) a → (execOp a.eval o).run Tryz.prog w = .ok (.value ((SV.b (!decide (l = m))).den G)) w:=fun G a w ha=>by
 have h1 : a.eval x = .string ⟨l.toArray⟩:=ha.eval (evS_ok hx);have h2 : a.eval y = .string ⟨m.toArray⟩:=ha.eval (evS_ok hy)
 unfold execOp
 simp only [ho,h1,h2]
 by_cases e : l = m <;> go_simp <;> first | rfl | (rw [show (l == m) = false from by simpa using e]; rfl)
theorem run_sizeOf {P : Program} {e : TypeId} {k : Nat} (he : (P.info? e).map (·.size) = some k) (w : World) : (sizeOf e).run P w = .ok k w:=by
 cases hq : P.info? e with
 | none=>simp [hq] at he
 | some ie =>
  have hs : ie.size = k:=by simpa [hq] using he
  simp [sizeOf,typeInfo,hq,hs]
theorem run_cutHi {A : Option Addr} {n c j sz : Nat} {e : TypeId} (he : (Tryz.prog.info? e).map (·.size) = some sz) (hj : j ≤ c) (hA : A = none → c = 0) (ho : o.op = .slice t x none (some y) none) (hu : Tryz.prog.underlying t = some (.slice e)) (hx : evS E x = some (.v (.slice A n c))) (hy : evS E y = some (.v (.int .i64 (j : Int)))) :
  ∀ (G : Nat → Nat) (a : Act) (w : World),Fr N (denE G E) a → (execOp a.eval o).run Tryz.prog w = .ok (.value ((SV.v (.slice A j c)).den G)) w:=fun G a w ha=>by
 have h1 : a.eval x = .slice A n c:=ha.eval (evS_ok hx);have h2 : a.eval y = .int .i64 (j : Int):=ha.eval (evS_ok hy)
 have h3 : (j : Int) ≤ (c : Int):=by omega
 have h4 : (0 : Int) ≤ (j : Int):=by omega
 have h5:=run_sizeOf he w
 unfold execOp
 simp only [ho];generalize a.eval = ρ at *;simp only [Option.map,h1,h2]
 show _ = Result.ok (Next.value (.slice A j c)) w
 cases A with
 | none =>
  have:=hA rfl;obtain rfl : c = 0:=this
  obtain rfl : j = 0:=by omega
  go_simp
 | some ad=>go_simp
end
section
variable {b : Base} {ops : Array Oper} {Q : Exit → Act → World → Prop} {N : Nat} {E : SE} {L : List LV} {R : List Res} {F M : World → Prop} {o : Oper} {rest : List Oper} {k : Nat}
theorem l_strB {x : Operand} {A : Option Addr} {c : Nat} (l : List UInt8) (hg : o.guard = none) (hd : o.dst = some k) (hk : Nat.blt k N = true) (ho : o.op = .convert 22 9 x) (hx : evS E x = some (.v (.slice A l.length c)))
  (h : ∀ G S w,View G S L R F M w → Rd 1 eB A c l w) (hn : lS Tryz.prog b ops Q N rest ⟨(k,vS l) :: E,L,R,F,M⟩) : lS Tryz.prog b ops Q N (o :: rest) ⟨E,L,R,F,M⟩ :=
 l_f (vS l) trivial (fun G S w C0 Q' hv h0 hQ=>f_strB (.slice A l.length c) l hg hd hk ho (evS_ok hx) (fun w' hw'=>by rw [h0 w' hw']; exact (h G S w hv).sb) hQ) (by rw [ho]; rfl) hn
end
end Go.Proofs.YtlcbhbahchiofaaGreatDoor
/-
  FROM A CONTRACT TO A LAW'S ROW.
-/
namespace Go.Proofs.YtlcbhbahchiofaaGreatDoor
open Go.RowKit Go.IntWalk

theorem spec_law {f : FuncId} {args : List Value} {F : World → Prop} [Pst F] (h : Spec f args [] F (one (.v (.bool true)))) {W : World} (hF : F W) : Calls Tryz.prog f args.toArray W fun e W'=>e = .returned (.bool true) ∧ Below W.heap.size W W' :=
 (h W (fun _=>False) (fun _=>False) (fun _ h=>h) (fun _ h=>h.elim) (Stb.of_pst hF fun _ _ h=>h.elim id id)).mono fun _ _ ⟨_,_,h1,_,h2,_⟩=>⟨h1,h2.up fun _ _ h=>h⟩
theorem Rd.of_sl {A : Option Addr} {c : Nat} {l : List UInt8} {W : World} (h : SL W 0 W.heap.size A l c) : Rd 1 eB A c l W:=(Rd.of_sb ⟨A,c,rfl,h⟩).2
end Go.Proofs.YtlcbhbahchiofaaGreatDoor
/-
  CELLS WITHIN ROWS, over states: a byte of a variable's row, a byte of a row in a slice of one's own; a slice appended to one's own.
-/
namespace Go.Proofs.YtlcbhbahchiofaaGreatDoor
open Go.RowKit Go.IntWalk

theorem run_ixArr {P : Program} {t e : TypeId} {n sz : Nat} (ht : P.underlying t = some (.array n e)) (he : (P.info? e).map (·.size) = some sz) (g o : Nat) (K : IntKind) (i : Nat) (hi : i < n) (w : World) :
  (Instr.indexAt t (.pointer (some ⟨g,o,none⟩)) (.int K (i : Int))).run P w = .ok (.pointer (some ⟨g,o + sz * i,none⟩)) w:=by
 cases hq : P.info? e with
 | none=>simp [hq] at he
 | some ie =>
  have hs : ie.size = sz:=by simpa [hq] using he
  have h1 : (i : Int) < (n : Int):=by omega
  have h2 : (0 : Int) ≤ (i : Int):=by omega
  simp [Instr.indexAt,asIntOf,Instr.sureAddr,run_underlying ht,sizeOf,typeInfo,hq,hs,Addr.add_mid,Nat.mul_comm,hi]
section
variable {P : Program} {T : List TyR} {b : Base} {ops : Array Oper} {Q : Exit → Act → World → Prop} {N : Nat} {E : SE} {L : List LV} {R : List Res} {F M : World → Prop} {o : Oper} {rest : List Oper} {k : Nat} {t e : TypeId} {x y z : Operand} {K : IntKind} {j off n sz g : Nat}
theorem runO_ixA (i : Nat) (ho : o.op = .indexAddr t x y) (ht : P.underlying t = some (.array n e)) (he : (P.info? e).map (·.size) = some sz) (hx : evS E x = some (.a j off)) (hy : evS E y = some (.v (.int K (i : Int)))) (hi : i < n) :
  ∀ (G : Nat → Nat) (a : Act) (w : World),Fr N (denE G E) a → (execOp a.eval o).run P w = .ok (.value ((SV.a j (off + sz * i)).den G)) w:=fun G a w ha=>by
 have e1:=ha.eval (evS_ok hx);have e2:=ha.eval (evS_ok hy)
 unfold execOp
 simp only [ho,e1,e2,SV.den,SQ.den,SC.den,Sem.run_bind,run_ixArr ht he _ _ _ _ hi,Result.andThen_ok,Sem.run_pure]
theorem runO_ixS {c : Nat} (i : Nat) (ho : o.op = .indexAddr t x y) (ht : P.underlying t = some (.slice e)) (he : (P.info? e).map (·.size) = some sz) (hx : evS E x = some (.v (.slice (some ⟨g,off,none⟩) n c))) (hy : evS E y = some (.v (.int K (i : Int)))) (hi : i < n) :
  ∀ (G : Nat → Nat) (a : Act) (w : World),Fr N (denE G E) a → (execOp a.eval o).run P w = .ok (.value ((SV.v (.pointer (some ⟨g,off + sz * i,none⟩))).den G)) w:=fun G a w ha=>by
 have e1:=ha.eval (evS_ok hx);have e2:=ha.eval (evS_ok hy)
 unfold execOp
 simp only [ho,e1,e2,SV.den,SQ.den,SC.den,Sem.run_bind,run_index ht he _ _ _ _ _ _ hi,Result.andThen_ok,Sem.run_pure]
theorem l_stA {ps : List Pt} {v : Value} (ps' : List Pt) (hg : o.guard = none) (hd : o.dst = none) (ho : o.op = .store t x z) (hx : evS E x = some (.a j off)) (hz : evS E z = some (.v v)) (hl : lookL L j = some ps) (ht : (P.info? t).map (·.size) = some 1) (h1 : v.cells = #[v]) (h2 : v.oneCell' = true) (hlt : off < (catP ps).size) (hp : OkP ps')
  (hs : (catP ps').toList = (catP ps).toList.set off v) (hn : lS P b ops Q N rest ⟨E,putL L j ps',R,F,M⟩) : lS P b ops Q N (o :: rest) ⟨E,L,R,F,M⟩:=fun a w ⟨G,S,f1,f2,f3⟩=>by
 obtain ⟨u,hu,rfl,rfl⟩:=lookL_mem hl;have e1:=f1.eval (evS_ok hx);have e2:=f1.eval (evS_ok hz);have hst:=run_store_part (P:=P) (t:=t) (v:=v) (off:=off) (f3.at u hu) (by rw [ht,h1]; rfl) (by rw [h1]; exact hlt) (by rw [h1]; intro u hu; simp at hu; subst hu; exact h2)
 have e3 : ((catP u.ps).toList.take off ++ v.cells.toList ++ (catP u.ps).toList.drop (off + v.cells.size)).toArray = catP ps':=by
  apply Array.ext'
  rw [hs,List.set_eq_take_append_cons_drop,if_pos (by simpa using hlt),h1]
  simp
 rw [e3] at hst
 refine wpl_skip (w':=w.setRow (G u.j) (catP ps')) (oneS hg) (by
  unfold execOp
  simp only [ho,e1,e2,SV.den,SQ.den,SC.den,hst,Sem.run_bind,Sem.run_pure,Result.andThen_ok]) ?_
 rw [hd];exact hn _ _ ⟨G,S,f1,f2,f3.set (lookL_name hl) hp⟩
end
section
variable {α : Type} {fe : α → SQ} {l : List α} {P : Program} {T : List TyR} {b : Base} {ops : Array Oper} {Q : Exit → Act → World → Prop} {N : Nat} {E : SE} {L : List LV} {R : List Res} {F M : World → Prop} {o : Oper} {rest : List Oper} {k : Nat} {t e : TypeId} {x y z : Operand} {A : Option Addr} {lo c sz bs g m : Nat}
theorem l_stC {v : Value} (i : Nat) (l' : List α) (hi : R[i]? = some (OwnS lo e sz fe (some ⟨g,0,none⟩) c l)) (hg : o.guard = none) (hd : o.dst = none) (ho : o.op = .store t x z) (hx : evS E x = some (.v (.pointer (some ⟨g,m,none⟩)))) (hz : evS E z = some (.v v)) (ht : (P.info? t).map (·.size) = some 1) (h1 : v.cells = #[v]) (h2 : v.oneCell' = true)
  (hm : m < (flatF fe l).length) (hl : l'.length = l.length) (hok : OkF sz fe l') (hf : flatF fe l' = (flatF fe l).set m v)
  (hc : lS P b ops Q N rest ⟨E,L,R.set i (OwnS lo e sz fe (some ⟨g,0,none⟩) c l'),F,M⟩) : lS P b ops Q N (o :: rest) ⟨E,L,R,F,M⟩:=fun a w ⟨G,S,f1,f2,f3⟩=>by
 obtain ⟨S1,⟨hokl,hrow,hS1⟩,hput⟩:=f3.put hi
 rcases hrow.2 with ⟨h6,h7⟩ | ⟨g',cap,cur,hv,hb,hg',hnc,hmx,hcs,htk⟩
 ·injection h6 with h6
  cases h6
 injection hv with v1 _ v2
 injection v1 with v1
 injection v1 with v1
 subst v1;have hB : Blk w g e cur:=hg';have e1:=f1.eval (evS_ok hx);have e2:=f1.eval (evS_ok hz)
 have hmc : m < cur.size:=by
  rw [← htk,List.length_take] at hm;have : cur.toList.length = cur.size:=Array.length_toList
  omega
 have hst:=run_store_part (P:=P) (t:=t) (v:=v) (off:=m) hB (by rw [ht,h1]; rfl) (by rw [h1]; exact hmc) (by rw [h1]; intro u hu; simp at hu; subst hu; exact h2)
 have e3 : (cur.toList.take m ++ v.cells.toList ++ cur.toList.drop (m + v.cells.size)) = cur.toList.set m v:=by
  rw [List.set_eq_take_append_cons_drop,if_pos (by simpa using hmc),h1]
  simp
 rw [e3] at hst;have hB':=hB.row (cur.toList.set m v).toArray
 obtain ⟨S'',h12⟩:=hput (OwnS lo e sz fe (some ⟨g,0,none⟩) c l') (w.setRow g (cur.toList.set m v).toArray) S1 ((Chg.row w g _).mono fun k _ hk=>(hS1 k).2 (by rw [hk]; rfl))
  ⟨hok,⟨by rw [flatF_len hok,hl],.inr ⟨g,cap,_,by rw [hl,v2],hb,hB',by rw [hl]; exact hnc,hmx,by simpa using hcs,by
   rw [hl,hf,← htk]
   show List.take _ (cur.toList.set m v) = _
   rw [List.take_set]⟩⟩,hS1⟩ (fun k hk _=>hk)
 refine wpl_skip (w':=w.setRow g (cur.toList.set m v).toArray) (oneS hg) (by
  unfold execOp
  simp only [ho,e1,e2,SV.den,SQ.den,SC.den,hst,Sem.run_bind,Sem.run_pure,Result.andThen_ok]) ?_
 rw [hd];exact hc _ _ ⟨G,S'',f1,f2,h12⟩
theorem l_appY {A2 : Option Addr} {n c2 : Nat} (hT : OkT P T) (i : Nat) (m : List α) (hg : o.guard = none) (hd : o.dst = some k) (hk : Nat.blt k N = true) (ho : o.op = .call { callee:=.builtin .append,args:=#[x,y],argTypes:=#[t,t] }) (hs : slS T t = some (e,sz,bs)) (hx : evS E x = some (.v (.slice A n c))) (hy : evS E y = some (.v (.slice A2 m.length c2)))
  (hi : R[i]? = some (OwnS lo e sz fe A c l)) (hn : n = l.length) (hrd : ∀ G S w,View G S L R F M w → Rd sz fe A2 c2 m w) (h0 : 0 < sz) (hb : (l.length + m.length) * bs ≤ 140737488355328) (hm : l.length + m.length ≤ 9223372036854775807 - 64) (hlo : lo ≤ b.B.heap.size)
  (hc : ∀ A' c',lS P b ops Q N rest ⟨(k,.v (.slice A' (l ++ m).length c')) :: E,L,R.set i (OwnS lo e sz fe A' c' (l ++ m)),F,M⟩) : lS P b ops Q N (o :: rest) ⟨E,L,R,F,M⟩:=fun a w ⟨G,S,f1,f2,f3⟩=>by
 have hR:=hrd G S w f3.view;obtain ⟨S1,h5,hput⟩:=f3.put hi;have e1:=f1.eval (evS_ok hx);have e2:=f1.eval (evS_ok hy);subst hn
 have key : ∃ A' c' w' S',(Builtin.append_ #[t,t] o.type #[.slice A l.length c,.slice A2 m.length c2]).run P w = .ok (.slice A' (l ++ m).length c') w' ∧ Chg S1 w w' ∧ (OwnS lo e sz fe A' c' (l ++ m)).holds w' S' ∧ ∀ k,S' k → k < w.heap.size → S1 k:=by
  cases hA2 : A2 with
  | none =>
   have hc2:=hR.2.2.1 hA2;have hml : m = []:=List.eq_nil_of_length_eq_zero (by have:=hR.1; omega);subst hml;subst hc2;obtain ⟨ht,ie,zz,hie,hz,hsz,hbs,hzs,_⟩:=slS_ok hT hs;have hr:=run_append_owned_none (P:=P) w lo t o.type e ie sz ht hie _ l.length (flatF fe l) h5.2.1;refine ⟨A,c,w,S1,by rw [List.append_nil]; exact hr,Chg.refl _ _,by rw [List.append_nil]; exact h5,fun _ h _=>h⟩
  | some ad =>
   refine OwnS.grow hT (d:=c2) (ad:=ad) o.type hs h0 h5 hR.2.2.2.1 (fun j v hj=>?_) hb hm (Nat.le_trans hlo f3.chg.size);have hlen:=flatF_len hR.2.2.2.1;have hjl:=(List.getElem?_eq_some_iff.1 hj).1
   have hml : 0 < m.length:=by
    rcases Nat.eq_zero_or_pos m.length with h | h
    ·rw [hlen,h,Nat.zero_mul] at hjl
     omega
    ·exact h
   obtain ⟨bb,oo,e,_,hcell⟩:=hR.2.2.2.2 hml;rw [hA2] at e
   injection e with e
   subst e
   have hq : j / sz < m.length:=by
    rw [hlen] at hjl;exact Nat.div_lt_of_lt_mul (by rwa [Nat.mul_comm] at hjl)
   obtain ⟨B,Z,h9,h10,_⟩:=flatF_split hR.2.2.2.1 (List.getElem?_eq_getElem hq);have hmod:=Nat.div_add_mod j sz;have hlt:=Nat.mod_lt j h0;have hcl:=(hR.2.2.2.1 _ (List.getElem_mem hq)).2
   have hv : (fe m[j / sz]).cl[j % sz]? = some v:=by
    rw [h9,List.getElem?_append_right (by omega),h10,List.getElem?_append_left (by omega)] at hj
    rwa [show j - sz * (j / sz) = j % sz by omega] at hj
   have:=hcell (j / sz) _ (List.getElem?_eq_getElem hq) (j % sz) v hv;rw [Addr.add_mid]
   rwa [Nat.add_assoc,hmod] at this
 obtain ⟨A',c',w',S',hr,hch,ho',hS'⟩:=key;obtain ⟨S'',h6⟩:=hput _ _ _ hch ho' hS'
 refine wpl_go (v:=.slice A' (l ++ m).length c') (w':=w') (oneS hg) (by
  unfold execOp
  simp only [ho,resolve,invoke,builtin,Sem.run_bind,Sem.run_pure,Result.andThen_ok,List.map_toArray,List.map_cons,List.map_nil,e1,e2,SV.den,SQ.den,SC.den,hr]) ?_
 rw [hd];exact hc A' c' _ _ ⟨G,S'',f1.put hk _,f2.cons trivial,h6⟩
end
end Go.Proofs.YtlcbhbahchiofaaGreatDoor
/-
  MORE STEPS, over states: remainders by what is known, bytes that are turned.
-/
namespace Go.Proofs.YtlcbhbahchiofaaGreatDoor
open Go.RowKit Go.IntWalk

theorem wrapU {m r : Int} (h : m = r) (h1 : 0 ≤ r) (h2 : r < 18446744073709551616) : IntKind.u64.wrap m = r:=by
 subst h
 show m % 18446744073709551616 = m
 omega
section
variable {α : Type} {fe : α → SQ} {l : List α} {P : Program} {b : Base} {ops : Array Oper} {Q : Exit → Act → World → Prop} {N : Nat} {E : SE} {L : List LV} {R : List Res} {F M : World → Prop} {e : TypeId} {A : Option Addr} {lo c sz : Nat}
theorem l_skipU {o : Oper} {rest : List Oper} {j t k : Nat} {q : Bool} (hgd : o.guard = some (j,q)) (hj : (ops[j]?).bind (·.dst) = some t) (hN : Nat.blt t N = true) (ht : lookS E t = some (.v undef)) (hd : o.dst = some k) (hk : Nat.blt k N = true)
  (hn : lS P b ops Q N rest ⟨(k,.v undef) :: E,L,R,F,M⟩) : lS P b ops Q N (o :: rest) ⟨E,L,R,F,M⟩:=fun a w ⟨G,S,h1,h2,h3⟩=>by
 have hw : Region.wanted o (yielded ops a.tmps) = false:=by
  have h4:=h1.get t undef (by rw [look_den,ht]; rfl)
  have htN : t < a.tmps.size:=by rw [h1.size]; simpa using hN
  simp only [Act.eval,Array.getD_eq_getD_getElem?] at h4
  have h5 : a.tmps[t]? = some undef:=by
   rw [Array.getElem?_eq_getElem htN] at h4 ⊢
   simpa using h4
  unfold Region.wanted
  rw [hgd]
  simp [yielded,hj,h5,undef]
 unfold wpList
 rw [hw,if_neg (by decide),hd];exact hn _ w ⟨G,S,h1.put hk undef,h2.cons trivial,h3⟩
theorem s_where {y : Code} (i : Nat) (hi : R[i]? = some (OwnS lo e sz fe A c l)) (h0 : 0 < l.length) (h : ∀ g,A = some ⟨g,0,none⟩ → cS P b y Q N ⟨E,L,R,F,M⟩) : cS P b y Q N ⟨E,L,R,F,M⟩:=fun a w ⟨G,S,h1,h2,h3⟩=>by
 obtain ⟨S1,⟨_,hrow,_⟩,_⟩:=h3.put hi
 rcases hrow.2 with ⟨_,h7⟩ | ⟨g,cap,cur,hv,_⟩
 ·omega
 injection hv with v1 _ _
 exact h g v1 a w ⟨G,S,h1,h2,h3⟩
end
end Go.Proofs.YtlcbhbahchiofaaGreatDoor
/-
  OBJECTS, over states: written behind pointers; variables that are handed out as objects; slices cut at their begin.
-/
namespace Go.Proofs.YtlcbhbahchiofaaGreatDoor
open Go.RowKit Go.IntWalk

section
variable {P : Program} {T : List TyR} {b : Base} {ops : Array Oper} {Q : Exit → Act → World → Prop} {N : Nat} {E E' : SE} {L : List LV} {R : List Res} {F M : World → Prop} {o : Oper} {rest : List Oper} {k : Nat} {t ty : TypeId} {x z : Operand} {off g : Nat} {ps ps' : List Pt} {q : SQ}
theorem l_stO (hT : OkT P T) (i : Nat) (hi : R[i]? = some (ObjS g ty ps)) (hg : o.guard = none) (hd : o.dst = none) (ho : o.op = .store t x z) (hx : evS E x = some (.v (.pointer (some ⟨g,off,none⟩)))) (hz : evS E z = some (.q q)) (hs : storeS T ps t off q = some ps')
  (hn : lS P b ops Q N rest ⟨E,L,R.set i (ObjS g ty ps'),F,M⟩) : lS P b ops Q N (o :: rest) ⟨E,L,R,F,M⟩:=fun a w ⟨G,S,f1,f2,f3⟩=>by
 obtain ⟨S1,⟨⟨hb,hok⟩,hS1⟩,hput⟩:=f3.put hi;have e1 : a.eval x = .pointer (some ⟨g,off,none⟩):=f1.eval (evS_ok hx);have e2 : a.eval z = q.den:=f1.eval (evS_ok hz);obtain ⟨h3,h4⟩:=storeS_ok hT hok (f2.ev hz) hs;obtain ⟨S'',h6⟩:=hput (ObjS g ty ps') (w.setRow g (catP ps')) S1 ((Chg.row w g _).mono fun k _ hk=>(hS1 k).2 hk) ⟨⟨hb.row _,h3⟩,hS1⟩ (fun k hk _=>hk)
 refine wpl_skip (w':=w.setRow g (catP ps')) (oneS hg) (by
  unfold execOp
  simp only [ho,e1,e2,h4 hb,Sem.run_bind,Sem.run_pure,Result.andThen_ok]) ?_
 rw [hd];exact hn _ _ ⟨G,S'',f1,f2,h6⟩
theorem StW.give {G : Nat → Nat} {S : Nat → Prop} {y : LV} {w : World} (h : StW b G S (y :: L) R F M w) : StW b G (fun k=>k = G y.j ∨ S k) L (ObjS (G y.j) y.t y.ps :: R) F M w:=by
 have hM : ∀ k,Mine (fun k=>k = G y.j ∨ S k) G L k → Mine S G (y :: L) k:=fun k hk=>by
  rcases hk with (rfl | hk) | ⟨j,hj,rfl⟩
  ·exact .inr ⟨y.j,List.mem_cons_self,rfl⟩
  ·exact .inl hk
  ·exact .inr ⟨j,List.mem_cons_of_mem _ hj,rfl⟩
 have hy:=h.var y List.mem_cons_self;have hap:=List.pairwise_cons.1 (show (y.j :: namesL L).Pairwise fun i j=>G i ≠ G j from h.apart);refine ⟨fun x hx=>h.var x (List.mem_cons_of_mem _ hx),hap.2,⟨fun k=>k = G y.j,S,⟨⟨hy.1,hy.2.1⟩,fun _=>Iff.rfl⟩,h.res,fun _=>Iff.rfl,fun k hk hs=>h.sep y.j List.mem_cons_self (by rw [← hk]; exact hs)⟩,fun j hj hs=>?_,h.fact.less fun k _ hk=>hk.imp id (hM k),h.fresh.less fun k _ hk=>hk.imp id (hM k),h.chg,fun k hk=>h.mine k (hM k hk),h.old⟩
 rcases hs with hs | hs
 ·exact hap.1 j hj hs.symm
 ·exact h.sep j (List.mem_cons_of_mem _ hj) hs
theorem k_give {K : Act → World → Prop} {y : LV} (i : Nat) (hx : lookS E i = some (.a y.j 0)) (hs : SubS E' E) (h : ∀ g,kS b K N ⟨(i,.v (.pointer (some ⟨g,0,none⟩))) :: E',L,ObjS g y.t y.ps :: R,F,M⟩) : kS b K N ⟨E,y :: L,R,F,M⟩:=fun a w ⟨G,S,h1,h2,h3⟩=>by
 refine h (G y.j) a w ⟨G,_,?_,(hs.ok h2).cons trivial,h3.give⟩;exact (h1.sub (denE_sub hs)).more (h1.get i _ (by rw [look_den,hx]; rfl))
end
def cutA (A : Option Addr) (c n : Nat) : Option Addr:=if c = n then A else A.map (·.add n)
theorem Rd.part {A : Option Addr} {c n : Nat} {l : List UInt8} {w : World} (h : Rd 1 eB A c l w) (hn : n ≤ l.length) : Rd 1 eB (cutA A c n) (c - n) (l.drop n) w:=by
 have h1:=h.sl.part (n:=l.length - n) hn;rw [List.take_of_length_le (by rw [List.length_drop]; exact Nat.le_refl _)] at h1;exact Rd.of_sl h1
section
variable {N : Nat} {E : SE} {o : Oper} {x y : Operand} {t : TypeId}
theorem run_cutLo {A : Option Addr} {n c j : Nat} (hj : j ≤ n) (hc : n ≤ c) (hA : A = none → c = 0) (ho : o.op = .slice 22 x (some y) none none) (hx : evS E x = some (.v (.slice A n c))) (hy : evS E y = some (.v (.int .i64 (j : Int)))) :
  ∀ (G : Nat → Nat) (a : Act) (w : World),Fr N (denE G E) a → (execOp a.eval o).run Tryz.prog w = .ok (.value ((SV.v (.slice (cutA A c j) (n - j) (c - j))).den G)) w:=fun G a w ha=>by
 have h1 : a.eval x = .slice A n c:=ha.eval (evS_ok hx);have h2 : a.eval y = .int .i64 (j : Int):=ha.eval (evS_ok hy)
 have h3 : (j : Int) ≤ (n : Int):=by omega
 have h4 : (0 : Int) ≤ (j : Int):=by omega
 have h5 : (n : Int) ≤ (c : Int):=by omega
 unfold execOp
 simp only [ho];generalize a.eval = ρ at *;simp only [Option.map,h1,h2]
 show _ = Result.ok (Next.value (.slice (cutA A c j) (n - j) (c - j))) w
 cases A with
 | none =>
  obtain rfl : c = 0:=hA rfl
  obtain rfl : n = 0:=by omega
  obtain rfl : j = 0:=by omega
  go_simp
  rfl
 | some ad =>
  unfold cutA
  by_cases e : c = j
  ·rw [if_pos e]
   go_simp
  ·rw [if_neg e]
   go_simp
end
end Go.Proofs.YtlcbhbahchiofaaGreatDoor
/-
  DRAWN REGIONS WITH MEMORY, over states: what only reads is taken as early as may be; what is left goes step by step.
-/
namespace Go.Proofs.YtlcbhbahchiofaaGreatDoor
open Go.RowKit Go.IntWalk

/-! ### Whatever order, from one world -/
section
variable {P : Program} {ops : Array Oper} {Q : Exit → Act → World → Prop} {Inv : World → Prop}
def wpAnyK (P : Program) (ops : Array Oper) (Q : Exit → Act → World → Prop) (Inv : World → Prop) (n m : Nat) : Nat → Array Bool → Act → World → Prop
  | 0,listed,a,w=>(∀ j ∈ Region.ready .any ops listed,∀ i,i < n → waitsT .any ops ops.size j i = true) ∧ wpAny P .any ops Q m listed a w
  | fuel + 1,listed,a,w=>Region.ready .any ops listed ≠ [] ∧ ∀ i ∈ Region.ready .any ops listed,wpOp P ops Q i (fun a' w'=>Inv w' ∧ wpAnyK P ops Q Inv n m fuel (listed.setIfInBounds i true) a' w') a w
theorem wpAny_of_K {n m : Nat} : ∀ (fuel : Nat) (listed : Array Bool) (a : Act) (w : World),wpAnyK P ops Q Inv n m fuel listed a w → wpAny P .any ops Q (m + fuel) listed a w
 | 0,_,_,_,h=>h.2
 | fuel + 1,_,_,_,h=>⟨fun h0=>absurd h0 h.1,fun i hi=>wpOp_mono (fun a' w' h'=>wpAny_of_K fuel _ a' w' h'.2) (h.2 i hi)⟩
theorem still_wpOp {i : Nat} {oi : Oper} {v : Value} {K : Act → World → Prop} {a : Act} {w : World} (hi : ops[i]? = some oi) (hst : stillG oi.op = true) (hy : YieldsB P ops Inv oi (· = v) a) (hC : Inv w) (h : K (a.put oi.dst v) w) : wpOp P ops Q i K a w:=by
 unfold Go.wpOp
 simp only [hi]
 rcases hy with ⟨hw,hv⟩ | ⟨hw,hv⟩
 ·simp only [hw,if_true]
  refine .inl ?_;have h3:=hv w hC
  unfold atB at h3
  unfold Oper.wp
  cases hr : (execOp a.eval oi).run P w with
  | ok n w' =>
   rw [hr] at h3
   rcases still_ok hst hr with ⟨u,rfl⟩ | rfl
   ·simp only [uponB] at h3
    obtain ⟨e1,e2⟩:=h3;subst e1 e2;exact h
   ·simp only [uponB] at h3
    obtain ⟨e1,e2⟩:=h3;subst e1 e2;exact h
  | halt x w' =>
   rw [hr] at h3;simp only [uponB] at h3
 ·simp only [hw,Bool.false_eq_true,if_false]
  rw [hv];exact h
theorem K_first {n m i : Nat} {oi : Oper} {v : Value} (hin : i < n) (hi : ops[i]? = some oi) (hst : stillG oi.op = true) (hsel : ∀ (j : Nat) (o : Oper) cs b,ops[j]? = some o → o.op ≠ .select cs b) (hQ : ∀ c a d v w,Q (.panic c) (a.put d v) w → Q (.panic c) a w) :
  ∀ (fuel : Nat) (listed : Array Bool) (a : Act) (w : World),Inv w → Closed .any ops listed →
   (∀ j oj,ops[j]? = some oj → j ≠ i → listed.getD j true = false → (∀ e ∈ oj.after,Region.binds .any e = true → e.on ≠ i) → oi.apart ops oj = true) →
   i ∈ Region.ready .any ops listed → YieldsB P ops Inv oi (· = v) a → wpAnyK P ops Q Inv n m fuel (listed.setIfInBounds i true) (a.put oi.dst v) w → wpAnyK P ops Q Inv n m (fuel + 1) listed a w:=by
 intro fuel
 induction fuel with
 | zero =>
  intro listed a w hC hcs _ hr hy H
  refine ⟨fun h=>(by rw [h] at hr; cases hr),fun j hj=>?_⟩
  by_cases hji : j = i
  ·subst hji
   exact still_wpOp hi hst hy hC ⟨hC,H⟩
  ·have h1:=H.1 j (ready_mono hj hji) i hin
   obtain ⟨_,oj,hoj,hall⟩:=mem_ready.1 hj;have h6:=hcs.waits _ j i oj hoj hall h1;rw [getD_ready hr] at h6
   cases h6
 | succ fuel ih =>
  intro listed a w hC hcs hfree hr hy H
  refine ⟨fun h=>(by rw [h] at hr; cases hr),fun j hj=>?_⟩
  by_cases hji : j = i
  ·subst hji
   exact still_wpOp hi hst hy hC ⟨hC,H⟩
  ·obtain ⟨hjun,oj,hoj,hall⟩:=mem_ready.1 hj
   have hnot : ∀ e ∈ oj.after,Region.binds .any e = true → e.on ≠ i:=fun e he hb heq=>by
    have h1:=hall e he hb;rw [heq,getD_ready hr] at h1
    cases h1
   have h2:=wpOp_putB (V:=(· = v)) hoj (hfree j oj hoj hji hjun hnot) (fun cs b=>hsel i oi cs b hi) (fun cs b=>hsel j oj cs b hoj) ⟨v,rfl⟩ (.inr ⟨v,fun _ h=>h⟩) hQ hy (fun u hu=>by
    subst hu
    exact H.2 j (ready_mono hj hji))
   have hun' : ∀ k,(listed.setIfInBounds j true).getD k true = false → listed.getD k true = false:=fun k hun=>by
    by_cases hjk : j = k
    ·subst hjk; exact hjun
    ·rw [getD_set_ne true hjk] at hun; exact hun
   refine wpOp_mono (fun a' w' h3=>?_) h2;obtain ⟨hy',h4⟩:=h3;obtain ⟨hC',h5⟩:=h4 v rfl;refine ⟨hC',ih (listed.setIfInBounds j true) a' w' hC' (hcs.set hj) (fun k ok hk hki hun hno=>hfree k ok hk hki (hun' k hun) hno) (ready_mono hr (Ne.symm hji)) hy' ?_⟩;rw [Array.setIfInBounds_comm _ _ hji];exact h5
theorem upon_then {o : Oper} {a : Act} {K next : Act → World → Prop} (r : Result Next) (h : o.upon P a next (Exit.then K Q) r) : o.upon P a next Q r:=by
 cases r with
 | ok n w'=>cases n <;> exact h
 | halt x w'=>cases x <;> exact h
theorem wpOp_of_list {i : Nat} {o : Oper} {K : Act → World → Prop} {a : Act} {w : World} (hi : ops[i]? = some o) (h : wpList P ops (Exit.then K Q) [o] a w) : wpOp P ops Q i K a w:=by
 unfold Go.wpOp
 simp only [hi]
 unfold wpList at h
 split
 ·rename_i hw
  rw [if_pos hw] at h;refine h.imp (fun h=>?_) id;exact Oper.wp_mono (fun a' w' h'=>h') (upon_then _ h)
 ·rename_i hw
  rw [if_neg hw] at h;exact h
end
/-! ### Over states -/
def InvL (L : List LV) (w : World) : Prop:=∀ x ∈ L,∃ g,x.g = some g ∧ Blk w g x.t (catP x.ps)
def aS (P : Program) (b : Base) (Q : Exit → Act → World → Prop) (N : Nat) (ops : Array Oper) (Inv : World → Prop) (n m fuel : Nat) (listed : Array Bool) (e : Env) : Prop:=Closed .any ops listed → ∀ a w,St b N e a w → Inv w → wpAnyK P ops (NoPanic Q) Inv n m fuel listed a w
def frontB (ops : Array Oper) (n i : Nat) (listed : Array Bool) : Bool:=decide (i < n) && (Region.ready .any ops listed).contains i && Region.free .any ops listed i && Region.noSelect ops
section
variable {P : Program} {T : List TyR} {b : Base} {ops : Array Oper} {Q : Exit → Act → World → Prop} {N n m fuel : Nat} {listed : Array Bool} {E : SE} {L L0 : List LV} {R : List Res} {F M : World → Prop} {Inv : World → Prop} {e : Env}
theorem panic_put : ∀ c (a : Act) d v w,NoPanic Q (.panic c) (a.put d v) w → NoPanic Q (.panic c) a w:=fun _ _ _ _ _ h=>h
theorem a_front {o : Oper} {k : Nat} {v : SV} (hT : OkT P T) (i : Nat) (hc : frontB ops n i listed = true) (ho : ops[i]? = some o) (hg : o.guard = none) (hd : o.dst = some k) (hk : Nat.blt k N = true) (hs : stillG o.op = true) (hv : stepS T E L0 o.op = some v) (hsub : ∀ x ∈ L0,x ∈ L)
  (hn : aS P b Q N ops (InvL L0) n m fuel (listed.setIfInBounds i true) ⟨(k,v) :: E,L,R,F,M⟩) : aS P b Q N ops (InvL L0) n m (fuel + 1) listed ⟨E,L,R,F,M⟩:=fun hcs a w hst hI=>by
 obtain ⟨G,S,h1,h2,h3⟩:=hst;simp only [frontB,Bool.and_eq_true,decide_eq_true_eq] at hc;obtain ⟨⟨⟨hin,hr⟩,hfr⟩,hsel⟩:=hc
 have hr' : i ∈ Region.ready .any ops listed:=by simpa using hr
 obtain ⟨h4,h5⟩:=stepS_ok hT h2 (fun x hx=>(h3.var x (hsub x hx)).2.1) hv;have h6:=hn (hcs.set hr') (a.put (some k) (v.den G)) w ⟨G,S,h1.put hk _,h2.cons h4,h3⟩ hI;refine K_first hin ho hs (Region.noSelect_spec hsel) panic_put fuel listed a w hI hcs (Region.free_spec ho hfr) hr' (v:=v.den G) (.inl ⟨by simp [Region.wanted,hg],fun w' hw'=>?_⟩) (by rw [hd]; exact h6)
 unfold atB
 rw [h5 h1 fun x hx=>by
  obtain ⟨g,e1,e2⟩:=hw' x hx;rw [(h3.var x (hsub x hx)).2.2 g e1]
  exact e2]
 exact ⟨rfl,rfl⟩
theorem a_frontO {o : Oper} {k : Nat} (v : SV) (hvo : v.Ok) (i : Nat) (hc : frontB ops n i listed = true) (ho : ops[i]? = some o) (hg : o.guard = none) (hd : o.dst = some k) (hk : Nat.blt k N = true) (hs : stillG o.op = true) (hv : ∀ (G : Nat → Nat) (a : Act) (w : World),Fr N (denE G E) a → (execOp a.eval o).run P w = .ok (.value (v.den G)) w)
  (hn : aS P b Q N ops Inv n m fuel (listed.setIfInBounds i true) ⟨(k,v) :: E,L,R,F,M⟩) : aS P b Q N ops Inv n m (fuel + 1) listed ⟨E,L,R,F,M⟩:=fun hcs a w hst hI=>by
 obtain ⟨G,S,h1,h2,h3⟩:=hst;simp only [frontB,Bool.and_eq_true,decide_eq_true_eq] at hc;obtain ⟨⟨⟨hin,hr⟩,hfr⟩,hsel⟩:=hc
 have hr' : i ∈ Region.ready .any ops listed:=by simpa using hr
 have h6:=hn (hcs.set hr') (a.put (some k) (v.den G)) w ⟨G,S,h1.put hk _,h2.cons hvo,h3⟩ hI;refine K_first hin ho hs (Region.noSelect_spec hsel) panic_put fuel listed a w hI hcs (Region.free_spec ho hfr) hr' (v:=v.den G) (.inl ⟨by simp [Region.wanted,hg],fun w' _=>?_⟩) (by rw [hd]; exact h6)
 unfold atB
 rw [hv G a w' h1];exact ⟨rfl,rfl⟩
theorem a_step {o : Oper} (i : Nat) (hr : Region.ready .any ops listed = [i]) (ho : ops[i]? = some o) (h : ∀ K : Act → World → Prop,(∀ e',(∀ a w,St b N e' a w → Inv w) → aS P b Q N ops Inv n m fuel (listed.setIfInBounds i true) e' → kS b K N e') → lS P b ops (Exit.then K (NoPanic Q)) N [o] e) : aS P b Q N ops Inv n m (fuel + 1) listed e:=fun hcs a w hst _ =>
 ⟨by rw [hr]; simp,fun j hj=>by
  rw [hr,List.mem_singleton] at hj;subst hj;have hcs':=hcs.set (i:=j) (by rw [hr]; simp)
  exact wpOp_of_list ho (h (fun a' w'=>Inv w' ∧ wpAnyK P ops (NoPanic Q) Inv n m fuel (listed.setIfInBounds j true) a' w') (fun e' hI' ha a' w' hs'=>⟨hI' a' w' hs',ha hcs' a' w' hs' (hI' a' w' hs')⟩) a w hst)⟩
theorem a_step2 {o o' : Oper} (i i' : Nat) (hr : Region.ready .any ops listed = [i,i']) (ho : ops[i]? = some o) (ho' : ops[i']? = some o')
  (h : ∀ K : Act → World → Prop,(∀ e',(∀ a w,St b N e' a w → Inv w) → aS P b Q N ops Inv n m fuel (listed.setIfInBounds i true) e' → kS b K N e') → lS P b ops (Exit.then K (NoPanic Q)) N [o] e)
  (h' : ∀ K : Act → World → Prop,(∀ e',(∀ a w,St b N e' a w → Inv w) → aS P b Q N ops Inv n m fuel (listed.setIfInBounds i' true) e' → kS b K N e') → lS P b ops (Exit.then K (NoPanic Q)) N [o'] e) : aS P b Q N ops Inv n m (fuel + 1) listed e:=fun hcs a w hst _ =>
 ⟨by rw [hr]; simp,fun j hj=>by
  rw [hr] at hj
  have key : ∀ (i : Nat) (o : Oper),i ∈ Region.ready .any ops listed → ops[i]? = some o → (∀ K : Act → World → Prop,(∀ e',(∀ a w,St b N e' a w → Inv w) → aS P b Q N ops Inv n m fuel (listed.setIfInBounds i true) e' → kS b K N e') → lS P b ops (Exit.then K (NoPanic Q)) N [o] e) → wpOp P ops (NoPanic Q) i (fun a' w'=>Inv w' ∧ wpAnyK P ops (NoPanic Q) Inv n m fuel (listed.setIfInBounds i true) a' w') a w:=fun i o hi ho h =>
   wpOp_of_list ho (h (fun a' w'=>Inv w' ∧ wpAnyK P ops (NoPanic Q) Inv n m fuel (listed.setIfInBounds i true) a' w') (fun e' hI' ha a' w' hs'=>⟨hI' a' w' hs',ha (hcs.set hi) a' w' hs' (hI' a' w' hs')⟩) a w hst)
  rcases List.mem_cons.1 hj with rfl | hj
  ·exact key _ o (by rw [hr]; simp) ho h
  ·rw [List.mem_singleton] at hj
   subst hj
   exact key _ o' (by rw [hr]; simp) ho' h'⟩
theorem a_tail {l : List Oper} (hB : (sinksB .any l.toArray n listed && forcedB .any l.toArray (l.drop n).length n listed) = true) (h : lS P b l.toArray (NoPanic Q) N (l.drop n) e) : aS P b Q N l.toArray Inv n (l.drop n).length 0 listed e:=fun _ a w hst _=>by
 simp only [Bool.and_eq_true] at hB;exact ⟨fun j hj i hi=>List.all_eq_true.1 (List.all_eq_true.1 hB.1 j hj) i (List.mem_range.2 hi),wpAny_forced (l.drop n) n listed a w (fun j _=>by simp [List.getElem?_drop]) hB.2 (h a w hst)⟩
theorem inv_of {E' : SE} {L' : List LV} {R' : List Res} {F' M' : World → Prop} (hsub : ∀ x ∈ L0,x ∈ L' ∧ x.g.isSome = true) : ∀ a w,St b N ⟨E',L',R',F',M'⟩ a w → InvL L0 w:=fun a w ⟨G,S,_,_,h3⟩ x hx=>by
 obtain ⟨h1,h2⟩:=hsub x hx;obtain ⟨g,hg⟩:=Option.isSome_iff_exists.1 h2;have h4:=h3.var x h1;refine ⟨g,hg,?_⟩;rw [← h4.2.2 g hg];exact h4.1
theorem StW.drew {G : Nat → Nat} {S : Nat → Prop} {w : World} (h : StW b G S L R F M w) : StW b G S L R F M w.drew:=h.later (Up.drew w)
theorem s_any {l : List Oper} {id : Nat} (n : Nat) (L0 : List LV) (hm : P.follows .mixedOrders = true) (hn : n ≤ l.length) (h0 : ∀ a w,St b N e a w → InvL L0 w) (h : aS P b Q N l.toArray (InvL L0) n (l.drop n).length n (Array.replicate l.toArray.size false) e) : cS P b (.region id l.toArray true) Q N e:=fun a w hst=>by
 refine wp_region_noPanic (wp_region_any hm ?_);obtain ⟨G,S,h1,h2,h3⟩:=hst;have hd : St b N e a w.drew:=⟨G,S,h1,h2,h3.drew⟩;have h4:=wpAny_of_K n _ a w.drew (h (Closed.none _) a w.drew hd (h0 a _ hd))
 have e1 : (l.drop n).length + n = l.toArray.size:=by simp; omega
 rw [e1] at h4;exact h4
theorem runO_all {N : Nat} {E : SE} {o : Oper} {x : Operand} {t e : TypeId} {j off n sz : Nat} (ho : o.op = .slice t x none none none) (ht : P.underlying t = some (.array n e)) (he : (P.info? e).map (·.size) = some sz) (hx : evS E x = some (.a j off)) :
  ∀ (G : Nat → Nat) (a : Act) (w : World),Fr N (denE G E) a → (execOp a.eval o).run P w = .ok (.value ((SV.s j off n n).den G)) w:=fun G a w ha=>by
 have h1 : a.eval x = .pointer (some ⟨G j,off,none⟩):=ha.eval (evS_ok hx);have h5:=run_sizeOf he w
 unfold execOp
 simp only [ho];generalize a.eval = ρ at *;simp only [Option.map,h1]
 show _ = Result.ok (Next.value (.slice (some ⟨G j,off,none⟩) n n)) w
 simp [Instr.sliceAt,Instr.sureAddr,run_underlying ht,Instr.sliceBounds,h5,Sem.run_bind,Addr.add_mid]
theorem putL_same : ∀ {L : List LV} {j : Nat} {ps : List Pt},lookL L j = some ps → putL L j ps = L
 | [],_,_,h=>by cases h
 | x :: L,j,ps,h=>by
  unfold lookL at h
  unfold putL
  split at h
  ·injection h with h
   subst h
   rfl
  ·exact congrArg (x :: ·) (putL_same h)
theorem l_copyV {o : Oper} {rest : List Oper} {d s : Operand} {k j n' c : Nat} {A : Option Addr} {z l : List UInt8} (hg : o.guard = none) (hd : o.dst = some k) (hk : Nat.blt k N = true) (ho : o.op = .call { callee:=.builtin .copy,args:=#[d,s],argTypes:=#[22,22] })
  (hx : evS E d = some (.s j 0 n' n')) (hy : evS E s = some (.v (.slice A l.length c))) (hl : lookL L j = some [.agg n' (By z).toArray]) (hz : z.length = n') (hle : l.length ≤ n') (hrd : ∀ G S w,View G S L R F M w → Rd 1 eB A c l w)
  (hn : lS Tryz.prog b ops Q N rest ⟨(k,.v (.int .i64 (l.length : Int))) :: E,putL L j [.agg n' (By (l ++ z.drop l.length)).toArray],R,F,M⟩) : lS Tryz.prog b ops Q N (o :: rest) ⟨E,L,R,F,M⟩:=fun a w ⟨G,S,h1,h2,h3⟩=>by
 have hR:=hrd G S w h3.view;have e1 : a.eval d = .slice (some ⟨G j,0,none⟩) n' n':=h1.eval (evS_ok hx);have e2 : a.eval s = .slice A l.length c:=h1.eval (evS_ok hy)
 by_cases h0 : l.length = 0
 ·obtain rfl:=List.eq_nil_of_length_eq_zero h0
  rw [putL_same (by rw [hl]; rfl)] at hn;refine wpList_copy_nothing hg d s 22 22 ho 5 Tryz.underlying22 size_u8 _ _ _ _ _ _ e1 e2 (Nat.zero_min _) ?_;rw [hd];exact hn _ w ⟨G,S,h1.put hk _,h2.cons trivial,h3⟩
 ·obtain ⟨bb,oo,rfl,_,hcell⟩:=hR.2.2.2.2 (by omega)
  obtain ⟨u,hu,rfl,hps⟩:=lookL_mem hl;have hb:=h3.at u hu;rw [hps] at hb
  have hok : OkP [Pt.agg n' (By (l ++ z.drop l.length)).toArray]:=fun p hp=>by
   rw [List.mem_singleton.1 hp];exact ⟨by rw [List.size_toArray,By_len,List.length_append,List.length_drop]; omega,By_one _⟩
  refine wpList_copy_own hg d s 22 22 ho 5 Tryz.underlying22 size_u8 (G u.j) 0 n' n' ⟨bb,oo,none⟩ l.length c e1 e2 (By z).toArray u.t hb (By l) (by rw [By_len]; exact (Nat.min_eq_left hle).symm) ?_ (by rw [By_len,List.size_toArray,By_len]; omega) (By_one l) ?_
  ·intro i v hv
   obtain ⟨x,hx1,rfl⟩:=By_at hv;have:=hcell i x hx1 0 (.int .u8 (x.toNat : Int)) rfl;rw [Addr.add_mid]
   simpa using this
  ·have e : (By z).toArray.toList.take 0 ++ (By l ++ (By z).toArray.toList.drop (0 + (By l).length)) = By (l ++ z.drop l.length):=by
    simp [By]
   rw [e,hd,By_len];exact hn _ _ ⟨G,S,h1.put hk _,h2.cons trivial,h3.set (lookL_name hl) hok⟩
def withG (G : Nat → Nat) : List LV → List LV
  | []=>[]
  | x :: L=>{ x with g:=some (G x.j) } :: withG G L
theorem withG_names (G : Nat → Nat) : ∀ L : List LV,namesL (withG G L) = namesL L
 | []=>rfl
 | x :: L=>congrArg (x.j :: ·) (withG_names G L)
theorem withG_mem {G : Nat → Nat} : ∀ {L : List LV} {x : LV},x ∈ withG G L → ∃ y ∈ L,x = { y with g:=some (G y.j) }
 | [],_,h=>by cases h
 | y :: L,x,h=>by
  rcases List.mem_cons.1 h with rfl | h
  ·exact ⟨y,List.mem_cons_self,rfl⟩
  ·obtain ⟨z,hz,e⟩:=withG_mem h
   exact ⟨z,List.mem_cons_of_mem _ hz,e⟩
theorem s_locs {c : Code} (h : ∀ G : Nat → Nat,cS P b c Q N ⟨E,withG G L,R,F,M⟩) : cS P b c Q N ⟨E,L,R,F,M⟩:=fun a w ⟨G,S,h1,h2,h3⟩=>by
 have hM : ∀ k,Mine S G (withG G L) k ↔ Mine S G L k:=fun k=>by unfold Mine; rw [withG_names]
 refine h G a w ⟨G,S,h1,h2,⟨fun x hx=>?_,by rw [withG_names]; exact h3.apart,h3.res,by rw [withG_names]; exact h3.sep,h3.fact.less fun k _ hk=>hk.imp id (hM k).1,h3.fresh.less fun k _ hk=>hk.imp id (hM k).1,h3.chg,fun k hk=>h3.mine k ((hM k).1 hk),h3.old⟩⟩;obtain ⟨y,hy,rfl⟩:=withG_mem hx;exact ⟨(h3.var y hy).1,(h3.var y hy).2.1,fun g hg=>Option.some.inj hg⟩
def noG : List LV → List LV
  | []=>[]
  | x :: L=>{ x with g:=none } :: noG L
theorem noG_names : ∀ L : List LV,namesL (noG L) = namesL L
 | []=>rfl
 | x :: L=>congrArg (x.j :: ·) (noG_names L)
theorem noG_mem : ∀ {L : List LV} {x : LV},x ∈ noG L → ∃ y ∈ L,x = { y with g:=none }
 | [],_,h=>by cases h
 | y :: L,x,h=>by
  rcases List.mem_cons.1 h with rfl | h
  ·exact ⟨y,List.mem_cons_self,rfl⟩
  ·obtain ⟨z,hz,e⟩:=noG_mem h
   exact ⟨z,List.mem_cons_of_mem _ hz,e⟩
theorem k_noloc {K : Act → World → Prop} (h : kS b K N ⟨E,noG L,R,F,M⟩) : kS b K N ⟨E,L,R,F,M⟩:=fun a w ⟨G,S,h1,h2,h3⟩=>by
 have hM : ∀ k,Mine S G (noG L) k ↔ Mine S G L k:=fun k=>by unfold Mine; rw [noG_names]
 refine h a w ⟨G,S,h1,h2,⟨fun x hx=>?_,by rw [noG_names]; exact h3.apart,h3.res,by rw [noG_names]; exact h3.sep,h3.fact.less fun k _ hk=>hk.imp id (hM k).1,h3.fresh.less fun k _ hk=>hk.imp id (hM k).1,h3.chg,fun k hk=>h3.mine k ((hM k).1 hk),h3.old⟩⟩;obtain ⟨y,hy,rfl⟩:=noG_mem hx;exact ⟨(h3.var y hy).1,(h3.var y hy).2.1,fun g hg=>by cases hg⟩
end
end Go.Proofs.YtlcbhbahchiofaaGreatDoor
/-
  THE PROGRAM'S READER, over states.
-/
namespace Go.Proofs.YtlcbhbahchiofaaGreatDoor
open Go.RowKit Go.IntWalk

def rpW (A : Option Addr) (c : Nat) (s : Rds) : List Pt:=[.one (.v (.slice A s.1.length c)),.one (.v (.int .i64 (s.2 : Int)))]
abbrev RdrS (g : Nat) (A : Option Addr) (c : Nat) (s : Rds) : Res:=ObjS g 81 (rpW A c s)
abbrev TX:=Option Addr × Nat × Option Addr × Nat
abbrev RX:=Option Addr × Nat
theorem own_take : Own 38:=fun _ _=>by go_simp
theorem own_rnum : Own 22:=fun _ _=>by go_simp
theorem own_rmost : Own 39:=fun _ _=>by go_simp
theorem own_rdbytes : Own 20:=fun _ _=>by go_simp
theorem own_rcount : Own 21:=fun _ _=>by go_simp
theorem own_rsig : Own 23:=fun _ _=>by go_simp
theorem own_rdone : Own 24:=fun _ _=>by go_simp
theorem own_worth : Own 40:=fun _ _=>by go_simp
theorem own_rdnew : Own 19:=fun _ _=>by go_simp
set_option maxRecDepth 100000 in
set_option maxHeartbeats 1000000 in
theorem take_S (g : Nat) {A : Option Addr} {c : Nat} (s : Rds) (k : Nat) : Spec 38 [ptr g,.int .i64 (k : Int)] [RdrS g A c s] (Rd 1 eB A c s.1)
  { ret:=fun x : TX=>.v (.slice x.1 (tkO k s).length x.2.1),own:=fun x=>[RdrS g x.2.2.1 x.2.2.2 (tkS k s)],p:=fun x w=>Rd 1 eB x.1 x.2.1 (tkO k s) w ∧ Rd 1 eB x.2.2.1 x.2.2.2 (tkS k s).1 w }:=by
 refine spec_S [.c (.v (ptr g)),.c (.v (.int .i64 (k : Int)))] 41 Tryz.func38 rfl (by rw [Tryz.ntmps38]; rfl) (two_ok trivial trivial) fun b=>?_;refine s_pure (s.1.length ≤ c ∧ (A = none → c = 0) ∧ c ≤ 9223372036854775807) (fun w h _=>⟨h.1,h.2.2.1,h.2.1⟩) fun ⟨hlc,hA,hcm⟩=>?_;refine s_auto TY_ok rfl ?_;refine s_seq fun K hK=>?_;refine s_regA TY_ok rfl fun K1 hK1=>?_;refine l_ldO TY_ok rfl rfl rfl rfl rfl rfl (obj_own 0 rfl) ?_;refine l_autoS TY_ok rfl ?_;refine s_end (hK1 _ ?_);refine s_ifD ((s.2 : Int) ≠ 0) rfl (fun h0=>?_) (fun h0=>?_)
 ·have h0 : s.2 ≠ 0:=by omega
  obtain ⟨e1,e2⟩:=tk_stick (k:=k) h0;refine s_auto TY_ok rfl ?_;exact s_ret (k_ret TY_ok (none,0,A,c) rfl (by decide) rfl (by rw [e1]; rfl) (by rw [e2]) (fun w hF _=>by rw [e1,e2]; exact ⟨Rd.nil _ _ _,hF⟩) (fun _ _=>trivial))
 have h0 : s.2 = 0:=by omega
 refine s_skip (hK _ ?_);refine s_seq fun K2 hK2=>?_;refine s_regA TY_ok rfl fun K3 hK3=>?_;refine l_ldO TY_ok rfl rfl rfl rfl rfl rfl (obj_own 0 rfl) ?_;refine l_autoS TY_ok rfl ?_;refine s_end (hK3 _ ?_);refine s_ifD ((k : Int) > (s.1.length : Int)) rfl (fun h1=>?_) (fun h1=>?_)
 ·obtain ⟨e1,e2⟩:=tk_less (k:=k) h0 (by omega)
  refine s_regA TY_ok rfl fun K4 hK4=>?_;refine l_stO TY_ok 0 rfl rfl rfl rfl rfl rfl rfl ?_;refine s_end (hK4 _ ?_);refine s_auto TY_ok rfl ?_;exact s_ret (k_ret TY_ok (none,0,A,c) rfl (by decide) rfl (by rw [e1]; rfl) (by rw [e2]; rfl) (fun w hF _=>by rw [e1,e2]; exact ⟨Rd.nil _ _ _,hF⟩) (fun _ _=>trivial))
 have hkl : k ≤ s.1.length:=by omega
 obtain ⟨e1,e2⟩:=tk_take (k:=k) h0 hkl;refine s_skip (hK2 _ ?_);refine s_regA TY_ok rfl fun K5 hK5=>?_;refine l_ldO TY_ok rfl rfl rfl rfl rfl rfl (obj_own 0 rfl) ?_;refine l_autoS TY_ok rfl ?_;refine l_op (.v (.slice A k c)) trivial rfl rfl rfl (run_cutHi (sz:=1) rfl (by omega) hA rfl Tryz.underlying22 rfl rfl) ?_;refine l_autoS TY_ok rfl ?_;refine s_end (hK5 _ ?_);refine s_regA TY_ok rfl fun K6 hK6=>?_;refine l_ldO TY_ok rfl rfl rfl rfl rfl rfl (obj_own 0 rfl) ?_;refine l_autoS TY_ok rfl ?_;refine l_op (.v (.slice (cutA A c k) (s.1.length - k) (c - k))) trivial rfl rfl rfl (run_cutLo hkl hlc hA rfl rfl rfl) ?_;refine l_autoS TY_ok rfl ?_;refine l_stO TY_ok 0 rfl rfl rfl rfl rfl rfl rfl ?_;refine s_end (hK6 _ ?_);refine s_auto TY_ok rfl ?_;exact s_ret (k_ret TY_ok (A,c,cutA A c k,c - k) rfl (by decide) rfl (by rw [e1,List.length_take,Nat.min_eq_left hkl]; rfl) (by rw [e2]; dsimp only [RdrS,rpW]; rw [List.length_drop,h0]; rfl) (fun w hF _=>by rw [e1,e2]; exact ⟨hF.take k,hF.part hkl⟩) (fun _ _=>trivial))
theorem run_shl8 {N : Nat} {E : SE} {o : Oper} {x : Operand} {t' : TypeId} {m : Int} (ho : o.op = .binOp .shl 51 x (.const (.int .u64 8)) t') (hx : evS E x = some (.v (.int .u64 m))) :
  ∀ (G : Nat → Nat) (a : Act) (w : World),Fr N (denE G E) a → (execOp a.eval o).run Tryz.prog w = .ok (.value ((SV.v (.int .u64 (IntKind.u64.wrap (m * 256)))).den G)) w:=fun G a w ha=>by
 have h1 : a.eval x = .int .u64 m:=ha.eval (evS_ok hx)
 unfold execOp
 simp only [ho,h1]
 show _ = Result.ok (Next.value (.int .u64 (IntKind.u64.wrap (m * 256)))) w
 go_simp
theorem run_orU {N : Nat} {E : SE} {o : Oper} {x y : Operand} {t' : TypeId} {m n : Int} (ho : o.op = .binOp .or 51 x y t') (hx : evS E x = some (.v (.int .u64 m))) (hy : evS E y = some (.v (.int .u64 n))) :
  ∀ (G : Nat → Nat) (a : Act) (w : World),Fr N (denE G E) a → (execOp a.eval o).run Tryz.prog w = .ok (.value ((SV.v (.int .u64 (bits .or .u64 m n))).den G)) w:=fun G a w ha=>by
 have h1 : a.eval x = .int .u64 m:=ha.eval (evS_ok hx);have h2 : a.eval y = .int .u64 n:=ha.eval (evS_ok hy)
 unfold execOp
 simp only [ho,h1,h2]
 go_simp
 rfl
theorem bits_step8 (a : Nat) (x : UInt8) : bits BinOp.or IntKind.u64 (IntKind.u64.wrap ((a : Int) * 256)) (IntKind.u64.wrap (x.toNat : Int)) = (step a x : Int):=by
 have hx : x.toNat < 256:=x.toNat_lt
 have e1 : IntKind.u64.wrap ((a : Int) * 256) = ((a * 256 % 18446744073709551616 : Nat) : Int):=by simp [IntKind.wrap,IntKind.bits,IntKind.signed]
 have e2 : IntKind.u64.wrap (x.toNat : Int) = ((x.toNat : Nat) : Int):=by
  simp [IntKind.wrap,IntKind.bits,IntKind.signed]
  omega
 rw [e1,e2,u64_or_nat _ _ (Nat.mod_lt _ (by omega)) (by omega),nat_join 8 _ _ (by omega) (by omega)]
 unfold step
 omega
theorem val_next {l : List UInt8} {i : Nat} {x : UInt8} (h : l[i]? = some x) : val (l.take (i + 1)) = step (val (l.take i)) x:=by
 rw [List.take_add_one,h];exact val_snoc _ _
set_option maxRecDepth 100000 in
set_option maxHeartbeats 1000000 in
theorem worth_S {A : Option Addr} {c : Nat} (l : List UInt8) : Spec 40 [.slice A l.length c] [] (Rd 1 eB A c l) (one (.v (.int .u64 (val l : Int)))):=by
 refine spec_S [.c (.v (.slice A l.length c))] 19 Tryz.func40 rfl (by rw [Tryz.ntmps40]; rfl) (one_ok trivial) fun b=>?_;refine s_pure (l.length ≤ 9223372036854775807) (fun w h _=>Nat.le_trans h.1 h.2.1) fun hl=>?_;refine s_auto TY_ok rfl ?_;refine s_auto TY_ok rfl ?_;refine s_seq fun K hK=>?_;refine s_auto TY_ok rfl ?_;refine s_block ?_
 let F : Nat → Env:=fun i=>⟨[(8,.v (.int .i64 (i : Int))),(7,.v (.int .i64 (l.length : Int))),(6,.v (.slice A l.length c)),(3,.v (.int .u64 (val (l.take i) : Int)))],[],[],Rd 1 eB A c l,fun _=>True⟩
 refine c_weak (e':=F 0) ⟨⟨rfl,rfl,rfl,rfl,trivial⟩,trivial,.refl _,fun _ h _=>h,fun _ h=>h⟩ (s_loop (fun i=>l.length - i) F (fun i=>i ≤ l.length) ?_ 0 (Nat.zero_le _))
 intro i hi
 refine s_auto TY_ok rfl ?_;refine s_seq fun K1 hK1=>?_;refine s_ifD ((i : Int) < (l.length : Int)) rfl (fun hlt=>?_) (fun hge=>?_)
 ·have hlt : i < l.length:=by omega
  obtain ⟨x,hx⟩ : ∃ x,l[i]? = some x:=⟨_,List.getElem?_eq_getElem hlt⟩;have hv:=val_next hx;refine s_skip (hK1 _ ?_);refine s_seq fun K2 hK2=>?_;refine s_block ?_;refine s_regA TY_ok rfl fun K3 hK3=>?_;refine l_elem TY_ok rfl rfl rfl i rfl hx rfl rfl (rd_fact fun w h _=>h) ?_;refine l_autoS TY_ok rfl ?_;refine s_end (hK3 _ ?_);refine s_lit ?_;refine l_autoS TY_ok rfl ?_;refine l_op (.v (.int .u64 (IntKind.u64.wrap ((val (l.take i) : Int) * 256)))) trivial rfl rfl rfl (run_shl8 rfl rfl) ?_;refine l_autoS TY_ok rfl ?_;refine l_op (.v (.int .u64 (val (l.take (i + 1)) : Int))) trivial rfl rfl rfl (by rw [hv,← bits_step8]; exact run_orU rfl rfl rfl) ?_;refine l_autoS TY_ok rfl ?_;refine s_end (hK2 _ ?_);refine s_autoE TY_ok rfl ?_;exact k_next (i + 1) hlt (by omega) ⟨⟨congrArg some (congrArg SV.v (congrArg (Value.int .i64) (wrapI rfl (by omega) (by omega)))),rfl,rfl,rfl,trivial⟩,trivial,.refl _,fun _ h _=>h,fun _ h=>h⟩
 ·obtain rfl : l.length = i:=by omega
  refine s_exit (k_pass (k_pass (k_out ?_)));refine hK _ ?_;rw [List.take_length];refine s_auto TY_ok rfl ?_;exact s_ret (k_ret TY_ok () rfl (by decide) rfl rfl rfl (fun _ _ _=>trivial) (fun _ _=>trivial))
set_option maxRecDepth 100000 in
theorem rnum_S (g : Nat) {A : Option Addr} {c : Nat} (s : Rds) : Spec 22 [ptr g] [RdrS g A c s] (Rd 1 eB A c s.1)
  { ret:=fun _ : RX=>.v (.int .u64 (nuO s : Int)),own:=fun x=>[RdrS g x.1 x.2 (nuS s)],p:=fun x=>Rd 1 eB x.1 x.2 (nuS s).1 }:=by
 refine spec_S [.c (.v (ptr g))] 6 Tryz.func22 rfl (by rw [Tryz.ntmps22]; rfl) (one_ok trivial) fun b=>?_;refine s_auto TY_ok rfl ?_;refine s_regA TY_ok rfl fun K1 hK1=>?_;refine l_callA [ptr g,.int .i64 ((8 : Nat) : Int)] rfl rfl rfl own_take rfl rfl (fun _ _=>rfl) (take_S g s 8) (fun w h _=>h) fun ⟨A1,c1,A2,c2⟩=>?_;refine l_R [RdrS g A2 c2 (nuS s)] rfl ?_;refine l_call0 [.slice A1 (tkO 8 s).length c1] rfl rfl rfl own_worth rfl rfl (fun _ _=>rfl) (worth_S (tkO 8 s)) (fun w h _=>h.1.1) fun _=>?_;refine l_autoS TY_ok rfl ?_;refine s_end (hK1 _ ?_);exact s_ret (k_ret TY_ok (A2,c2) rfl (by decide) rfl rfl rfl (fun w h _=>h.2.1.2) (fun _ _=>trivial))
set_option maxRecDepth 100000 in
theorem rmost_S (g : Nat) {A : Option Addr} {c : Nat} (s : Rds) (m : Nat) (hm : m ≤ 9223372036854775807) : Spec 39 [ptr g,.int .u64 (m : Int)] [RdrS g A c s] (Rd 1 eB A c s.1)
  { ret:=fun _ : RX=>.v (.int .i64 (moO m s : Int)),own:=fun x=>[RdrS g x.1 x.2 (moS m s)],p:=fun x=>Rd 1 eB x.1 x.2 (moS m s).1 }:=by
 refine spec_S [.c (.v (ptr g)),.c (.v (.int .u64 (m : Int)))] 16 Tryz.func39 rfl (by rw [Tryz.ntmps39]; rfl) (two_ok trivial trivial) fun b=>?_;refine s_auto TY_ok rfl ?_;refine s_regA TY_ok rfl fun K1 hK1=>?_;refine l_callA [ptr g] rfl rfl rfl own_rnum rfl rfl (fun _ _=>rfl) (rnum_S g s) (fun w h _=>h) fun ⟨A2,c2⟩=>?_;refine l_R [RdrS g A2 c2 (nuS s)] rfl ?_;refine l_autoS TY_ok rfl ?_;refine s_end (hK1 _ ?_);refine s_seq fun K2 hK2=>?_;refine s_auto TY_ok rfl ?_;refine s_ifD ((nuO s : Int) > (m : Int)) rfl (fun h1=>?_) (fun h1=>?_)
 ·have e1 : moO m s = 0:=if_pos (by omega)
  have e2 : moS m s = ((nuS s).1,12):=if_pos (by omega);refine s_regA TY_ok rfl fun K4 hK4=>?_;refine l_stO TY_ok 0 rfl rfl rfl rfl rfl rfl rfl ?_;refine s_end (hK4 _ ?_);refine s_auto TY_ok rfl ?_;exact s_ret (k_ret TY_ok (A2,c2) rfl (by decide) rfl (by rw [e1]; rfl) (by rw [e2]; rfl) (fun w h _=>by rw [e2]; exact h.1) (fun _ _=>trivial))
 ·have e1 : moO m s = nuO s:=if_neg (by omega)
  have e2 : moS m s = nuS s:=if_neg (by omega);refine s_skip (hK2 _ ?_);refine s_regA TY_ok rfl fun K4 hK4=>?_;refine l_num 4 (nuO s : Int) rfl (wrapI rfl (by omega) (by omega)) ?_;refine s_end (hK4 _ ?_);exact s_ret (k_ret TY_ok (A2,c2) rfl (by decide) rfl (by rw [e1]; rfl) (by rw [e2]) (fun w h _=>by rw [e2]; exact h.1) (fun _ _=>trivial))
set_option maxRecDepth 100000 in
theorem rcount_S (g : Nat) {A : Option Addr} {c : Nat} (s : Rds) : Spec 21 [ptr g] [RdrS g A c s] (Rd 1 eB A c s.1)
  { ret:=fun _ : RX=>.v (.int .i64 (moO 65536 s : Int)),own:=fun x=>[RdrS g x.1 x.2 (moS 65536 s)],p:=fun x=>Rd 1 eB x.1 x.2 (moS 65536 s).1 }:=by
 refine spec_S [.c (.v (ptr g))] 5 Tryz.func21 rfl (by rw [Tryz.ntmps21]; rfl) (one_ok trivial) fun b=>?_;refine s_auto TY_ok rfl ?_;refine s_regA TY_ok rfl fun K1 hK1=>?_;refine l_callA [ptr g,.int .u64 ((65536 : Nat) : Int)] rfl rfl rfl own_rmost rfl rfl (fun _ _=>rfl) (rmost_S g s 65536 (by decide)) (fun w h _=>h) fun ⟨A2,c2⟩=>?_;refine l_autoS TY_ok rfl ?_;refine s_end (hK1 _ ?_);exact s_ret (k_ret TY_ok (A2,c2) rfl (by decide) rfl rfl rfl (fun w h _=>h.1) (fun _ _=>trivial))
set_option maxRecDepth 100000 in
theorem rbytes_S (g : Nat) {A : Option Addr} {c : Nat} (s : Rds) : Spec 20 [ptr g] [RdrS g A c s] (Rd 1 eB A c s.1)
  { ret:=fun x : Nat × RX=>.v (.slice (some ⟨x.1,0,none⟩) (byO s).length (byO s).length),own:=fun x=>[RdrS g x.2.1 x.2.2 (byS s)],p:=fun x=>Rd 1 eB x.2.1 x.2.2 (byS s).1,n:=fun x=>Rd 1 eB (some ⟨x.1,0,none⟩) (byO s).length (byO s) }:=by
 refine spec_S [.c (.v (ptr g))] 9 Tryz.func20 rfl (by rw [Tryz.ntmps20]; rfl) (one_ok trivial) fun b=>?_;have hbl : (byO s).length ≤ 1048576:=Nat.le_trans (tkO_le _ _).1 (moO_le _ _);refine s_auto TY_ok rfl ?_;refine s_regA TY_ok rfl fun K1 hK1=>?_;refine l_callA [ptr g,.int .u64 ((1048576 : Nat) : Int)] rfl rfl rfl own_rmost rfl rfl (fun _ _=>rfl) (rmost_S g s 1048576 (by decide)) (fun w h _=>h) fun ⟨A1,c1⟩=>?_;refine l_R [RdrS g A1 c1 (moS 1048576 s)] rfl ?_;refine l_callA [ptr g,.int .i64 (moO 1048576 s : Int)] rfl rfl rfl own_take rfl rfl (fun _ _=>rfl) (take_S g (moS 1048576 s) (moO 1048576 s)) (fun w h _=>h.1) fun ⟨A2,c2,A3,c3⟩=>?_;refine l_R [RdrS g A3 c3 (byS s)] rfl ?_;refine l_list TY_ok b.B.heap.size [⟨A2,c2,byO s⟩] (fe:=eSeg) rfl rfl rfl rfl rfl (fun _=>rfl) rfl (by decide) (by decide) (okF_seg _) (Nat.le_refl _) fun P=>?_;refine l_free 0 rfl ?_;have hj:=join_S (A:=P) (c:=1) [⟨A2,c2,byO s⟩] (by simp; omega)
 have e0 : (List.map Seg.l [⟨A2,c2,byO s⟩]).flatten = byO s:=by simp
 rw [e0] at hj;refine l_call0 [.slice P 1 1] rfl rfl rfl own_join rfl rfl (fun _ _=>rfl) hj (fun w h _=>⟨h.1,fun s hs=>by rw [List.mem_singleton.1 hs]; exact h.2.1.1⟩) fun gb=>?_;refine l_autoS TY_ok rfl ?_;refine s_end (hK1 _ ?_);exact s_ret (k_ret TY_ok (gb,A3,c3) rfl (by decide) rfl rfl rfl (fun w h _=>h.2.2.1.2) (fun w h=>h.1))
set_option maxRecDepth 100000 in
theorem rsig_S (g : Nat) {A : Option Addr} {c : Nat} (s : Rds) : Spec 23 [ptr g] [RdrS g A c s] (Rd 1 eB A c s.1)
  { ret:=fun _ : RX=>.q (eY 64 (sgO s)),own:=fun x=>[RdrS g x.1 x.2 (sgS s)],p:=fun x=>Rd 1 eB x.1 x.2 (sgS s).1 }:=by
 refine spec_S [.c (.v (ptr g))] 9 Tryz.func23 rfl (by rw [Tryz.ntmps23]; rfl) (one_ok trivial) fun b=>?_;have hl:=(tkO_le 64 s).1
 have ep : tkO 64 s ++ (List.replicate 64 (0 : UInt8)).drop (tkO 64 s).length = sgO s:=by
  unfold sgO pad64
  rw [List.drop_replicate]
 refine s_auto TY_ok rfl ?_;refine s_auto TY_ok rfl ?_;refine s_seq fun K hK=>?_;refine s_any 3 [] (by kernel_rfl) (by decide) (fun _ _ _ _ h=>by cases h) ?_;refine a_frontO (.s 3 0 64 64) trivial 0 (by kernel_rfl) rfl rfl rfl rfl rfl (runO_all rfl Tryz.underlying43 rfl rfl) ?_;refine a_front TY_ok 1 (by kernel_rfl) rfl rfl rfl rfl rfl rfl (fun _ h=>by cases h) ?_;refine a_step 2 (by kernel_rfl) rfl fun K1 hK1=>?_;refine l_callA [ptr g,.int .i64 ((64 : Nat) : Int)] rfl rfl rfl own_take rfl rfl (fun _ _=>rfl) (take_S g s 64) (fun w h _=>h) fun ⟨A1,c1,A2,c2⟩=>?_;refine l_R [RdrS g A2 c2 (sgS s)] rfl ?_;refine s_end (hK1 _ (fun _ _ _ _ h=>by cases h) ?_);refine a_tail (by kernel_rfl) ?_;refine l_copyV (z:=List.replicate 64 0) rfl rfl rfl rfl rfl rfl rfl List.length_replicate hl (rd_fact fun w h _=>h.1.1) ?_;rw [ep];refine s_end (hK _ ?_);refine s_auto TY_ok rfl ?_;exact s_ret (k_ret TY_ok (A2,c2) rfl (by decide) rfl rfl rfl (fun w h _=>h.1.2) (fun _ _=>trivial))
set_option maxRecDepth 100000 in
theorem rdone_S (g : Nat) {A : Option Addr} {c : Nat} (s : Rds) : Spec 24 [ptr g] [RdrS g A c s] (fun _=>True)
  { ret:=fun _ : Unit=>.v (.int .i64 (endE s : Int)),own:=fun _=>[RdrS g A c s] }:=by
 refine spec_S [.c (.v (ptr g))] 23 Tryz.func24 rfl (by rw [Tryz.ntmps24]; rfl) (one_ok trivial) fun b=>?_;refine s_auto TY_ok rfl ?_;refine s_seq fun K hK=>?_;refine s_block ?_;refine s_auto TY_ok rfl ?_;refine s_no rfl ?_;refine s_regA TY_ok rfl fun K1 hK1=>?_;refine l_ldO TY_ok rfl rfl rfl rfl rfl rfl (obj_own 0 rfl) ?_;refine l_autoS TY_ok rfl ?_;refine s_end (hK1 _ ?_);refine s_ifD ((s.2 : Int) ≠ 0) rfl (fun h0=>?_) (fun h0=>?_)
 ·have e : endE s = s.2:=if_neg (by omega)
  refine s_regA TY_ok rfl fun K2 hK2=>?_;refine l_ldO TY_ok rfl rfl rfl rfl rfl rfl (obj_own 0 rfl) ?_;refine l_autoS TY_ok rfl ?_;refine s_end (hK2 _ ?_);exact s_ret (k_ret TY_ok () rfl (by decide) rfl (by rw [e]; rfl) rfl (fun _ _ _=>trivial) (fun _ _=>trivial))
 have e0 : endE s = if s.1.length = 0 then 0 else 11:=if_pos (by omega);refine s_regA TY_ok rfl fun K2 hK2=>?_;refine l_ldO TY_ok rfl rfl rfl rfl rfl rfl (obj_own 0 rfl) ?_;refine l_autoS TY_ok rfl ?_;refine s_end (hK2 _ ?_);refine s_ifD ((s.1.length : Int) > 0) rfl (fun h1=>?_) (fun h1=>?_)
 ·rw [if_neg (by omega)] at e0
  refine s_auto TY_ok rfl ?_;exact s_ret (k_ret TY_ok () rfl (by decide) rfl (by rw [e0]; rfl) rfl (fun _ _ _=>trivial) (fun _ _=>trivial))
 ·rw [if_pos (by omega)] at e0
  refine s_skip (hK _ ?_);refine s_auto TY_ok rfl ?_;exact s_ret (k_ret TY_ok () rfl (by decide) rfl (by rw [e0]; rfl) rfl (fun _ _ _=>trivial) (fun _ _=>trivial))
set_option maxRecDepth 100000 in
theorem rdnew_S {A : Option Addr} {c : Nat} (l : List UInt8) (hl : l.length ≤ 281474976710656) : Spec 19 [.slice A l.length c] [] (Rd 1 eB A c l)
  { ret:=fun x : Nat × Nat=>.v (ptr x.1),own:=fun x=>[RdrS x.1 (some ⟨x.2,0,none⟩) l.length (l,0)],n:=fun x=>Rd 1 eB (some ⟨x.2,0,none⟩) l.length l }:=by
 refine spec_S [.c (.v (.slice A l.length c))] 8 Tryz.func19 rfl (by rw [Tryz.ntmps19]; rfl) (one_ok trivial) fun b=>?_;refine s_auto TY_ok rfl ?_;refine s_regA TY_ok rfl fun K1 hK1=>?_;refine l_list TY_ok b.B.heap.size [⟨A,c,l⟩] (fe:=eSeg) rfl rfl rfl rfl rfl (fun _=>rfl) rfl (by decide) (by decide) (okF_seg _) (Nat.le_refl _) fun P=>?_;refine l_free 0 rfl ?_;have hj:=join_S (A:=P) (c:=1) [⟨A,c,l⟩] (by simp; omega)
 have e0 : (List.map Seg.l [⟨A,c,l⟩]).flatten = l:=by simp
 rw [e0] at hj;refine l_call0 [.slice P 1 1] rfl rfl rfl own_join rfl rfl (fun _ _=>rfl) hj (fun w h _=>⟨h.1,fun s hs=>by rw [List.mem_singleton.1 hs]; exact h.2⟩) fun gb=>?_;refine l_autoS TY_ok rfl ?_;refine s_end (hK1 _ ?_);refine s_ret (k_give 2 rfl (E':=[]) trivial fun g=>?_);exact k_ret TY_ok (g,gb) rfl (by decide) rfl rfl rfl (fun _ _ _=>trivial) (fun w h=>h.1)
end Go.Proofs.YtlcbhbahchiofaaGreatDoor
/-
  THE PROGRAM'S PARSE, over states.
-/
namespace Go.Proofs.YtlcbhbahchiofaaGreatDoor
open Go.RowKit Go.IntWalk

theorem run_maxU {N : Nat} {E : SE} {o : Oper} {x y : Operand} {p q : Nat} (ho : o.op = .call { callee:=.builtin .max,args:=#[x,y],argTypes:=#[51,51] }) (hx : evS E x = some (.v (.int .u64 (p : Int)))) (hy : evS E y = some (.v (.int .u64 (q : Int)))) :
  ∀ (G : Nat → Nat) (a : Act) (w : World),Fr N (denE G E) a → (execOp a.eval o).run Tryz.prog w = .ok (.value ((SV.v (.int .u64 ((max p q : Nat) : Int))).den G)) w:=fun G a w ha=>by
 have h1 : a.eval x = .int .u64 (p : Int):=ha.eval (evS_ok hx);have h2 : a.eval y = .int .u64 (q : Int):=ha.eval (evS_ok hy)
 unfold execOp
 simp only [ho];generalize a.eval = ρ at *
 show _ = Result.ok (Next.value (.int .u64 ((max p q : Nat) : Int))) w
 go_simp
 split <;> omega
def mostI (s : Rds) : Nat → Nat
  | 0=>0
  | i + 1=>max (mostI s i) (nuI s i)
theorem mostI_any (s : Rds) (m : Nat) : ∀ n,m < mostI s n ↔ ((List.range n).any fun i=>decide (m < nuI s i)) = true
 | 0=>by simp [mostI]
 | n + 1=>by
  rw [List.range_succ,List.any_append,Bool.or_eq_true,← mostI_any s m n];simp only [mostI,List.any_cons,List.any_nil,Bool.or_false,decide_eq_true_eq]
  omega
theorem fill_next {α : Type} {l : List α} {n i : Nat} {z x : α} (hl : l.length = i) (hi : i < n) : (l ++ List.replicate (n - i) z).set i x = (l ++ [x]) ++ List.replicate (n - (i + 1)) z:=by
 rw [List.set_append_right _ _ (by omega),hl,Nat.sub_self,show n - i = (n - (i + 1)) + 1 by omega,List.replicate_succ]
 simp
theorem sgsI_len (s : Rds) (i : Nat) : (sgsI s i).length = i:=by simp [sgsI]
theorem sisI_len (s : Rds) (i : Nat) : (sisI s i).length = i:=by simp [sisI]
theorem sgsI_next (s : Rds) (i : Nat) : sgsI s (i + 1) = sgsI s i ++ [IntKind.i64.wrap (nuI s i : Int)]:=by simp [sgsI,List.range_succ]
theorem sisI_next (s : Rds) (i : Nat) : sisI s (i + 1) = sisI s i ++ [siI s i]:=by simp [sisI,List.range_succ]
theorem flat_I (l : List Int) : flatF eI l = l.map (.int .i64 ·):=by
 induction l with
 | nil=>rfl
 | cons x l ih =>
  have e : flatF eI (x :: l) = (.int .i64 x) :: flatF eI l:=rfl;rw [e,ih]
  rfl
theorem own_cparse : Own 7:=fun _ _=>by go_simp
set_option maxRecDepth 100000 in
set_option maxHeartbeats 4000000 in
theorem cparse_S {A : Option Addr} {c : Nat} (l : List UInt8) (hl : l.length ≤ 281474976710656) : Spec 7 [.slice A l.length c] [] (Rd 1 eB A c l)
  { ret:=fun i : CI=>.t [eC i (paC l),.c (.v (.int .i64 (paE l : Int)))],n:=fun i=>CertF i (paC l) }:=by
 refine spec_S [.c (.v (.slice A l.length c))] 56 Tryz.func7 rfl (by rw [Tryz.ntmps7]; rfl) (one_ok trivial) fun b=>?_;refine s_auto TY_ok rfl ?_;refine s_regA TY_ok rfl fun K1 hK1=>?_;refine l_call0 [.slice A l.length c] rfl rfl rfl own_rdnew rfl rfl (fun _ _=>rfl) (rdnew_S l hl) (fun w h _=>h) fun ⟨g,g0⟩=>?_;refine l_autoS TY_ok rfl ?_;refine s_end (hK1 _ ?_);refine s_regA TY_ok rfl fun K2 hK2=>?_;refine l_R [RdrS g (some ⟨g0,0,none⟩) l.length (l,0)] rfl ?_;refine l_callA [ptr g] rfl rfl rfl own_rdbytes rfl rfl (fun _ _=>rfl) (rbytes_S g (l,0)) (fun w _ h=>h.1) fun ⟨gb,A1,c1⟩=>?_;refine l_R [RdrS g A1 c1 (byS (l,0))] rfl ?_;refine l_autoS TY_ok rfl ?_;refine s_end (hK2 _ ?_);refine s_regA TY_ok rfl fun K3 hK3=>?_;refine l_callA [ptr g] rfl rfl rfl own_rcount rfl rfl (fun _ _=>rfl) (rcount_S g (byS (l,0))) (fun w h _=>h.1) fun ⟨A2,c2⟩=>?_;refine l_R [RdrS g A2 c2 (paS l)] rfl ?_;refine l_autoS TY_ok rfl ?_;refine s_end (hK3 _ ?_);obtain ⟨n,hn⟩ : ∃ n,n = paN l:=⟨_,rfl⟩
 have hn6 : n ≤ 65536:=by rw [hn]; exact moO_le _ _
 have hn' : moO 65536 (byS (l,0)) = n:=hn.symm;rw [hn'];refine s_seq fun K4 hK4=>?_
 have hmk : ∀ e,(∃ B1 B2,Weak e ⟨[(2,.a 2 0),(4,.v (ptr g)),(5,.a 5 0),(6,.v (.int .i64 (n : Int)))],[⟨5,none,26,[.one (.v (.slice (some ⟨gb,0,none⟩) (byO (l,0)).length (byO (l,0)).length)),.one (.v (.slice B1 n n)),.one (.v (.slice B2 n n))]⟩,⟨2,none,26,[.one (.v (.slice none 0 0)),.one (.v (.slice none 0 0)),.one (.v (.slice none 0 0))]⟩],[RdrS g A2 c2 (paS l),OwnS b.B.heap.size 3 1 eI B1 n (List.replicate n 0),OwnS b.B.heap.size 43 64 (eY 64) B2 n (List.replicate n (List.replicate 64 0))],fun w=>Rd 1 eB A2 c2 (paS l).1 w,Rd 1 eB (some ⟨gb,0,none⟩) (byO (l,0)).length (byO (l,0))⟩) → kS b K4 56 e:=by
  rintro e ⟨B1,B2,hw⟩
  refine k_weak hw (hK4 _ ?_);refine s_auto TY_ok rfl ?_;refine s_seq fun K5 hK5=>?_;refine s_auto TY_ok rfl ?_;refine s_block ?_
  let F : Nat × Option Addr × Nat → Env:=fun ⟨i,Ar,cr⟩=>⟨[(25,.v (.int .i64 (i : Int))),(24,.v (.int .i64 (n : Int))),(2,.a 2 0),(4,.v (ptr g)),(5,.a 5 0),(7,.v (.int .u64 (mostI (paS l) i : Int)))],[⟨5,none,26,[.one (.v (.slice (some ⟨gb,0,none⟩) (byO (l,0)).length (byO (l,0)).length)),.one (.v (.slice B1 n n)),.one (.v (.slice B2 n n))]⟩,⟨2,none,26,[.one (.v (.slice none 0 0)),.one (.v (.slice none 0 0)),.one (.v (.slice none 0 0))]⟩],[RdrS g Ar cr (stI (paS l) i),OwnS b.B.heap.size 3 1 eI B1 n (sgsI (paS l) i ++ List.replicate (n - i) 0),OwnS b.B.heap.size 43 64 (eY 64) B2 n (sisI (paS l) i ++ List.replicate (n - i) (List.replicate 64 0))],fun w=>Rd 1 eB Ar cr (stI (paS l) i).1 w,Rd 1 eB (some ⟨gb,0,none⟩) (byO (l,0)).length (byO (l,0))⟩
  refine c_weak (e':=F (0,A2,c2)) ⟨⟨rfl,rfl,rfl,rfl,rfl,rfl,trivial⟩,⟨rfl,rfl,rfl,rfl,trivial⟩,.refl _,fun _ h _=>h,fun _ h=>h⟩ (s_loop (fun x=>n - x.1) F (fun x=>x.1 ≤ n) ?_ (0,A2,c2) (Nat.zero_le _))
  rintro ⟨i,Ar,cr⟩ hi
  dsimp only at hi
  refine s_auto TY_ok rfl ?_;refine s_seq fun K6 hK6=>?_;refine s_ifD ((i : Int) < (n : Int)) rfl (fun hlt=>?_) (fun hge=>?_)
  ·have hlt : i < n:=by omega
   refine s_skip (hK6 _ ?_);refine s_seq fun K7 hK7=>?_;refine s_block ?_;refine s_auto TY_ok rfl ?_;refine s_regA TY_ok rfl fun K8 hK8=>?_;refine l_callA [ptr g] rfl rfl rfl own_rnum rfl rfl (fun _ _=>rfl) (rnum_S g (stI (paS l) i)) (fun w h _=>h) fun ⟨A3,c3⟩=>?_;refine l_R [RdrS g A3 c3 (nuS (stI (paS l) i)),OwnS b.B.heap.size 3 1 eI B1 n (sgsI (paS l) i ++ List.replicate (n - i) 0),OwnS b.B.heap.size 43 64 (eY 64) B2 n (sisI (paS l) i ++ List.replicate (n - i) (List.replicate 64 0))] rfl ?_;refine l_autoS TY_ok rfl ?_;refine s_end (hK8 _ ?_);refine s_regA TY_ok rfl fun K9 hK9=>?_;refine l_op (.v (.int .u64 (mostI (paS l) (i + 1) : Int))) trivial rfl rfl rfl (run_maxU rfl rfl rfl) ?_;refine l_autoS TY_ok rfl ?_;refine s_end (hK9 _ ?_)
   have hlg : (sgsI (paS l) i ++ List.replicate (n - i) 0).length = n:=by rw [List.length_append,sgsI_len,List.length_replicate]; omega
   have hls : (sisI (paS l) i ++ List.replicate (n - i) (List.replicate 64 0)).length = n:=by rw [List.length_append,sisI_len,List.length_replicate]; omega
   have hng:=fill_next (x:=IntKind.i64.wrap (nuI (paS l) i : Int)) (z:=0) (sgsI_len (paS l) i) hlt;have hns:=fill_next (x:=siI (paS l) i) (z:=List.replicate 64 0) (sisI_len (paS l) i) hlt;rw [← sgsI_next] at hng;rw [← sisI_next] at hns;refine s_where 1 rfl (by omega) fun g1 hg1=>?_;refine s_where 2 rfl (by omega) fun g2 hg2=>?_;subst hg1 hg2
   have hfl : flatF eI (sgsI (paS l) (i + 1) ++ List.replicate (n - (i + 1)) 0) = (flatF eI (sgsI (paS l) i ++ List.replicate (n - i) 0)).set (0 + 1 * i) (.int .i64 (IntKind.i64.wrap (nuI (paS l) i : Int))):=by
    rw [← hng,flat_I,flat_I,Nat.one_mul,Nat.zero_add];exact List.map_set
   refine s_locs fun G=>?_;refine s_any 12 [⟨5,some (G 5),26,[.one (.v (.slice (some ⟨gb,0,none⟩) (byO (l,0)).length (byO (l,0)).length)),.one (.v (.slice (some ⟨g1,0,none⟩) n n)),.one (.v (.slice (some ⟨g2,0,none⟩) n n))]⟩] (by kernel_rfl) (by decide) (inv_of fun x hx=>by rw [List.mem_singleton.1 hx]; exact ⟨by simp [withG],rfl⟩) ?_;refine a_front TY_ok 0 (by kernel_rfl) rfl rfl rfl rfl rfl rfl (fun x hx=>by rw [List.mem_singleton.1 hx]; simp [withG]) ?_;refine a_front TY_ok 1 (by kernel_rfl) rfl rfl rfl rfl rfl rfl (fun x hx=>by rw [List.mem_singleton.1 hx]; simp [withG]) ?_;refine a_front TY_ok 2 (by kernel_rfl) rfl rfl rfl rfl rfl rfl (fun x hx=>by rw [List.mem_singleton.1 hx]; simp [withG]) ?_;refine a_front TY_ok 3 (by kernel_rfl) rfl rfl rfl rfl rfl rfl (fun x hx=>by rw [List.mem_singleton.1 hx]; simp [withG]) ?_;refine a_front TY_ok 4 (by kernel_rfl) rfl rfl rfl rfl rfl rfl (fun x hx=>by rw [List.mem_singleton.1 hx]; simp [withG]) ?_;refine a_front TY_ok 5 (by kernel_rfl) rfl rfl rfl rfl rfl rfl (fun x hx=>by rw [List.mem_singleton.1 hx]; simp [withG]) ?_;refine a_front TY_ok 6 (by kernel_rfl) rfl rfl rfl rfl rfl rfl (fun x hx=>by rw [List.mem_singleton.1 hx]; simp [withG]) ?_;refine a_front TY_ok 7 (by kernel_rfl) rfl rfl rfl rfl rfl rfl (fun x hx=>by rw [List.mem_singleton.1 hx]; simp [withG]) ?_;refine a_front TY_ok 8 (by kernel_rfl) rfl rfl rfl rfl rfl rfl (fun x hx=>by rw [List.mem_singleton.1 hx]; simp [withG]) ?_;refine a_step 9 (by kernel_rfl) rfl fun K10 hK10=>?_;refine l_callA [ptr g] rfl rfl rfl own_rsig rfl rfl (fun _ _=>rfl) (rsig_S g (nuS (stI (paS l) i))) (fun w h _=>h.1) fun ⟨A4,c4⟩=>?_;refine l_R [RdrS g A4 c4 (stI (paS l) (i + 1)),OwnS b.B.heap.size 3 1 eI (some ⟨g1,0,none⟩) n (sgsI (paS l) i ++ List.replicate (n - i) 0),OwnS b.B.heap.size 43 64 (eY 64) (some ⟨g2,0,none⟩) n (sisI (paS l) i ++ List.replicate (n - i) (List.replicate 64 0))] rfl ?_;refine s_end (hK10 _ (inv_of fun x hx=>by rw [List.mem_singleton.1 hx]; exact ⟨by simp [withG],rfl⟩) ?_);refine a_step 10 (by kernel_rfl) rfl fun K11 hK11=>?_;refine l_op (.v (.pointer (some ⟨g1,0 + 1 * i,none⟩))) trivial rfl rfl rfl (runO_ixS i rfl Tryz.underlying23 rfl rfl rfl hlt) ?_;refine s_end (hK11 _ (inv_of fun x hx=>by rw [List.mem_singleton.1 hx]; exact ⟨by simp [withG],rfl⟩) ?_);refine a_step 11 (by kernel_rfl) rfl fun K12 hK12=>?_;refine l_stC 1 (sgsI (paS l) (i + 1) ++ List.replicate (n - (i + 1)) 0) rfl rfl rfl rfl rfl rfl rfl rfl rfl (by rw [flat_I,List.length_map]; omega) (by rw [← hng,List.length_set]) (okF_I _) hfl ?_;refine s_end (hK12 _ (inv_of fun x hx=>by rw [List.mem_singleton.1 hx]; exact ⟨by simp [withG],rfl⟩) ?_);refine a_tail (by kernel_rfl) ?_;refine l_place TY_ok 2 (siI (paS l) i) i (fe:=eY 64) rfl rfl rfl rfl rfl rfl hls.symm rfl (by omega) (eY_ok (sgO_len _)) ?_;rw [hns];refine s_end (hK7 _ (k_noloc ?_));refine s_autoE TY_ok rfl ?_;exact k_next (i + 1,A4,c4) hlt (by show n - (i + 1) < n - i; omega) ⟨⟨congrArg some (congrArg SV.v (congrArg (Value.int .i64) (wrapI rfl (by omega) (by omega)))),rfl,rfl,rfl,rfl,rfl,trivial⟩,⟨rfl,rfl,rfl,rfl,trivial⟩,.refl _,fun _ h _=>h.1,fun _ h=>h.2.2⟩
  ·obtain rfl : n = i:=by omega
   have e1 : sgsI (paS l) n ++ List.replicate (n - n) 0 = sgsI (paS l) n:=by rw [Nat.sub_self]; exact List.append_nil _
   have e2 : sisI (paS l) n ++ List.replicate (n - n) (List.replicate 64 0) = sisI (paS l) n:=by rw [Nat.sub_self]; exact List.append_nil _
   refine s_exit (k_pass (k_pass (k_out ?_)));refine hK5 _ ?_;rw [e1,e2]
   have hR : stI (paS l) n = paR l:=by rw [hn]; rfl
   rw [hR];refine s_seq fun K8 hK8=>?_;refine s_regA TY_ok rfl fun K9 hK9=>?_;refine l_callA [ptr g] rfl rfl rfl own_rdone rfl rfl (fun _ _=>rfl) (rdone_S g (paR l)) (fun _ _ _=>trivial) fun _=>?_;refine l_autoS TY_ok rfl ?_;refine s_end (hK9 _ ?_);refine s_auto TY_ok rfl ?_;refine s_ifD ((endE (paR l) : Int) ≠ 0) rfl (fun h1=>?_) (fun h1=>?_)
   ·have e3 : paE l = endE (paR l):=by unfold paE; rw [if_neg (by omega)]
    have e4 : paC l = cv0:=by unfold paC; rw [if_neg (by omega)]
    refine s_auto TY_ok rfl ?_;exact s_ret (k_drop 0 rfl (k_drop 0 rfl (k_drop 0 rfl (k_ret TY_ok ci0 rfl (by decide) rfl (by rw [e3,e4]; rfl) rfl (fun _ _ _=>trivial) (fun w _=>by rw [e4]; exact certF0 w)))))
   have h1 : endE (paR l) = 0:=by omega
   have hg3:=mostI_any (paS l) 65536 n;refine s_skip (hK8 _ ?_);refine s_seq fun K10 hK10=>?_;refine s_auto TY_ok rfl ?_;refine s_ifD ((mostI (paS l) n : Int) > 65536) rfl (fun h2=>?_) (fun h2=>?_)
   ·have h3 : paG l (paN l) = true:=by rw [← hn]; exact hg3.1 (by omega)
    have e3 : paE l = 13:=by unfold paE; rw [if_pos h1,if_pos h3]
    have e4 : paC l = cv0:=by unfold paC; rw [if_neg (by omega)]
    refine s_auto TY_ok rfl ?_;exact s_ret (k_drop 0 rfl (k_drop 0 rfl (k_drop 0 rfl (k_ret TY_ok ci0 rfl (by decide) rfl (by rw [e3,e4]; rfl) rfl (fun _ _ _=>trivial) (fun w _=>by rw [e4]; exact certF0 w)))))
   ·have h3 : ¬ paG l (paN l) = true:=fun h=>by rw [← hn] at h; have:=hg3.2 h; omega
    have e3 : paE l = 0:=by unfold paE; rw [if_pos h1,if_neg h3]
    have e4 : paC l = ⟨byO (l,0),sgsI (paS l) n,sisI (paS l) n⟩:=by unfold paC; rw [if_pos e3,hn]
    have l1:=sgsI_len (paS l) n;have l2:=sisI_len (paS l) n;refine s_skip (hK10 _ ?_);refine s_auto TY_ok rfl ?_;exact s_ret (k_drop 0 rfl (k_freeM 1 rfl (Nat.le_refl _) (k_freeM 0 rfl (Nat.le_refl _) (k_ret TY_ok ⟨some ⟨gb,0,none⟩,(byO (l,0)).length,B1,n,B2,n⟩ rfl (by decide) rfl (by rw [e3,e4]; simp only [eC,l1,l2]; rfl) rfl (fun _ _ _=>trivial) (fun w h=>by rw [e4]; exact ⟨h.2.2.2,h.1,h.2.1⟩)))))
 refine s_any 6 [] (by kernel_rfl) (by decide) (fun _ _ _ _ h=>by cases h) ?_;refine a_front TY_ok 0 (by kernel_rfl) rfl rfl rfl rfl rfl rfl (fun _ h=>by cases h) ?_;refine a_front TY_ok 2 (by kernel_rfl) rfl rfl rfl rfl rfl rfl (fun _ h=>by cases h) ?_;refine a_step2 1 3 (by kernel_rfl) rfl rfl (fun K10 hK10=>?_) (fun K10 hK10=>?_)
 ·refine l_makeS TY_ok b.B.heap.size n 0 (fe:=eI) rfl rfl rfl rfl rfl rfl rfl rfl (eI_ok _) (by show 8 * n ≤ _; omega) (by omega) (Nat.le_refl _) fun B1=>?_
  refine s_end (hK10 _ (fun _ _ _ _ h=>by cases h) ?_);refine a_front TY_ok 4 (by kernel_rfl) rfl rfl rfl rfl rfl rfl (fun _ h=>by cases h) ?_;refine a_step2 3 5 (by kernel_rfl) rfl rfl (fun K11 hK11=>?_) (fun K11 hK11=>?_)
  ·refine l_makeS TY_ok b.B.heap.size n (List.replicate 64 0) (fe:=eY 64) rfl rfl rfl rfl rfl rfl rfl rfl (eY_ok List.length_replicate) (by show 64 * n ≤ _; omega) (by omega) (Nat.le_refl _) fun B2=>?_
   refine s_end (hK11 _ (fun _ _ _ _ h=>by cases h) ?_);refine a_step 5 (by kernel_rfl) rfl fun K12 hK12=>?_;refine l_autoS TY_ok rfl ?_;refine s_end (hK12 _ (fun _ _ _ _ h=>by cases h) ?_);refine a_tail (by kernel_rfl) ?_;refine l_autoS TY_ok rfl ?_;exact s_end (hmk _ ⟨B1,B2,⟨rfl,rfl,rfl,rfl,trivial⟩,⟨rfl,rfl,rfl,rfl,trivial⟩,(List.perm_append_comm (l₁:=[_,_]) (l₂:=[_])).trans (.cons _ (.swap _ _ _)),fun _ h _=>h.1,fun _ h=>h.2.1⟩)
  ·refine l_autoS TY_ok rfl ?_
   refine s_end (hK11 _ (fun _ _ _ _ h=>by cases h) ?_);refine a_step 3 (by kernel_rfl) rfl fun K12 hK12=>?_;refine l_makeS TY_ok b.B.heap.size n (List.replicate 64 0) (fe:=eY 64) rfl rfl rfl rfl rfl rfl rfl rfl (eY_ok List.length_replicate) (by show 64 * n ≤ _; omega) (by omega) (Nat.le_refl _) fun B2=>?_;refine s_end (hK12 _ (fun _ _ _ _ h=>by cases h) ?_);refine a_tail (by kernel_rfl) ?_;refine l_autoS TY_ok rfl ?_;exact s_end (hmk _ ⟨B1,B2,⟨rfl,rfl,rfl,rfl,trivial⟩,⟨rfl,rfl,rfl,rfl,trivial⟩,(List.perm_append_comm (l₁:=[_,_]) (l₂:=[_])).trans (.cons _ (.swap _ _ _)),fun _ h _=>h.1,fun _ h=>h.2.1⟩)
 ·refine l_makeS TY_ok b.B.heap.size n (List.replicate 64 0) (fe:=eY 64) rfl rfl rfl rfl rfl rfl rfl rfl (eY_ok List.length_replicate) (by show 64 * n ≤ _; omega) (by omega) (Nat.le_refl _) fun B2=>?_
  refine s_end (hK10 _ (fun _ _ _ _ h=>by cases h) ?_);refine a_step 1 (by kernel_rfl) rfl fun K11 hK11=>?_;refine l_makeS TY_ok b.B.heap.size n 0 (fe:=eI) rfl rfl rfl rfl rfl rfl rfl rfl (eI_ok _) (by show 8 * n ≤ _; omega) (by omega) (Nat.le_refl _) fun B1=>?_;refine s_end (hK11 _ (fun _ _ _ _ h=>by cases h) ?_);refine a_front TY_ok 4 (by kernel_rfl) rfl rfl rfl rfl rfl rfl (fun _ h=>by cases h) ?_;refine a_step 5 (by kernel_rfl) rfl fun K12 hK12=>?_;refine l_autoS TY_ok rfl ?_;refine s_end (hK12 _ (fun _ _ _ _ h=>by cases h) ?_);refine a_tail (by kernel_rfl) ?_;refine l_autoS TY_ok rfl ?_;exact s_end (hmk _ ⟨B1,B2,⟨rfl,rfl,rfl,rfl,trivial⟩,⟨rfl,rfl,rfl,rfl,trivial⟩,List.perm_append_comm (l₁:=[_,_]) (l₂:=[_]),fun _ h _=>h.1,fun _ h=>h.2.1⟩)
end Go.Proofs.YtlcbhbahchiofaaGreatDoor
