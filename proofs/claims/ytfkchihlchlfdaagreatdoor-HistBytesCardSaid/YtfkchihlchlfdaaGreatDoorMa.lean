import Derived.Test.YtfkchihlchlfdaaGreatDoorRows
import Derived.WalkKit
import Derived.WalkSpells
import Derived.WalkLawsBesides
import Derived.Lib.Hide
import Derived.Laws.CopyOwn
import Derived.Deep.QuietTactic
import Derived.StillTail
import Derived.Deep.MidRow
set_option maxRecDepth 20000
open Array renaming replicate->bE,getD_eq_getD_getElem?->cN,getElem?_eq_some_iff->dC,getElem?_eq_getElem->dM,any_eq_true'->fK,toList_map->sW,getElem?_modify->NJ
open Bool renaming and_eq_true->aW,or_eq_true->fO,false_eq_true->BD
open Go.Act renaming put_comm->pD
open Go.Code renaming region->kB
open Go.Instr renaming fill->gN,sureAddr->rL,storeAt->Dr
open Go.Next renaming value->z9
open Go.Op renaming equalIn->fH
open Go.Oper renaming upon->mJ,wp->nC
open Go.Region renaming wanted->aN,ready->bC,binds->eN,Mode->fM,noSelect->tS
open Go.Result renaming andThen_ok->aF
open Go.Sem renaming run_bind->aJ,run_pure->aK
open Go.Value renaming cells->DL
open Go.World renaming size_alloc->aZ
open List renaming length_take->aY,mem_singleton->bK,mem_cons_of_mem->bL,append_nil->bV,length_cons->cC,all_eq_true->cL,getElem?_eq_some_iff->dI,take_append_drop->dR,length_drop->fW,mem_map->gP,getElem?_take->iJ,getElem?_append_right->iL,getElem?_append_left->lM,mem_range->lX,drop_eq_getElem_cons->mK,mem_range'_1->oA,range->tT,getElem?_drop->BC,forIn_cons->NG
open Nat renaming le_refl->aH,zero_add->cK,add_assoc->dO,add_zero->fN,add_comm->uB
open Option.some renaming inj->fV
open Std.Legacy.Range renaming size->jS
open UInt8 renaming ofNat->cR
namespace Go.Proofs.YtfkchihlchlfdaaGreatDoor
def be8 (v : Nat) : List UInt8:=[cR (v / 72057594037927936),cR (v / 281474976710656),cR (v / 1099511627776),cR (v / 4294967296),cR (v / 16777216),cR (v / 65536),cR (v / 256),cR v]
def step (a : Nat) (x : UInt8) : Nat:=(a * 256 + x.toNat) % 18446744073709551616
def val (l : List UInt8) : Nat:=l.foldl step 0
theorem nL (v : Nat) : (be8 v).length = 8:=rfl
theorem Gj (l : List UInt8) (x : UInt8) : val (l ++ [x]) = step (val l) x:=by simp [val]
theorem Si (a : Nat) (x : UInt8) : step a x < 18446744073709551616:=Nat.mod_lt _ (by omega)
theorem U7 (l : List UInt8) : val l < 18446744073709551616:=by
 rcases List.eq_nil_or_concat l with rfl | ⟨l',x,rfl⟩
 ·simp [val]
 ·rw [List.concat_eq_append,Gj]
  exact Si _ _
def tk (l : List UInt8) (f k : Nat) : List UInt8 × List UInt8 × Nat :=
  if f = 0 then (if l.length < k then ([],l,10) else (l.take k,l.drop k,0)) else ([],l,f)
theorem Sf {l : List UInt8} {f k : Nat} (h : f ≠ 0) : tk l f k = ([],l,f):=by simp [tk,h]
theorem Od {l : List UInt8} {k : Nat} (h : l.length < k) : tk l 0 k = ([],l,10):=by simp [tk,h]
theorem Xc {l : List UInt8} {k : Nat} (h : k <= l.length) : tk l 0 k = (l.take k,l.drop k,0):=by
 simp only [tk,if_pos];rw [if_neg (by omega)]
def num (l : List UInt8) (f : Nat) : Nat × List UInt8 × Nat:=(val (tk l f 8).1,(tk l f 8).2)
def most (l : List UInt8) (f lim : Nat) : Nat × List UInt8 × Nat:=if lim < (num l f).1 then (0,(num l f).2.1,12) else num l f
def don (l : List UInt8) (f : Nat) : Nat:=if f = 0 then (if l.length = 0 then 0 else 11) else f
end Go.Proofs.YtfkchihlchlfdaaGreatDoor
namespace Go.Proofs.YtfkchihlchlfdaaGreatDoor
open Go.RowKit
def By (l : List UInt8) : List Value:=l.map λx=>.int .u8 (x.toNat : Int)
theorem cD (l : List UInt8) : (By l).length = l.length:=by simp [By]
theorem vN (a b : List UInt8) : By (a ++ b) = By a ++ By b:=by simp [By]
theorem kU (l : List UInt8) : ∀ u ∈ By l,u.oneCell' = true:=by
 intro u hu
 obtain ⟨x,_,rfl⟩:=gP.1 hu
 rfl
theorem L8 {l : List UInt8} {j : Nat} {u : Value} (h : (By l)[j]? = some u) : ∃ x,l[j]? = some x /\ u = .int .u8 (x.toNat : Int):=by
 simp only [By,List.getElem?_map,Option.map_eq_some_iff] at h;obtain ⟨x,hx,rfl⟩:=h;exact ⟨x,hx,rfl⟩
def BV (w : World) (lo hi : Nat) (A : Option Addr) (l : List UInt8) : Prop :=
  0 < l.length -> ∃ ad,A = some ad /\ lo <= ad.block /\ ad.block < hi /\ ∀ j x,l[j]? = some x -> w.cell? (ad.add j) = some (.int .u8 (x.toNat : Int))
section
variable {w w' : World} {lo hi lo' hi' : Nat} {A : Option Addr} {l : List UInt8}
theorem block_add (a : Addr) (n : Nat) : (a.add n).block = a.block:=by unfold Addr.add; split <;> rfl
theorem Rx (a : Addr) (i j : Nat) : (a.add i).add j = a.add (i + j):=by
 unfold Addr.add
 by_cases h1 : i = 0 <;> by_cases h2 : j = 0 <;> simp [h1,h2,dO]
theorem BV.nil (w : World) (lo hi : Nat) (A : Option Addr) : BV w lo hi A []:=λh=>absurd h (by simp)
theorem BV.more (h : BV w lo hi A l) (h1 : lo' <= lo) (h2 : hi <= hi') : BV w lo' hi' A l:=λhl=>by
 obtain ⟨ad,e,ha,hb,hc⟩:=h hl;exact ⟨ad,e,by omega,by omega,hc⟩
theorem BV.mF (h : BV w lo hi A l) (hk : ∀ k,lo <= k -> k < hi -> w'.heap[k]? = w.heap[k]?) : BV w' lo hi A l:=λhl=>by
 obtain ⟨ad,e,ha,hb,hc⟩:=h hl
 exact ⟨ad,e,ha,hb,λj x hx=>by
  rw [World.cell?_of_block (w:=w) (by rw [block_add]; exact hk _ ha hb)]
  exact hc j x hx⟩
theorem BV.below (h : BV w lo hi A l) {B : Nat} (hb : Below B w w') (hB : hi <= B) : BV w' lo hi A l:=h.mF λk _ hk=>hb.block k (by omega)
theorem BV.grown (h : BV w lo hi A l) {r : Nat} (hg : w.grownBy w' (some r)) (hB : hi <= w.heap.size) (hr : r < lo \/ hi <= r) : BV w' lo hi A l :=
 h.mF λk h1 h2=>hg.block k (by omega) (λe=>by injection e with e; omega)
theorem BV.alloc (h : BV w lo hi A l) (o : Obj) (hB : hi <= w.heap.size) : BV (w.alloc o) lo hi A l:=h.mF λk _ h2=>Below.heap_alloc w o k (by omega)
theorem BV.take (h : BV w lo hi A l) (k : Nat) : BV w lo hi A (l.take k):=λhl=>by
 obtain ⟨ad,e,ha,hb,hc⟩:=h (by simp at hl; omega)
 exact ⟨ad,e,ha,hb,λj x hx=>hc j x (by
  rw [iJ] at hx
  split at hx
  ·exact hx
  ·cases hx)⟩
theorem BV.cut (h : BV w lo hi A l) {k c : Nat} (hk : k <= l.length) (hc : l.length <= c) : BV w lo hi (if c = k then A else A.map (·.add k)) (l.drop k):=λhl=>by
 simp only [fW] at hl;obtain ⟨ad,rfl,ha,hb,hcell⟩:=h (by omega);rw [if_neg (by omega)]
 exact ⟨ad.add k,rfl,by rw [block_add]; exact ha,by rw [block_add]; exact hb,λj x hx=>by
  rw [Rx]
  exact hcell (k + j) x (by rw [<-hx,BC])⟩
end
def Blk (w : World) (g t : Nat) (cs : Array Value) : Prop:=w.heap[g]? = some (.cells cs t (0,0))
section
variable {w w' : World} {g t : Nat} {cs : Array Value}
theorem Blk.lt (h : Blk w g t cs) : g < w.heap.size:=(dC.1 h).1
theorem Blk.cell (h : Blk w g t cs) (i : Nat) : w.cell? ⟨g,i,none⟩ = cs[i]?:=cell_of_row w g i cs t (0,0) h
theorem Blk.free (h : Blk w g t cs) (i : Nat) : w.frozen? ⟨g,i,none⟩ = false:=frozen_of_row w g i cs t h
theorem Blk.new (w : World) (t : Nat) (cs : Array Value) : Blk (w.alloc (.cells cs t)) w.heap.size t cs:=heap_alloc_new w _
theorem Blk.alloc (h : Blk w g t cs) (o : Obj) : Blk (w.alloc o) g t cs:=(Below.heap_alloc w o g h.lt).trans h
theorem Blk.set (h : Blk w g t cs) (i : Nat) (u : Value) : Blk (w.setCell ⟨g,i,none⟩ u) g t (cs.setIfInBounds i u):=by
 unfold Blk at h ⊢
 simp [World.setCell,NJ,h]
theorem Blk.far (h : Blk w g t cs) {p : Addr} (hp : g ≠ p.block) (u : Value) : Blk (w.setCell p u) g t cs:=(heap_setCell_other w p g u hp).trans h
theorem Blk.below {B : Nat} (h : Blk w g t cs) (hb : Below B w w') (hg : g < B) : Blk w' g t cs:=(hb.block g hg).trans h
end
theorem Kk {B : Nat} {a b c : World} {r : Nat} (h : Below B a b) (k : b.grownBy c (some r)) (hB : B <= b.heap.size) (hr : B <= r) : Below B a c :=
 h.grown k hB (λx hx=>by injection hx with hx; omega)
def SL (w : World) (lo hi : Nat) (A : Option Addr) (l : List UInt8) (c : Nat) : Prop :=
  l.length <= c /\ c <= 9223372036854775807 /\ (A = none -> c = 0) /\ BV w lo hi A l
section
variable {w w' : World} {lo hi lo' hi' c : Nat} {A : Option Addr} {l : List UInt8}
theorem SL.more (h : SL w lo hi A l c) (h1 : lo' <= lo) (h2 : hi <= hi') : SL w lo' hi' A l c:=⟨h.1,h.2.1,h.2.2.1,h.2.2.2.more h1 h2⟩
theorem SL.below (h : SL w lo hi A l c) {B : Nat} (hb : Below B w w') (hB : hi <= B) : SL w' lo hi A l c:=⟨h.1,h.2.1,h.2.2.1,h.2.2.2.below hb hB⟩
theorem SL.alloc (h : SL w lo hi A l c) (o : Obj) (hB : hi <= w.heap.size) : SL (w.alloc o) lo hi A l c:=⟨h.1,h.2.1,h.2.2.1,h.2.2.2.alloc o hB⟩
theorem SL.nil (w : World) (lo hi : Nat) : SL w lo hi none [] 0:=⟨by simp,by omega,λ_=>rfl,BV.nil _ _ _ _⟩
theorem SL.take (h : SL w lo hi A l c) (k : Nat) : SL w lo hi A (l.take k) c:=⟨by have:=h.1; simp; omega,h.2.1,h.2.2.1,h.2.2.2.take k⟩
theorem SL.cut (h : SL w lo hi A l c) {k : Nat} (hk : k <= l.length) : SL w lo hi (if c = k then A else A.map (·.add k)) (l.drop k) (c - k):=by
 refine ⟨by have:=h.1; simp; omega,by have:=h.2.1; omega,λhA=>?_,h.2.2.2.cut hk h.1⟩
 split at hA
 ·rw [h.2.2.1 hA]; omega
 ·cases A with
  | none=>rw [h.2.2.1 rfl]; omega
  | some a=>cases hA
end
theorem SL.none_ {w : World} {lo hi c : Nat} {A : Option Addr} {l : List UInt8} (h : SL w lo hi A l c) (hA : A = none) : l.length = 0 /\ c = 0:=by
 have:=h.2.2.1 hA;have:=h.1
 omega
theorem SL.cells {w : World} {lo hi c : Nat} {A : Option Addr} {l : List UInt8} (h : SL w lo hi A l c) : ∀ ad,A = some ad -> ∀ j u,(By l)[j]? = some u -> w.cell? (ad.add j) = some u:=by
 intro ad hA j u hu
 obtain ⟨x,hx,rfl⟩:=L8 hu
 have hl : 0 < l.length:=by
  have:=(dI.1 hx).1
  omega
 obtain ⟨ad',hA',_,_,hc⟩:=h.2.2.2 hl;rw [hA] at hA'
 injection hA' with hA'
 subst hA';exact hc j x hx
def o8 (w : World) (hi : Nat) (A : Option Addr) (ls : List (List UInt8)) : Prop :=
  0 < ls.length -> ∃ ad,A = some ad /\ ad.block < hi /\ ∀ (i : Nat) l,ls[i]? = some l -> ∃ A' c,w.cell? (ad.add i) = some (.slice A' l.length c) /\ SL w 0 hi A' l c
theorem o8.below {w w' : World} {hi B : Nat} {A : Option Addr} {ls : List (List UInt8)} (h : o8 w hi A ls) (hb : Below B w w') (hB : hi <= B) : o8 w' hi A ls:=λhl=>by
 obtain ⟨ad,rfl,ha,hc⟩:=h hl;refine ⟨ad,rfl,ha,λi l hi=>?_⟩;obtain ⟨A',c,h1,h2⟩:=hc i l hi;exact ⟨A',c,by rw [hb.cell (by rw [block_add]; omega)]; exact h1,h2.below hb hB⟩
theorem rQ {P : Program} (w : World) (ty : TypeId) (g : Nat) (cs old : Array Value) (t : TypeId) (hg : w.heap[g]? = some (.cells old t (0,0)))
  (hi : (P.info? ty).map (·.size) = some cs.size) (hos : old.size = cs.size) (h1 : ∀ v ∈ cs.toList,v.oneCell' = true) :
  (Dr ty (.pointer (some ⟨g,0,none⟩)) (.agg cs)).run P w = .ok () (w.setRow g cs):=by
 have hst:=run_storeCells_at P g 0 t cs.toList 0 old w hg (by simp; omega) h1;have hd : old.toList.drop cs.toList.length = []:=List.drop_eq_nil_of_le (by simp; omega);simp only [fN,cK,List.take_zero,List.nil_append] at hst;rw [hd,bV,Array.toArray_toList] at hst
 cases hq : P.info? ty with
 | none=>simp [hq] at hi
 | some i =>
  have hs : i.size = cs.size:=by simpa [hq] using hi
  simp [Dr,rL,storeVar,sizeOf,typeInfo,hq,hs,DL,aJ,hst]
theorem wpList_store_row {P : Program} {ops : Array Oper} {rest : List Oper} {o : Oper} {a : Act} {w : World} {Q : Exit -> Act -> World -> Prop} (hgd : o.guard = none) (ty : TypeId) (p x : Operand) (ho : o.op = .store ty p x)
  (g : Nat) (hp : a.eval p = .pointer (some ⟨g,0,none⟩)) (cs : Array Value) (hx : a.eval x = .agg cs) (t : TypeId) (old : Array Value) (hg : w.heap[g]? = some (.cells old t (0,0)))
  (hi : (P.info? ty).map (·.size) = some cs.size) (hos : old.size = cs.size) (h1 : ∀ v ∈ cs.toList,v.oneCell' = true)
  (h : wpList P ops Q rest (a.put o.dst (.tuple #[])) (w.setRow g cs)) : wpList P ops Q (o :: rest) a w :=
 wpList_plain hgd λ_ hK=>by
  unfold nC execOp
  simp only [ho,hp,hx,aJ,aK,aF,rQ w ty g cs old t hg hi hos h1];exact hK _ _ h
theorem Blk.row {w : World} {g t : Nat} {cs : Array Value} (h : Blk w g t cs) (cs' : Array Value) : Blk (w.setRow g cs') g t cs':=setRow_heap w g cs cs' t _ h
theorem Blk.aT {w : World} {g t : Nat} {cs : Array Value} (h : Blk w g t cs) {g' : Nat} (hne : g ≠ g') (cs' : Array Value) : Blk (w.setRow g' cs') g t cs:=by
 unfold Blk at h ⊢
 rw [World.setRow];simp only [NJ];rw [if_neg (by omega)];exact h
def Is (l : List Int) : List Value:=l.map (.int .i64)
theorem gJ {l : List UInt8} {j : Nat} (h : j < l.length) : (By l).toArray[j]? = some (.int .u8 ((l[j]!).toNat : Int)):=by
 simp [By,h]
theorem Blk.drew {w : World} {g t : Nat} {cs : Array Value} (h : Blk w g t cs) : Blk w.drew g t cs:=h
theorem nK (w : World) (t : Nat) (cs : Array Value) (o1 o2 : Obj) : Blk (((w.alloc (.cells cs t)).alloc o1).alloc o2) w.heap.size t cs:=((Blk.new w t cs).alloc o1).alloc o2
theorem lW (w : World) (t : Nat) (cs : Array Value) (o1 o2 : Obj) : Blk (((w.alloc o1).alloc (.cells cs t)).alloc o2) (w.heap.size + 1) t cs:=by
 have h:=(Blk.new (w.alloc o1) t cs).alloc o2
 rwa [aZ] at h
theorem mG (w : World) (t : Nat) (cs : Array Value) (o1 o2 : Obj) : Blk (((w.alloc o1).alloc o2).alloc (.cells cs t)) (w.heap.size + 1 + 1) t cs:=by
 have h:=Blk.new ((w.alloc o1).alloc o2) t cs
 rwa [aZ,aZ] at h
theorem Rm (w : World) (t : Nat) (cs : Array Value) (o1 o2 o3 : Obj) : Blk ((((w.alloc (.cells cs t)).alloc o1).alloc o2).alloc o3) w.heap.size t cs:=(((Blk.new w t cs).alloc o1).alloc o2).alloc o3
theorem Rl (w : World) (t : Nat) (cs : Array Value) (o1 o2 o3 : Obj) : Blk ((((w.alloc o1).alloc (.cells cs t)).alloc o2).alloc o3) (w.heap.size + 1) t cs:=by
 have h:=((Blk.new (w.alloc o1) t cs).alloc o2).alloc o3
 rwa [aZ] at h
theorem Rk (w : World) (t : Nat) (cs : Array Value) (o1 o2 o3 : Obj) : Blk ((((w.alloc o1).alloc o2).alloc (.cells cs t)).alloc o3) (w.heap.size + 1 + 1) t cs:=by
 have h:=(Blk.new ((w.alloc o1).alloc o2) t cs).alloc o3
 rwa [aZ,aZ] at h
theorem Rj (w : World) (t : Nat) (cs : Array Value) (o1 o2 o3 : Obj) : Blk ((((w.alloc o1).alloc o2).alloc o3).alloc (.cells cs t)) (w.heap.size + 1 + 1 + 1) t cs:=by
 have h:=Blk.new (((w.alloc o1).alloc o2).alloc o3) t cs
 rwa [aZ,aZ,aZ] at h
theorem Rn (w : World) (o1 o2 o3 o4 : Obj) : Below w.heap.size w ((((w.alloc o1).alloc o2).alloc o3).alloc o4) :=
 ((((Below.refl _ _).alloc (aH _) _).alloc (by simp) _).alloc (by simp; omega) _).alloc (by simp; omega) _
def z32 : Array Value:=(By (List.replicate 32 0)).toArray
theorem fL (cs : Array Value) (h : cs.size = 32) : (Tryz.prog.info? 27).map (·.size) = some cs.size:=by
 rw [h]
 kernel_rfl
theorem rX (l : List UInt8) (k : Nat) (x : UInt8) : (By l).toArray.setIfInBounds k (.int .u8 (x.toNat : Int)) = (By (l.set k x)).toArray:=by
 simp [By,List.map_set]
theorem jQ {l : List UInt8} (h : l.length = 32) : (By l).toArray.size = 32:=by rw [List.size_toArray,cD,h]
theorem XL : (Tryz.prog.info? 5).map (λi=>(i.zero,i.size,i.bytes)) = some (some (.int .u8 0),1,1):=by kernel_rfl
theorem Lf (w : World) (l : List UInt8) (i : Nat) (hi : i < l.length) : (part 5 (By l).toArray (i * 1)).run Tryz.prog w = .ok (.int .u8 (l[i].toNat : Int)) w:=by
 have hagg : (isAgg 5).run Tryz.prog w = .ok false w:=by
  unfold isAgg
  rw [aJ,run_underlying Tryz.underlying5 w]
  rfl
 have hc : (By l)[i]? = some (.int .u8 (l[i].toNat : Int)):=by simp [By,List.getElem?_eq_getElem hi]
 unfold part
 simp [aJ,hagg,hc,aK]
theorem VF (d : Nat) (x y : UInt8) (w : World) : (fH (d + 1) 5 (.int .u8 (x.toNat : Int)) (.int .u8 (y.toNat : Int))).run Tryz.prog w = .ok (decide (x = y)) w:=by
 simp [fH,run_underlying Tryz.underlying5]
 by_cases h : x = y
 ·simp [h]
 ·have h2 : ¬ x.toNat = y.toNat:=λe=>h (UInt8.toNat.inj e)
  simp [h]
  intro e
  exact h2 (by omega)
theorem lB (d n t : Nat) (l m : List UInt8) (ht : Tryz.prog.underlying t = some (.array n 5)) (hl : l.length = n) (hm : m.length = n) (w : World) :
  (fH (d + 2) t (.agg (By l).toArray) (.agg (By m).toArray)).run Tryz.prog w = .ok (decide (l = m)) w:=by
 obtain ⟨i0,hi0,hz0,hz1,hz2⟩:=info_parts XL
 have hI : ∀ (I : List Nat),(∀ i ∈ I,i < n) -> (forIn I ((none : Option Bool),()) λi _=>do
   let a <-part 5 (By l).toArray (i * 1)
   let b <-part 5 (By m).toArray (i * 1)
   let r <-fH (d + 1) 5 a b
   if (!r) = true then pure (ForInStep.done (some false,())) else pure (ForInStep.yield (none,()))).run Tryz.prog w = .ok (if ∀ i ∈ I,l[i]! = m[i]! then (none,()) else (some false,())) w:=by
  intro I
  induction I with
  | nil=>intro _; simp [aK]
  | cons i I ih =>
   intro h
   have hi : i < l.length:=by have:=h i (by simp); omega
   have hj : i < m.length:=by have:=h i (by simp); omega
   have hp:=Lf w l i hi;have hq:=Lf w m i hj;have he:=VF d l[i] m[i] w;have e1 : l[i]! = l[i]:=getElem!_pos l i hi;have e2 : m[i]! = m[i]:=getElem!_pos m i hj
   by_cases hx : l[i] = m[i]
   ·rw [show decide (l[i] = m[i]) = true by simp [hx]] at he
    simp only [NG,aJ,hp,hq,aF,he,Bool.not_true,BD,if_false,aK];rw [ih (λj hj=>h j (by simp [hj]))]
    congr 1
    by_cases ha : ∀ i ∈ I,l[i]! = m[i]!
    ·have hb : ∀ j ∈ i :: I,l[j]! = m[j]!:=by
      intro j hj
      rcases List.mem_cons.mp hj with rfl | hj
      ·rw [e1,e2,hx]
      ·exact ha j hj
     rw [if_pos ha,if_pos hb]
    ·rw [if_neg ha,if_neg (λhb=>ha λj hj=>hb j (bL _ hj))]
   ·rw [show decide (l[i] = m[i]) = false by simp [hx]] at he
    simp only [NG,aJ,hp,hq,aF,he,Bool.not_false,if_true,aK];rw [if_neg (λhb=>hx (by have:=hb i (List.mem_cons_self ..); rw [e1,e2] at this; exact this))]
 rw [fH];simp only [aJ,run_underlying ht,aF,sizeOf,typeInfo,run_program,hi0,hz1,aK,Std.Legacy.Range.forIn_eq_forIn_range']
 rw [hI _ (λi hi=>by
  have:=oA.1 hi
  simp [jS] at this
  omega)]
 by_cases hlm : l = m
 ·subst hlm
  simp [aK]
 ·have hne : ¬ ∀ i ∈ List.range' 0 n 1,l[i]! = m[i]!:=λha=>hlm (by
   apply List.ext_getElem (by rw [hl,hm])
   intro i h1 h2
   have:=ha i (oA.2 (by omega))
   rwa [getElem!_pos l i h1,getElem!_pos m i h2] at this)
  have hs : jS [:n] = n:=by simp [jS]
  rw [hs,if_neg hne,show decide (l = m) = false by simp [hlm]]
  rfl
theorem BS (l m : List UInt8) (hl : l.length = 32) (hm : m.length = 32) (w : World) : (fH 10000 27 (.agg (By l).toArray) (.agg (By m).toArray)).run Tryz.prog w = .ok (decide (l = m)) w:=lB 9998 32 27 l m Tryz.underlying27 hl hm w
end Go.Proofs.YtfkchihlchlfdaaGreatDoor
namespace Go.Proofs.YtfkchihlchlfdaaGreatDoor
open Go.RowKit Go.IntWalk
def j4 : Op -> Bool
  | .move _ | .assign _ | .pick .. | .alloc _ | .box .. | .build .. | .load .. | .store .. | .binOp .. | .unOp .. | .convert .. | .fieldAddr .. | .field .. | .indexAddr .. | .index .. | .extract .. | .slice .. | .makeInterface ..=>true
  | _=>false
def CF : Op -> Bool
  | .call c=>match c.callee with | .builtin .len=>false | _=>true
  | o=>!j4 o
theorem Ph {o : Op} (h : CF o = true) : j4 o = false:=by
 cases o <;> first | rfl | exact absurd h (by simp [CF,j4])
section
variable {P : Program}
theorem OG {s : Sem Value} {w w' : World} {n : Next} (h : (do pure (z9 (<-s)) : Sem Next).run P w = .ok n w') : ∃ v,n = .value v:=by
 rw [aJ] at h
 cases hs : s.run P w with
 | ok v w1 =>
  rw [hs] at h;simp only [aF,aK] at h
  injection h with h1 h2
  exact ⟨v,h1.symm⟩
 | halt x w1 =>
  rw [hs] at h
  cases h
theorem Xi {s : Sem Unit} {w w' : World} {n : Next} (h : (do s; pure Next.skip : Sem Next).run P w = .ok n w') : n = .skip:=by
 rw [aJ] at h
 cases hs : s.run P w with
 | ok v w1 =>
  rw [hs] at h;simp only [aF,aK] at h
  injection h with h1 h2
  exact h1.symm
 | halt x w1 =>
  rw [hs] at h
  cases h
theorem G4 {ρ : Operand -> Value} {o : Oper} (hp : j4 o.op = true) {w w' : World} {n : Next} (h : (execOp ρ o).run P w = .ok n w') : (∃ v,n = .value v) \/ n = .skip:=by
  obtain ⟨dst,op,ty,pos,af,gd⟩:=o
  cases op <;> first
    | (cases hp; done)
    | exact .inl (OG h)
    | exact .inr (Xi h)
    | (refine .inl ?_
       unfold execOp at h
       simp only [aK] at h
       injection h with h1 h2
       exact ⟨_,h1.symm⟩)
    | (refine .inl ?_
       unfold execOp at h
       exact OG (s:=do pure (if <-asBool _ then _ else _)) (by simpa using h))
end
section
variable {P : Program} {ops : Array Oper} {md : fM} {Q : Exit -> Act -> World -> Prop} {C0 : World -> Prop}
def pK (P : Program) (w : World) (V : Value -> Prop) : Result Next -> Prop
  | .ok (.value u) w'=>w' = w /\ V u
  | .ok .skip w'=>w' = w /\ V undef
  | .ok (.enter f args) w'=>w' = w /\ Calls P f args w (λe w''=>∃ v,e = .returned v /\ V v /\ Below w.heap.size w w'')
  | _=>False
def atB (P : Program) (o : Oper) (a : Act) (w : World) (V : Value -> Prop) : Prop:=pK P w V ((execOp a.eval o).run P w)
def Jv (P : Program) (o : Oper) (a : Act) (C0 : World -> Prop) (next : Act -> Prop) : Prop :=
  (∃ v,(∀ w,C0 w -> atB P o a w (· = v)) /\ next (a.put o.dst v)) \/ (CF o.op = true /\ ∃ V,(∀ w,C0 w -> atB P o a w V) /\ ∀ v,V v -> next (a.put o.dst v))
def wpB (P : Program) (ops : Array Oper) (C0 : World -> Prop) (Q : Act -> Prop) : List Oper -> Act -> Prop
  | [],a=>Q a
  | o :: rest,a=>if aN o (yielded ops a.tmps) then Jv P o a C0 (wpB P ops C0 Q rest) else wpB P ops C0 Q rest (a.put o.dst undef)
theorem cQ {Q : Act -> Prop} {a : Act} (h : Q a) : wpB P ops C0 Q [] a:=h
theorem GW {Q Q' : Act -> Prop} (h : ∀ a,Q a -> Q' a) {o : Oper} {a : Act} (hh : Jv P o a C0 Q) : Jv P o a C0 Q':=by
 rcases hh with ⟨v,h1,h2⟩ | ⟨hp,V,h1,h2⟩
 ·exact .inl ⟨v,h1,h _ h2⟩
 ·exact .inr ⟨hp,V,h1,λv hv=>h _ (h2 v hv)⟩
theorem kW {Q Q' : Act -> Prop} (h : ∀ a,Q a -> Q' a) : ∀ (l : List Oper) (a : Act),wpB P ops C0 Q l a -> wpB P ops C0 Q' l a
 | [],a,hh=>h a hh
 | o :: l,a,hh=>by
  unfold wpB at hh ⊢
  split
  ·rename_i hw
   simp only [hw,if_true] at hh;exact GW (kW h l) hh
  ·rename_i hw
   simp only [hw] at hh;exact kW h l _ (by simpa using hh)
def jA (P : Program) (ops : Array Oper) (C0 : World -> Prop) (o : Oper) (V : Value -> Prop) (a : Act) : Prop :=
  (aN o (yielded ops a.tmps) = true /\ ∀ w,C0 w -> atB P o a w V) \/ (aN o (yielded ops a.tmps) = false /\ V undef)
theorem jA.of_same {o : Oper} {V : Value -> Prop} {a a' : Act} (hy : jA P ops C0 o V a) (he : execOp a'.eval o = execOp a.eval o)
  (hw : aN o (yielded ops a'.tmps) = aN o (yielded ops a.tmps)) : jA P ops C0 o V a':=by
 unfold jA atB at *
 rw [he,hw];exact hy
theorem jA.any {o : Oper} {V : Value -> Prop} {a : Act} (hy : jA P ops C0 o V a) {w : World} (hC : C0 w) : ∃ v,V v:=by
 rcases hy with ⟨_,h⟩ | ⟨_,h⟩
 ·have h3:=h w hC
  unfold atB at h3
  generalize (execOp a.eval o).run P w = r at *
  cases r with
  | ok n w' =>
   cases n <;> simp only [pK] at h3
   case value u=>exact ⟨u,h3.2⟩
   case skip=>exact ⟨_,h3.2⟩
   case enter f args =>
    obtain ⟨e,w1,fr,⟨v,_,hv,_⟩,_⟩:=h3.2 [];exact ⟨v,hv⟩
  | halt x w'=>simp only [pK] at h3
 ·exact ⟨_,h⟩
theorem jA.wpOp {i : Nat} {o : Oper} {V : Value -> Prop} {a : Act} (hi : ops[i]? = some o) (hy : jA P ops C0 o V a)
  {K : Act -> World -> Prop} {w : World} (hC : C0 w) (h : ∀ v w',V v -> Below w.heap.size w w' -> K (a.put o.dst v) w') : wpOp P ops Q i K a w:=by
 unfold Go.wpOp
 simp only [hi]
 rcases hy with ⟨hw,hv⟩ | ⟨hw,hv⟩
 ·simp only [hw,if_true]
  refine .inl ?_;have h3:=hv w hC
  unfold atB at h3
  unfold nC
  generalize (execOp a.eval o).run P w = r at *
  cases r with
  | ok n w' =>
   cases n <;> simp only [pK] at h3 <;> simp only [mJ]
   case value u =>
    obtain ⟨e1,e2⟩:=h3;rw [e1];exact h _ _ e2 (Below.refl _ _)
   case skip =>
    obtain ⟨e1,e2⟩:=h3;rw [e1];exact h _ _ e2 (Below.refl _ _)
   case enter f args =>
    obtain ⟨e1,hc⟩:=h3;rw [e1]
    exact hc.mono λe w'' ⟨v,he,hv,hw''⟩=>by subst he; exact h _ _ hv hw''
  | halt x w'=>simp only [pK] at h3
 ·simp only [hw,BD,if_false]; exact h _ _ hv (Below.refl _ _)
theorem Ae {j : Nat} {oi oj : Oper} {V : Value -> Prop} (hj : ops[j]? = some oj) (hap : oi.apart ops oj = true)
  (hsi : ∀ cs b,oi.op ≠ .select cs b) (hsj : ∀ cs b,oj.op ≠ .select cs b) (hne : ∃ v,V v) (hpl : j4 oj.op = true \/ ∃ v,∀ u,V u -> u = v)
  (hQ : ∀ c a d v w,Q (.panic c) (a.put d v) w -> Q (.panic c) a w) {K : Act -> World -> Prop} {a : Act} {w : World}
  (hy : jA P ops C0 oi V a) (h : ∀ v,V v -> wpOp P ops Q j K (a.put oi.dst v) w) :
  wpOp P ops Q j (λa' w'=>jA P ops C0 oi V a' /\ ∀ v,V v -> K (a'.put oi.dst v) w') a w:=by
 obtain ⟨h1,h2,h3⟩:=Oper.apart_spec hap
 have mF : ∀ (a : Act),jA P ops C0 oi V a -> ∀ u,jA P ops C0 oi V (a.put oj.dst u):=λa hy u =>
  hy.of_same (execOp_put oi hsi a oj.dst u h3) (wanted_put oi a oj.dst u h3)
 have keepD : ∀ d,jA P ops C0 oi V { a with defers:=d :: a.defers }:=λd=>hy.of_same rfl rfl;obtain ⟨v0,hv0⟩:=hne
 unfold wpOp at *
 simp only [hj] at *;have hwt : ∀ v,aN oj (yielded ops (a.put oi.dst v).tmps) = aN oj (yielded ops a.tmps):=λv=>wanted_put oj a oi.dst v h1
 split
 ·rename_i hw
  by_cases hasks : oj.asks P a w /\ LetsOut Q
  ·exact .inr hasks
  have hl : ∀ v,V v -> oj.wp P (a.put oi.dst v) w K Q:=λv hv=>by
   have h5:=h v hv;rw [hwt v] at h5;simp only [hw,if_true] at h5
   rcases h5 with h5 | ⟨h5,h6⟩
   ·exact h5
   ·refine absurd ⟨?_,h6⟩ hasks
    unfold Oper.asks at *
    rw [execOp_put oj hsj a oi.dst v h1] at h5;exact h5
  refine .inl ?_
  unfold nC at *
  have hl2 : ∀ v,V v -> oj.upon P (a.put oi.dst v) K Q ((execOp a.eval oj).run P w):=λv hv=>by
   have h5:=hl v hv;rw [execOp_put oj hsj a oi.dst v h1] at h5;exact h5
  have hpn:=λn w'=>G4 (P:=P) (ρ:=a.eval) (o:=oj) (w:=w) (w':=w') (n:=n);generalize (execOp a.eval oj).run P w = r at *
  cases r with
  | ok n w' =>
   cases n
   case value u=>exact ⟨mF a hy u,λv hv=>by rw [<-pD a v u h2]; exact hl2 v hv⟩
   case skip=>exact ⟨mF a hy _,λv hv=>by rw [<-pD a v undef h2]; exact hl2 v hv⟩
   all_goals
    rcases hpl with hpl | ⟨vv,hvv⟩
    ·rcases hpn _ _ hpl rfl with ⟨v,hv⟩ | hv <;> cases hv
   case enter.inr f args =>
    have h5:=hl2 v0 hv0;simp only [mJ] at h5 ⊢;refine Calls.mono h5 λe w'' he=>?_
    cases e with
    | returned u=>exact ⟨mF a hy u,λv hv=>by rw [hvv v hv,<-hvv v0 hv0,<-pD a v0 u h2]; exact he⟩
    | panicked c=>exact hQ _ _ _ _ _ he
    | outgrown=>exact he
   case row.inr row args =>
    have h5:=hl2 v0 hv0;simp only [mJ] at h5 ⊢;exact Rows.mono h5 λu w'' he=>⟨mF a hy u,λv hv=>by rw [hvv v hv,<-hvv v0 hv0,<-pD a v0 u h2]; exact he⟩
   case defer.inr d =>
    refine ⟨mF _ (keepD d) _,λv hv=>?_⟩;have h5:=hl2 v hv;simp only [mJ] at h5;rw [<-pD _ v undef h2,<-Act.put_defers];exact h5
   all_goals
    have h5:=hl2 v0 hv0;simp only [mJ] at h5
  | halt x w' =>
   have h5:=hl2 v0 hv0
   cases x <;> simp only [mJ] at h5 ⊢
   case panic u=>exact hQ _ _ _ _ _ h5
 ·rename_i hw
  refine ⟨mF a hy _,λv hv=>?_⟩;have h5:=h v hv;rw [hwt v] at h5;simp only [hw] at h5;rw [<-pD a v undef h2]
  simpa using h5
def iM (md : fM) (ops : Array Oper) : Nat -> Nat -> Nat -> Bool
  | 0,_,_=>false
  | f + 1,j,i=>match ops[j]? with
    | none=>false
    | some oj=>oj.after.any λe=>eN md e && (e.on == i || iM md ops f e.on i)
def iQ (md : fM) (ops : Array Oper) (listed : Array Bool) : Prop :=
  ∀ j oj,ops[j]? = some oj -> listed.getD j false = true -> ∀ e ∈ oj.after,eN md e = true -> listed.getD e.on false = true
theorem iQ.waits {listed : Array Bool} (hc : iQ md ops listed) : ∀ (f j i : Nat) (oj : Oper),ops[j]? = some oj -> (∀ e ∈ oj.after,eN md e = true -> listed.getD e.on false = true) ->
  iM md ops f j i = true -> listed.getD i false = true
 | 0,_,_,_,_,_,h=>by cases h
 | f + 1,j,i,oj,hj,hl,h=>by
  unfold iM at h
  rw [hj] at h;obtain ⟨e,he,hb⟩:=fK.1 h;simp only [aW,fO,beq_iff_eq] at hb;obtain ⟨hb1,hb2⟩:=hb;have h1:=hl e he hb1
  rcases hb2 with hb2 | hb2
  ·rw [<-hb2]; exact h1
  ·cases ho : ops[e.on]? with
   | none =>
    cases f with
    | zero=>cases hb2
    | succ f=>unfold iM at hb2; rw [ho] at hb2; cases hb2
   | some oe=>exact iQ.waits hc f e.on i oe ho (hc e.on oe ho h1) hb2
theorem iQ.set {listed : Array Bool} (hc : iQ md ops listed) {i : Nat} (hi : i ∈ bC md ops listed) : iQ md ops (listed.setIfInBounds i true):=by
 obtain ⟨_,oi,hoi,hall⟩:=mem_ready.1 hi
 intro j oj hj hl e he hb
 by_cases hij : i = j
 ·subst hij
  obtain rfl : oj = oi:=fV (hj.symm.trans hoi);exact getD_set_true (hall e he hb)
 ·rw [getD_set_ne false hij] at hl
  exact getD_set_true (hc j oj hj hl e he hb)
theorem iQ.none (n : Nat) : iQ md ops (bE n false):=λj _ _ hl=>by
 rw [getD_replicate_false] at hl
 cases hl
def lP (P : Program) (md : fM) (ops : Array Oper) (C0 : World -> Prop) (Q : Exit -> Act -> World -> Prop) (n m : Nat) : Nat -> World -> Array Bool -> Act -> Prop
  | 0,w0,listed,a=>(∀ j ∈ bC md ops listed,∀ i,i < n -> iM md ops ops.size j i = true) /\ ∀ w,Below w0.heap.size w0 w -> wpAny P md ops Q m listed a w
  | fuel + 1,w0,listed,a =>
    bC md ops listed ≠ [] /\
    ∀ i ∈ bC md ops listed,∀ w,Below w0.heap.size w0 w -> wpOp P ops Q i (λa' w'=>C0 w' /\ lP P md ops C0 Q n m fuel w' (listed.setIfInBounds i true) a') a w
theorem AW {n m fuel : Nat} {w0 w1 : World} {listed : Array Bool} {a : Act} (hb : Below w0.heap.size w0 w1) (h : lP P md ops C0 Q n m fuel w0 listed a) : lP P md ops C0 Q n m fuel w1 listed a:=by
 cases fuel with
 | zero=>exact ⟨h.1,λw hw=>h.2 w (hb.trans (hw.mono hb.size))⟩
 | succ fuel=>exact ⟨h.1,λi hi w hw=>h.2 i hi w (hb.trans (hw.mono hb.size))⟩
theorem qC {n m : Nat} : ∀ (fuel : Nat) (listed : Array Bool) (a : Act) (w : World),lP P md ops C0 Q n m fuel w listed a -> wpAny P md ops Q (m + fuel) listed a w
 | 0,_,_,w,h=>h.2 w (Below.refl _ _)
 | fuel + 1,_,_,w,h=>⟨λh0=>absurd h0 h.1,λi hi=>wpOp_mono (λa' w' h'=>qC fuel _ a' w' h'.2) (h.2 i hi w (Below.refl _ _))⟩
theorem lU {i : Nat} {listed : Array Bool} (hi : i ∈ bC md ops listed) : listed.getD i false = false:=getD_both (mem_ready.1 hi).1
theorem EN {n m i F : Nat} {oi : Oper} {V : Value -> Prop} (hcl : ∀ w w',C0 w -> Below w.heap.size w w' -> C0 w') (hin : i < n) (hi : ops[i]? = some oi) (hsel : ∀ (j : Nat) (o : Oper) cs b,ops[j]? = some o -> o.op ≠ .select cs b)
  (hQ : ∀ c a d v w,Q (.panic c) (a.put d v) w -> Q (.panic c) a w) :
  ∀ (fuel : Nat) (w0 : World) (listed : Array Bool) (a : Act),C0 w0 -> iQ md ops listed ->
   (∀ j oj,ops[j]? = some oj -> j ≠ i -> listed.getD j true = false -> (∀ e ∈ oj.after,eN md e = true -> e.on ≠ i) -> oi.apart ops oj = true) ->
   ((∃ v,∀ u,V u -> u = v) \/ ∀ j oj,ops[j]? = some oj -> j ≠ i -> listed.getD j true = false -> j4 oj.op = true \/ iM md ops F j i = true) ->
   i ∈ bC md ops listed -> jA P ops C0 oi V a ->
   (∀ v,V v -> lP P md ops C0 Q n m fuel w0 (listed.setIfInBounds i true) (a.put oi.dst v)) -> lP P md ops C0 Q n m (fuel + 1) w0 listed a:=by
 intro fuel
 induction fuel with
 | zero =>
  intro w0 listed a hC hcs _ _ hr hy H
  refine ⟨λh=>(by rw [h] at hr; cases hr),λj hj w hw=>?_⟩
  by_cases hji : j = i
  ·subst hji; exact hy.wpOp hi (hcl w0 w hC hw) λv w' hv hw'=>⟨hcl w w' (hcl w0 w hC hw) hw',AW (hw.trans (hw'.mono hw.size)) (H v hv)⟩
  ·obtain ⟨v,hv⟩:=hy.any hC
   have h1:=(H v hv).1 j (ready_mono hj hji) i hin;obtain ⟨_,oj,hoj,hall⟩:=mem_ready.1 hj;have h6:=hcs.waits _ j i oj hoj hall h1;rw [lU hr] at h6
   cases h6
 | succ fuel ih =>
  intro w0 listed a hC hcs hfree hpl hr hy H
  refine ⟨λh=>(by rw [h] at hr; cases hr),λj hj w hw=>?_⟩
  by_cases hji : j = i
  ·subst hji; exact hy.wpOp hi (hcl w0 w hC hw) λv w' hv hw'=>⟨hcl w w' (hcl w0 w hC hw) hw',AW (hw.trans (hw'.mono hw.size)) (H v hv)⟩
  ·obtain ⟨hjun,oj,hoj,hall⟩:=mem_ready.1 hj
   have hnot : ∀ e ∈ oj.after,eN md e = true -> e.on ≠ i:=λe he hb heq=>by
    have h1:=hall e he hb;rw [heq,lU hr] at h1
    cases h1
   have hpj : j4 oj.op = true \/ ∃ v,∀ u,V u -> u = v:=by
    rcases hpl with hpl | hpl
    ·exact .inr hpl
    ·rcases hpl j oj hoj hji hjun with h5 | h5
     ·exact .inl h5
     ·have h6:=hcs.waits F j i oj hoj hall h5
      rw [lU hr] at h6
      cases h6
   have h2:=Ae hoj (hfree j oj hoj hji hjun hnot) (λcs b=>hsel i oi cs b hi) (λcs b=>hsel j oj cs b hoj) (hy.any hC) hpj hQ hy
    (λv hv=>(H v hv).2 j (ready_mono hj hji) w hw)
   have hun' : ∀ k,(listed.setIfInBounds j true).getD k true = false -> listed.getD k true = false:=λk hun=>by
    by_cases hjk : j = k
    ·subst hjk; exact hjun
    ·rw [getD_set_ne true hjk] at hun; exact hun
   refine wpOp_mono (λa' w' h3=>?_) h2;obtain ⟨hy',h4⟩:=h3;obtain ⟨v0,hv0⟩:=hy.any hC;have hC':=(h4 v0 hv0).1;refine ⟨hC',ih w' (listed.setIfInBounds j true) a' hC' (hcs.set hj) (λk ok hk hki hun hno=>hfree k ok hk hki (hun' k hun) hno) (hpl.imp id λhpl k ok hk hki hun=>hpl k ok hk hki (hun' k hun)) (ready_mono hr (Ne.symm hji)) hy' λv hv=>?_⟩;rw [Array.setIfInBounds_comm _ _ hji];exact (h4 v hv).2
def marks : Nat -> Nat -> Array Bool -> Array Bool
  | 0,_,listed=>listed
  | n + 1,k,listed=>marks n (k + 1) (listed.setIfInBounds k true)
def BK (md : fM) (ops : Array Oper) (listed : Array Bool) (k : Nat) : Bool :=
  match ops[k]? with
  | none=>true
  | some ok=>j4 ok.op || (tT ops.size).all λj=>j == k || listed.getD j true || iM md ops ops.size j k || match ops[j]? with
    | some oj=>j4 oj.op
    | none=>true
theorem E0 {listed : Array Bool} {k : Nat} {ok : Oper} (hk : ops[k]? = some ok) (hp : j4 ok.op = false) (h : BK md ops listed k = true) (j : Nat) (oj : Oper) (hj : ops[j]? = some oj) (hne : j ≠ k)
  (hun : listed.getD j true = false) : j4 oj.op = true \/ iM md ops ops.size j k = true:=by
 unfold BK at h
 simp only [hk,hp,Bool.false_or,cL,lX] at h;have h1:=h j (dC.1 hj).1;simp only [hj,fO,beq_iff_eq,hne,false_or,hun,BD] at h1;exact h1.symm
def CQ (md : fM) (ops : Array Oper) : Nat -> Nat -> Array Bool -> Bool
  | 0,_,_=>true
  | fuel + 1,k,listed=>(bC md ops listed).contains k && Region.free md ops listed k && BK md ops listed k && CQ md ops fuel (k + 1) (listed.setIfInBounds k true)
def kP (md : fM) (ops : Array Oper) : Nat -> Nat -> Array Bool -> Bool
  | 0,_,listed=>(bC md ops listed).isEmpty
  | fuel + 1,k,listed=>decide (bC md ops listed = [k]) && kP md ops fuel (k + 1) (listed.setIfInBounds k true)
def EV (md : fM) (ops : Array Oper) (n : Nat) (listed : Array Bool) : Bool :=
  (bC md ops listed).all λj=>(tT n).all λi=>iM md ops ops.size j i
theorem oX {n m : Nat} (hcl : ∀ w w',C0 w -> Below w.heap.size w w' -> C0 w') (hs : tS ops = true) (hQ : ∀ c a d v w,Q (.panic c) (a.put d v) w -> Q (.panic c) a w) (fuel : Nat) (w0 : World) (hC : C0 w0) :
  ∀ (l : List Oper) (k : Nat) (listed : Array Bool) (a : Act),iQ md ops listed -> k + l.length <= n -> (∀ j,j < l.length -> l[j]? = ops[k + j]?) -> CQ md ops l.length k listed = true ->
  wpB P ops C0 (λa'=>lP P md ops C0 Q n m fuel w0 (marks l.length k listed) a') l a -> lP P md ops C0 Q n m (fuel + l.length) w0 listed a
 | [],_,_,_,_,_,_,_,h=>h
 | o :: l,k,listed,a,hcs,hn,hl,hB,h=>by
  have h0 : ops[k]? = some o:=by simpa using (hl 0 (by simp)).symm
  simp only [cC] at hn;simp only [cC,CQ,aW] at hB;obtain ⟨⟨⟨hr,hf⟩,hsf⟩,hB'⟩:=hB
  have hr' : k ∈ bC md ops listed:=by simpa using hr
  have hy : ∃ V,jA P ops C0 o V a /\ ((∃ v,∀ u,V u -> u = v) \/ j4 o.op = false) /\ ∀ v,V v -> wpB P ops C0 (λa'=>lP P md ops C0 Q n m fuel w0 (marks (l.length + 1) k listed) a') l (a.put o.dst v):=by
   by_cases hw : aN o (yielded ops a.tmps) = true
   ·simp only [wpB,hw,if_true,cC] at h
    rcases h with ⟨v,h1,h2⟩ | ⟨hp,V,h1,h2⟩
    ·exact ⟨(· = v),.inl ⟨hw,h1⟩,.inl ⟨v,λ_ hu=>hu⟩,λu hu=>by rw [hu]; exact h2⟩
    ·exact ⟨V,.inl ⟨hw,h1⟩,.inr (Ph hp),h2⟩
   ·simp only [wpB,hw,cC] at h
    exact ⟨(· = undef),.inr ⟨by simpa using hw,rfl⟩,.inl ⟨undef,λ_ hu=>hu⟩,λu hu=>by rw [hu]; simpa using h⟩
  obtain ⟨V,hy,hV,hK⟩:=hy;rw [cC,<-dO]
  exact EN hcl (by omega) h0 (Region.noSelect_spec hs) hQ (fuel + l.length) w0 listed a hC hcs (Region.free_spec h0 hf) (hV.imp id λhp=>E0 h0 hp hsf) hr' hy λv hv =>
   oX hcl hs hQ fuel w0 hC l (k + 1) _ _ (hcs.set hr') (by omega) (λj hj=>by have:=hl (j + 1) (by simpa using hj); simpa [dO,uB 1 j] using this) hB' (hK v hv)
theorem kJ : ∀ (l : List Oper) (k : Nat) (listed : Array Bool) (a : Act) (w : World),(∀ j,j < l.length -> l[j]? = ops[k + j]?) -> kP md ops l.length k listed = true ->
  wpList P ops Q l a w -> wpAny P md ops Q l.length listed a w
 | [],_,_,_,_,_,hB,h=>⟨by simpa [kP] using hB,h⟩
 | o :: l,k,listed,a,w,hl,hB,h=>by
  have h0 : ops[k]? = some o:=by simpa using (hl 0 (by simp)).symm
  simp only [cC,kP,aW,decide_eq_true_eq] at hB;obtain ⟨hr,hB'⟩:=hB;refine ⟨λe=>(by rw [hr] at e; cases e),λi hi=>?_⟩;rw [hr,bK] at hi;subst hi
  have hl' : ∀ j,j < l.length -> l[j]? = ops[i + 1 + j]?:=λj hj=>by have:=hl (j + 1) (by simpa using hj); simpa [dO,uB 1 j] using this
  unfold wpOp
  simp only [h0]
  unfold wpList at h
  split
  ·rename_i hw
   simp only [hw,if_true] at h;exact h.imp (Oper.wp_mono λa' w' h'=>kJ l (i + 1) _ a' w' hl' hB' h') id
  ·rename_i hw
   simp only [hw] at h;exact kJ l (i + 1) _ _ _ hl' hB' (by simpa using h)
def nV (ops : Array Oper) (n : Nat) (k : Nat) (m : Nat) : Bool :=
  tS ops && CQ .any ops n 0 (bE ops.size false) && decide (ops.size = m + k + n) &&
    EV .any ops (k + n) (marks k n (marks n 0 (bE ops.size false))) && kP .any ops m (k + n) (marks k n (marks n 0 (bE ops.size false)))
theorem Gh {id : Nat} {a : Act} {w : World} {L T : List Oper} (C0 : World -> Prop) (hm : P.follows .mixedOrders = true) (hB : nV (L ++ T).toArray L.length 0 T.length = true)
  (hcl : ∀ w w',C0 w -> Below w.heap.size w w' -> C0 w') (hC : C0 w.drew) (hQ : ∀ c a d v w,Q (.panic c) (a.put d v) w -> Q (.panic c) a w)
  (h : wpB P (L ++ T).toArray C0 (λa'=>∀ w',C0 w' -> wpList P (L ++ T).toArray Q T a' w') L a) : (kB id (L ++ T).toArray true).wp P Q a w:=by
 simp only [nV,aW,decide_eq_true_eq,cK,fN,marks] at hB;obtain ⟨⟨⟨⟨hs,hh⟩,hz⟩,hsk⟩,hf⟩:=hB;refine wp_region_any hm ?_
 have hG : lP P .any (L ++ T).toArray C0 Q L.length T.length (0 + L.length) w.drew (bE (L ++ T).toArray.size false) a:=by
  refine oX hcl hs hQ 0 w.drew hC L 0 _ a (iQ.none _) (by omega) (λj hj=>by simp [lM hj]) hh ?_;refine kW (λa' h'=>⟨λj hj i hi=>?_,λw' hw'=>?_⟩) L a h
  ·have h1:=cL.1 hsk j hj
   exact cL.1 h1 i (lX.2 hi)
  ·exact kJ T L.length _ a' w' (λj _=>by simp [iL]) hf (h' w' (hcl _ _ hC hw'))
 have h2:=qC (0 + L.length) _ a w.drew hG;rw [cK,<-hz] at h2;exact h2
theorem xO {n m ia base fuel ty : Nat} {zs : Array Value} {w0 : World} {listed : Array Bool} {a : Act} {oa : Oper} (ho : ops[ia]? = some oa) (hg : oa.guard = none)
  (hrun : ∀ (a : Act) w,(execOp a.eval oa).run P w = .ok (.value (.pointer (some ⟨w.heap.size,0,none⟩))) (w.alloc (.cells zs ty)))
  (hcl : ∀ w w',C0 w -> Below w.heap.size w w' -> C0 w') (hb : ∀ w,C0 w -> base <= w.heap.size) (hC : C0 w0)
  (h : ∀ w,Below w0.heap.size w0 w -> C0 w -> base <= w.heap.size -> lP P md ops C0 Q n m fuel (w.alloc (.cells zs ty)) (listed.setIfInBounds ia true) (a.put oa.dst (.pointer (some ⟨w.heap.size,0,none⟩)))) :
  ∀ w,Below w0.heap.size w0 w -> wpOp P ops Q ia (λa' w'=>C0 w' /\ lP P md ops C0 Q n m fuel w' (listed.setIfInBounds ia true) a') a w:=by
 intro w hw
 unfold wpOp
 simp only [ho];rw [if_pos (by simp [aN,hg])];refine .inl ?_
 unfold nC
 rw [hrun];have hC1:=hcl w0 w hC hw;exact ⟨hcl w _ hC1 ((Below.refl w.heap.size w).alloc (aH _) (.cells zs ty)),h w hw hC1 (hb w hC1)⟩
theorem Blk.later {w w' : World} {g t : Nat} {cs : Array Value} (h : Blk w g t cs) (hb : Below w.heap.size w w') : Blk w' g t cs:=h.below hb h.lt
theorem Dt {id : Nat} {a : Act} {w : World} {L T : List Oper} {oa : Oper} (C0 : World -> Prop) (base ty : Nat) (zs : Array Value) (hm : P.follows .mixedOrders = true)
  (hB : nV (L ++ oa :: T).toArray L.length 1 T.length = true) (hr : bC .any (L ++ oa :: T).toArray (marks L.length 0 (bE (L ++ oa :: T).toArray.size false)) = [L.length])
  (hcl : ∀ w w',C0 w -> Below w.heap.size w w' -> C0 w') (hb : ∀ w,C0 w -> base <= w.heap.size) (hC : C0 w.drew) (hQ : ∀ c a d v w,Q (.panic c) (a.put d v) w -> Q (.panic c) a w)
  (hg : oa.guard = none) (hrun : ∀ (a : Act) w,(execOp a.eval oa).run P w = .ok (.value (.pointer (some ⟨w.heap.size,0,none⟩))) (w.alloc (.cells zs ty)))
  (h : wpB P (L ++ oa :: T).toArray C0 (λa'=>∀ p w',C0 w' -> base <= p -> Blk w' p ty zs -> wpList P (L ++ oa :: T).toArray Q T (a'.put oa.dst (.pointer (some ⟨p,0,none⟩))) w') L a) :
  (kB id (L ++ oa :: T).toArray true).wp P Q a w:=by
 simp only [nV,aW,decide_eq_true_eq] at hB;obtain ⟨⟨⟨⟨hs,hh⟩,hz⟩,hsk⟩,hf⟩:=hB;refine wp_region_any hm ?_
 have hG : lP P .any (L ++ oa :: T).toArray C0 Q (1 + L.length) T.length (1 + L.length) w.drew (bE (L ++ oa :: T).toArray.size false) a:=by
  refine oX hcl hs hQ 1 w.drew hC L 0 _ a (iQ.none _) (by omega) (λj hj=>by simp [lM hj]) hh ?_;refine kW (λa' h'=>⟨by rw [hr]; exact List.cons_ne_nil _ _,λi hi=>?_⟩) L a h;rw [hr,bK] at hi;subst hi;refine xO (base:=base) (by simp) hg hrun hcl hb hC λw1 hw1 hC1 hp=>⟨λj hj i hi=>?_,λw' hw'=>?_⟩
  ·have h1:=cL.1 hsk j hj
   exact cL.1 h1 i (lX.2 hi)
  ·have hal:=(Below.refl w1.heap.size w1).alloc (aH _) (.cells zs ty)
   exact kJ T (1 + L.length) _ _ w' (λj _=>by simp [iL,uB 1,dO]) hf (h' _ w' (hcl _ _ (hcl _ _ hC1 hal) hw') hp ((Blk.new w1 _ _).later hw'))
 have h2:=qC (1 + L.length) _ a w.drew hG;rw [<-dO,<-hz] at h2;exact h2
end
section
variable {P : Program} {ops : Array Oper} {C0 : World -> Prop} {Q : Act -> Prop} {a : Act} {o : Oper} {rest : List Oper}
theorem NW (h : ∀ K : Act -> Prop,(∀ a,wpB P ops C0 Q rest a -> K a) -> if aN o (yielded ops a.tmps) then ∃ v,(∀ w,C0 w -> pK P w (· = v) ((execOp a.eval o).run P w)) /\ K (a.put o.dst v) else K (a.put o.dst undef)) : wpB P ops C0 Q (o :: rest) a:=by
 have h1:=h _ (λ_ h=>h)
 unfold wpB
 split
 ·rename_i hw
  rw [if_pos hw] at h1;exact .inl h1
 ·rename_i hw
  rw [if_neg hw] at h1;exact h1
theorem Kl (hg : aN o (yielded ops a.tmps) = true) {v : Value} (h : ∀ w,C0 w -> atB P o a w (· = v)) (hk : wpB P ops C0 Q rest (a.put o.dst v)) : wpB P ops C0 Q (o :: rest) a :=
 NW λK hK=>by
  rw [if_pos hg];exact ⟨v,h,hK _ hk⟩
theorem k5 {v : Value} (hg : aN o (yielded ops a.tmps) = true) (h : ∀ w,C0 w -> (execOp a.eval o).run P w = .ok (.value v) w) (hk : wpB P ops C0 Q rest (a.put o.dst v)) : wpB P ops C0 Q (o :: rest) a :=
 Kl hg (λw hw=>by
  unfold atB
  rw [h w hw]
  exact ⟨rfl,rfl⟩) hk
theorem YP {t t' : TypeId} {x y : Operand} {q : Bool} (xs ys : Array Value) (hg : aN o (yielded ops a.tmps) = true) (ho : o.op = .binOp .eql t x y t') (hx : a.eval x = .agg xs) (hy : a.eval y = .agg ys)
  (hd : P.eqGuardType P.depth t = false) (he : ∀ w,(fH 10000 t (.agg xs) (.agg ys)).run P w = .ok q w) (hk : wpB P ops C0 Q rest (a.put o.dst (.bool q))) : wpB P ops C0 Q (o :: rest) a :=
 k5 hg (λw _=>by
  unfold execOp
  simp only [ho,hx,hy,aJ,run_eqGuard_agg (hm:=hd),aF,binOp,Op.equal,Op.maxDepth,he,aK]) hk
theorem Ru {f : FuncId} {args : Array Value} (V : Value -> Prop) (hg : aN o (yielded ops a.tmps) = true) (hp : CF o.op = true)
  (hc : ∀ w,C0 w -> Calls P f args w (λe w'=>∃ v,e = .returned v /\ V v /\ Below w.heap.size w w')) (he : ∀ w,(execOp a.eval o).run P w = .ok (.enter f args) w) (hk : ∀ v,V v -> wpB P ops C0 Q rest (a.put o.dst v)) : wpB P ops C0 Q (o :: rest) a:=by
 unfold wpB
 rw [if_pos hg];refine .inr ⟨hp,V,λw hw=>?_,hk⟩
 unfold atB
 rw [he];exact ⟨rfl,hc w hw⟩
theorem L1 {f : FuncId} {args : Array Value} {v : Value} (hg : aN o (yielded ops a.tmps) = true)
  (hc : ∀ w,C0 w -> Calls P f args w (λe w'=>e = .returned v /\ Below w.heap.size w w')) (he : ∀ w,(execOp a.eval o).run P w = .ok (.enter f args) w) (hk : wpB P ops C0 Q rest (a.put o.dst v)) : wpB P ops C0 Q (o :: rest) a :=
 Kl hg (λw hw=>by
  unfold atB
  rw [he]
  exact ⟨rfl,(hc w hw).mono λe w' ⟨h1,h2⟩=>⟨v,h1,rfl,h2⟩⟩) hk
theorem zU (hg : aN o (yielded ops a.tmps) = true) (ty : TypeId) (x : Operand) (ho : o.op = .load ty x) (b off : Nat) (hx : a.eval x = .pointer (some ⟨b,off,none⟩)) (cs : List Value) (d : TypeDesc)
  (hc : ∀ w,C0 w -> w.rangeAt b off cs) (hu : P.underlying ty = some d) (hd : d.isRow = true) (hi : (P.info? ty).map (·.size) = some cs.length)
  (hk : wpB P ops C0 Q rest (a.put o.dst (.agg cs.toArray))) : wpB P ops C0 Q (o :: rest) a :=
 Kl hg (λw hw=>by
  unfold atB execOp
  simp only [ho,hx,Instr.loadAt,rL,aJ,aK,aF,run_loadVar_mid w b off ty cs d (hc w hw) hu hd hi]
  exact ⟨rfl,rfl⟩) hk
end
theorem Blk.range {w : World} {g t : Nat} {l : List Value} (h : Blk w g t l.toArray) : w.rangeAt g 0 l:=λj v hv=>by
 rw [cK,h.cell j]
 simpa using hv
theorem Blk.part {w : World} {g t : Nat} {l : List Value} (h : Blk w g t l.toArray) (o n : Nat) : w.rangeAt g o ((l.drop o).take n):=λj v hv=>by
 rw [h.cell (o + j)];rw [iJ] at hv
 split at hv
 ·rw [BC] at hv
  simpa using hv
 ·cases hv
section
variable {P : Program} {Q : Exit -> Act -> World -> Prop} {id : Nat} {a : Act} {w : World} {l : List Oper}
theorem Q7 {oa : Oper} {n : Nat} (h : l[n]? = some oa) : l = l.take n ++ oa :: l.drop (n + 1) /\ (l.take n).length = n:=by
 obtain ⟨hn,rfl⟩:=dI.1 h;refine ⟨?_,by rw [aY]; omega⟩;rw [<-mK hn,dR]
theorem yV (n : Nat) (C0 : World -> Prop) (hn : n <= l.length) (hm : P.follows .mixedOrders = true) (hB : nV l.toArray n 0 (l.drop n).length = true)
  (hcl : ∀ w w',C0 w -> Below w.heap.size w w' -> C0 w') (hC : C0 w.drew) (hQ : ∀ c a d v w,Q (.panic c) (a.put d v) w -> Q (.panic c) a w)
  (h : wpB P l.toArray C0 (λa'=>∀ w',C0 w' -> wpList P l.toArray Q (l.drop n) a' w') (l.take n) a) : (kB id l.toArray true).wp P Q a w:=by
 have e : l = l.take n ++ l.drop n:=(dR n l).symm
 have hL : (l.take n).length = n:=by rw [aY]; omega
 generalize l.take n = L at *;generalize l.drop n = T at *;subst e;exact Gh C0 hm (by rw [hL]; exact hB) hcl hC hQ h
theorem Js {oa : Oper} (n : Nat) (C0 : World -> Prop) (base ty : Nat) (zs : Array Value) (hoa : l[n]? = some oa) (hm : P.follows .mixedOrders = true)
  (hB : nV l.toArray n 1 (l.drop (n + 1)).length = true) (hr : bC .any l.toArray (marks n 0 (bE l.toArray.size false)) = [n])
  (hcl : ∀ w w',C0 w -> Below w.heap.size w w' -> C0 w') (hb : ∀ w,C0 w -> base <= w.heap.size) (hC : C0 w.drew) (hQ : ∀ c a d v w,Q (.panic c) (a.put d v) w -> Q (.panic c) a w)
  (hg : oa.guard = none) (hrun : ∀ (a : Act) w,(execOp a.eval oa).run P w = .ok (.value (.pointer (some ⟨w.heap.size,0,none⟩))) (w.alloc (.cells zs ty)))
  (h : wpB P l.toArray C0 (λa'=>∀ p w',C0 w' -> base <= p -> Blk w' p ty zs -> wpList P l.toArray Q (l.drop (n + 1)) (a'.put oa.dst (.pointer (some ⟨p,0,none⟩))) w') (l.take n) a) :
  (kB id l.toArray true).wp P Q a w:=by
 obtain ⟨e,hL⟩:=Q7 hoa;clear hoa;generalize l.take n = L at *;generalize l.drop (n + 1) = T at *;subst e;subst hL;exact Dt C0 base ty zs hm hB hr hcl hb hC hQ hg hrun h
end
section
variable {P : Program} {Q : Exit -> Act -> World -> Prop} {id : Nat} {a : Act} {w : World} {l : List Oper}
def Up (w w' : World) : Prop:=Below w.heap.size w w'
theorem Up.refl (w : World) : Up w w:=Below.refl _ _
theorem Up.drew (w : World) : Up w w.drew:=(Below.refl _ _).drew
theorem Up.step {w w1 w2 : World} (h : Up w w1) (k : Below w1.heap.size w1 w2) : Up w w2:=Below.trans h (k.mono h.size)
theorem Up.blk {w w1 : World} {g t : Nat} {cs : Array Value} (h : Up w w1) (k : Blk w g t cs) : Blk w1 g t cs:=k.later h
theorem Up.alloc {w w1 : World} (h : Up w w1) (o : Obj) : Up w (w1.alloc o):=h.step ((Below.refl _ _).alloc (aH _) _)
theorem bA {w W W' : World} (h : Below w.heap.size w W) (k : Up W W') : Below w.heap.size w W':=Below.trans h (Below.mono k h.size)
theorem p9 {P : Program} {c : Code} {Q : Exit -> Act -> World -> Prop} {a : Act} {w0 : World} (F : World -> Prop) (h0 : F w0) (h : ∀ W,F W -> c.wp P Q a W) : c.wp P Q a w0:=h w0 h0
theorem lO {ops : Array Oper} {T : List Oper} : ∀ (L : List Oper) (a : Act) (w w0 : World),Up w0 w -> wpB P ops (Up w0) (λa'=>∀ w',Up w0 w' -> wpList P ops Q T a' w') L a -> wpList P ops Q (L ++ T) a w
 | [],a,w,w0,hw,h=>h w hw
 | o :: L,a,w,w0,hw,h=>by
  have key : ∀ V : Value -> Prop,atB P o a w V -> (∀ v w',V v -> Below w.heap.size w w' -> wpList P ops Q (L ++ T) (a.put o.dst v) w') -> o.wp P a w (wpList P ops Q (L ++ T)) Q:=λV h3 hk=>by
   unfold atB at h3
   unfold nC
   generalize (execOp a.eval o).run P w = r at *
   cases r with
   | ok n w' =>
    cases n <;> simp only [pK] at h3 <;> simp only [mJ]
    case value u =>
     obtain ⟨e1,e2⟩:=h3;rw [e1];exact hk _ _ e2 (Below.refl _ _)
    case skip =>
     obtain ⟨e1,e2⟩:=h3;rw [e1];exact hk _ _ e2 (Below.refl _ _)
    case enter f args =>
     obtain ⟨e1,hc⟩:=h3;rw [e1]
     exact hc.mono λe w'' ⟨v,he,hv,hw''⟩=>by subst he; exact hk _ _ hv hw''
   | halt x w'=>simp only [pK] at h3
  show wpList P ops Q (o :: (L ++ T)) a w
  unfold wpB at h
  unfold wpList
  split
  ·rename_i hwt
   rw [if_pos hwt] at h;refine .inl ?_
   rcases h with ⟨v,h1,h2⟩ | ⟨_,V,h1,h2⟩
   ·exact key (· = v) (h1 w hw) λu w' hu hw'=>by rw [hu]; exact lO L _ w' w0 (hw.step hw') h2
   ·exact key V (h1 w hw) λu w' hu hw'=>lO L _ w' w0 (hw.step hw') (h2 u hu)
  ·rename_i hwt
   rw [if_neg hwt] at h;exact lO L _ w w0 hw h
theorem yW (hm : P.follows .mixedOrders = true) (hB : nV l.toArray l.length 0 0 = true) (hQ : ∀ c a d v w,Q (.panic c) (a.put d v) w -> Q (.panic c) a w)
  (h : wpB P l.toArray (Up w) (λa'=>∀ w',Up w w' -> Q .normal a' w') l a) : (kB id l.toArray true).wp P Q a w :=
 yV (l:=l) l.length (Up w) (aH _) hm (by rw [List.drop_length]; exact hB) (λ_ _ h k=>h.step k) (Up.drew w) hQ (by rw [List.drop_length,List.take_length]; exact h)
theorem Fb (h : wpB P l.toArray (Up w) (λa'=>∀ w',Up w w' -> Q .normal a' w') l a) : (kB id l.toArray false).wp P Q a w:=by
 refine wp_region_lit ?_;have h1:=lO (Q:=Q) (T:=[]) l a w w (Up.refl w) h
 rwa [bV] at h1
theorem D2 (n : Nat) (h : wpB P l.toArray (Up w) (λa'=>∀ w',Up w w' -> wpList P l.toArray Q (l.drop n) a' w') (l.take n) a) : (kB id l.toArray false).wp P Q a w:=by
 refine wp_region_lit ?_;have h1:=lO (Q:=Q) (T:=l.drop n) (l.take n) a w w (Up.refl w) h
 rwa [dR] at h1
def I6 (P : Program) (Q : Exit -> Act -> World -> Prop) (w : World) (t : Tmp) (ty : TypeId) (x : Operand) (n : Nat) (a' : Act) : Prop :=
  ∃ cells : Array Value,(∀ v,(a'.put (some t) v).eval (.tmp t) = v) /\ (∀ v,(a'.put (some t) v).eval x = .agg cells) /\ n = cells.size /\ (P.info? ty).map (·.size) = some cells.size /\ (∀ v ∈ cells.toList,v.oneCell' = true) /\
    ∀ g w',w.heap.size <= g -> Up w w' -> Blk w' g ty cells -> Q .normal (a'.put (some t) (.pointer (some ⟨g,0,none⟩))) w'
theorem cT {w w1 : World} {g : Nat} (h : Up w w1) (hg : w.heap.size <= g) (cs : Array Value) : Up w (w1.setRow g cs):=below_setRow h hg _
theorem KC {ops : Array Oper} {w w1 : World} {a' : Act} {t : Tmp} {ty : TypeId} {x : Operand} {os : Oper} {zs : Array Value} (hop : os.op = .store ty (.tmp t) x) (hsg : os.guard = none) (hsd : os.dst = none)
  {g : Nat} (hg : w.heap.size <= g) (hw : Up w w1) (hb : Blk w1 g ty zs) (h : I6 P Q w t ty x zs.size a') : wpList P ops Q [os] (a'.put (some t) (.pointer (some ⟨g,0,none⟩))) w1:=by
 obtain ⟨cells,h1,h2,hz,hi,ho,hk⟩:=h;refine wpList_store_row hsg ty (.tmp t) x hop g (h1 _) cells (h2 _) ty zs hb hi hz ho ?_;rw [hsd];exact hk g _ hg (cT hw hg _) (hb.row _)
theorem nF {oa os : Oper} (n : Nat) (t : Tmp) (ty : TypeId) (x : Operand) (zs : Array Value) (hoa : l[n]? = some oa) (hos : l.drop (n + 1) = [os]) (hop : os.op = .store ty (.tmp t) x) (hsg : os.guard = none) (hsd : os.dst = none)
  (hag : oa.guard = none) (had : oa.dst = some t) (hm : P.follows .mixedOrders = true)
  (hB : nV l.toArray n 1 1 = true) (hr : bC .any l.toArray (marks n 0 (bE l.toArray.size false)) = [n])
  (hQ : ∀ c a d v w,Q (.panic c) (a.put d v) w -> Q (.panic c) a w)
  (hrun : ∀ (a : Act) w,(execOp a.eval oa).run P w = .ok (.value (.pointer (some ⟨w.heap.size,0,none⟩))) (w.alloc (.cells zs ty)))
  (h : wpB P l.toArray (Up w) (I6 P Q w t ty x zs.size) (l.take n) a) : (kB id l.toArray true).wp P Q a w:=by
 refine Js n (Up w) w.heap.size ty zs hoa hm (by rw [hos]; exact hB) hr (λ_ _ h k=>h.step k) (λ_ h=>h.size) (Up.drew w) hQ hag hrun ?_;rw [hos,had];exact kW (λa' h' g w' hw' hg hb=>KC hop hsg hsd hg hw' hb h') _ _ h
theorem sE {oa os : Oper} (n : Nat) (t : Tmp) (ty : TypeId) (x : Operand) (zs : Array Value) (hoa : l[n]? = some oa) (hos : l.drop (n + 1) = [os]) (hop : os.op = .store ty (.tmp t) x) (hsg : os.guard = none) (hsd : os.dst = none)
  (hag : oa.guard = none) (had : oa.dst = some t)
  (hrun : ∀ (a : Act) w,(execOp a.eval oa).run P w = .ok (.value (.pointer (some ⟨w.heap.size,0,none⟩))) (w.alloc (.cells zs ty)))
  (h : wpB P l.toArray (Up w) (I6 P Q w t ty x zs.size) (l.take n) a) : (kB id l.toArray false).wp P Q a w:=by
 refine wp_region_lit ?_;obtain ⟨e,_⟩:=Q7 hoa
 have h1 : wpList P l.toArray Q (l.take n ++ oa :: l.drop (n + 1)) a w:=by
  refine lO (l.take n) a w w (Up.refl w) (kW (λa' h' w' hw'=>?_) _ _ h);rw [hos]
  unfold wpList
  rw [if_pos (by simp [aN,hag])];refine .inl ?_
  unfold nC
  rw [hrun];simp only [mJ];rw [had];exact KC hop hsg hsd hw'.size (hw'.alloc _) (Blk.new w' _ _) h'
 rwa [<-e] at h1
def Ji (P : Program) (Q : Exit -> Act -> World -> Prop) (w : World) (p : Operand) (ty : TypeId) (x : Operand) (a' : Act) : Prop :=
  ∃ (g : Nat) (old cells : Array Value),a'.eval p = .pointer (some ⟨g,0,none⟩) /\ a'.eval x = .agg cells /\ Blk w g ty old /\ old.size = cells.size /\ (P.info? ty).map (·.size) = some cells.size /\ (∀ v ∈ cells.toList,v.oneCell' = true) /\
    ∀ w',Up w w' -> Q .normal a' (w'.setRow g cells)
theorem KN {ops : Array Oper} {w w1 : World} {a' : Act} {p : Operand} {ty : TypeId} {x : Operand} {os : Oper} (hop : os.op = .store ty p x) (hsg : os.guard = none) (hsd : os.dst = none)
  (hw : Up w w1) (h : Ji P Q w p ty x a') : wpList P ops Q [os] a' w1:=by
 obtain ⟨g,old,cells,h1,h2,hb,hz,hi,ho,hk⟩:=h;refine wpList_store_row hsg ty p x hop g h1 cells h2 ty old (hw.blk hb) hi hz ho ?_;rw [hsd];exact hk _ hw
theorem vZ {os : Oper} (n : Nat) (p : Operand) (ty : TypeId) (x : Operand) (hos : l.drop n = [os]) (hop : os.op = .store ty p x) (hsg : os.guard = none) (hsd : os.dst = none) (hm : P.follows .mixedOrders = true)
  (hB : nV l.toArray n 0 1 = true) (hQ : ∀ c a d v w,Q (.panic c) (a.put d v) w -> Q (.panic c) a w)
  (h : wpB P l.toArray (Up w) (Ji P Q w p ty x) (l.take n) a) : (kB id l.toArray true).wp P Q a w:=by
 have hn : n <= l.length:=by
  have h1:=congrArg List.length hos;simp only [fW,cC,List.length_nil] at h1
  omega
 refine yV n (Up w) hn hm (by rw [hos]; exact hB) (λ_ _ h k=>h.step k) (Up.drew w) hQ ?_;rw [hos];exact kW (λa' h' w' hw'=>KN hop hsg hsd hw' h') _ _ h
theorem Cl {os : Oper} (n : Nat) (p : Operand) (ty : TypeId) (x : Operand) (hos : l.drop n = [os]) (hop : os.op = .store ty p x) (hsg : os.guard = none) (hsd : os.dst = none)
  (h : wpB P l.toArray (Up w) (Ji P Q w p ty x) (l.take n) a) : (kB id l.toArray false).wp P Q a w:=by
 refine wp_region_lit ?_;have h1 : wpList P l.toArray Q (l.take n ++ [os]) a w:=lO (l.take n) a w w (Up.refl w) (kW (λa' h' w' hw'=>KN hop hsg hsd hw' h') _ _ h)
 rwa [<-hos,dR] at h1
end
theorem Nh {α : Type} (V A O Z : List α) (m k : Nat) (hm : m + k = A.length) (hl : O.length = V.length) :
  (V.zipIdx k).foldl (λ(cs : Array α) (p : α × Nat)=>cs.setIfInBounds (m + p.2) p.1) (A ++ (O ++ Z)).toArray = (A ++ (V ++ Z)).toArray:=by
 induction V generalizing A O k with
 | nil =>
  obtain rfl : O = []:=List.eq_nil_of_length_eq_zero hl
  rfl
 | cons c V ih =>
  obtain ⟨o,O,rfl⟩ : ∃ o O',O = o :: O':=by
   cases O with
   | nil=>simp at hl
   | cons o O=>exact ⟨o,O,rfl⟩
  rw [List.zipIdx_cons,List.foldl_cons]
  have e : ((A ++ (o :: O ++ Z)).toArray.setIfInBounds (m + k) c) = (A ++ [c] ++ (O ++ Z)).toArray:=by
   rw [hm]
   simp
  rw [e,ih (A ++ [c]) O (k + 1) (by simp; omega) (by simpa using hl)]
  simp
theorem lV (place : Nat -> Option (Nat × Nat)) (i n : Nat) (A O Z V : List Value) (rest : List (Nat × Value)) (hp : place i = some (A.length,n)) (hV : V.length = n) (hO : O.length = n) :
  gN place (A ++ (O ++ Z)).toArray ((i,.agg V.toArray) :: rest) = gN place (A ++ (V ++ Z)).toArray rest:=by
 rw [gN];simp only [hp];rw [if_neg (by simp [DL,hV,hO])]
 congr 1
 have h:=Nh V A O Z A.length 0 rfl (by rw [hV,hO]);rw [<-h]
 simp [DL,Array.zipIdx,List.mapIdx_eq_zipIdx_map]
theorem Dc {P : Program} {t : TypeId} {z : Array Value} {pl : List (Nat × Nat)} {parts : List (Nat × Value)}
  (h : (match P.info? t,P.underlying t with
   | some it,some (.struct fields)=>(match it.zero,fields.toList.mapM (λf=>(P.info? f.type).map λi=>(f.offset,i.size)) with
    | some z,some places=>some (z.cells,places)
    | _,_=>none)
   | _,_=>none) = some (z,pl)) : P.built t parts = gN (pl.toArray[·]?) z parts:=by
 unfold Program.built
 cases hi : P.info? t with
 | none=>simp [hi] at h
 | some it =>
  cases hu : P.underlying t with
  | none=>simp [hi,hu] at h
  | some d =>
   cases d <;> simp only [hi,hu] at h <;> try (cases h; done)
   case struct fields =>
    simp only []
    cases hz : it.zero with
    | none=>simp [hz] at h
    | some z' =>
     cases hp : fields.toList.mapM (λf=>(P.info? f.type).map λi=>(f.offset,i.size)) with
     | none=>simp [hz,hp] at h
     | some places =>
      simp only [hz,hp] at h
      injection h with h
      injection h with h1 h2
      rw [<-h1,<-h2]
section
variable {P : Program} {ops : Array Oper} {C0 : World -> Prop} {Q : Act -> Prop} {a : Act} {o : Oper} {rest : List Oper}
theorem tQ {t : TypeId} {parts : Array (Nat × Operand)} (vs : List (Nat × Value)) (cells : Array Value) (hg : aN o (yielded ops a.tmps) = true) (ho : o.op = .build t parts)
  (hv : (parts.toList.map λ(i,x)=>(i,a.eval x)) = vs) (hb : P.built t vs = some cells) (hk : wpB P ops C0 Q rest (a.put o.dst (.agg cells))) : wpB P ops C0 Q (o :: rest) a :=
 k5 hg (λw _=>by
  unfold execOp
  simp only [ho,aJ,run_build w t _ cells (by rw [sW,hv]; exact hb),aF,aK]) hk
theorem Rs {x : Operand} (hg : aN o (yielded ops a.tmps) = true) (ho : o.op = .move x) (hk : wpB P ops C0 Q rest (a.put o.dst (a.eval x))) : wpB P ops C0 Q (o :: rest) a :=
 k5 hg (λw _=>by
  unfold execOp
  simp only [ho,aK]) hk
theorem LZ {s : TypeId} {x : Operand} {f : Nat} (b off off' : Nat) (hg : aN o (yielded ops a.tmps) = true) (ho : o.op = .fieldAddr s x f) (hx : a.eval x = .pointer (some ⟨b,off,none⟩))
  (hr : ∀ w,(Instr.fieldAt s (.pointer (some ⟨b,off,none⟩)) f).run P w = .ok (.pointer (some ⟨b,off',none⟩)) w) (hk : wpB P ops C0 Q rest (a.put o.dst (.pointer (some ⟨b,off',none⟩)))) : wpB P ops C0 Q (o :: rest) a :=
 k5 hg (λw _=>by
  unfold execOp
  simp only [ho,hx,aJ,hr,aF,aK]) hk
end
theorem A6 {P : Program} (ty : TypeId) (cs : Array Value) (w : World) : (Instr.box ty (.agg cs)).run P w = .ok (.pointer (some ⟨w.heap.size,0,none⟩)) (w.alloc (.cells cs ty)):=by
 simp [Instr.box,newVar,newRow,DL]
theorem Jo {P : Program} {ty : TypeId} {zs : Array Value} (h : (P.info? ty).bind (λi=>i.zero.map (·.cells)) = some zs) (old : Value) (w : World) :
  (Instr.alloc ty true old).run P w = .ok (.pointer (some ⟨w.heap.size,0,none⟩)) (w.alloc (.cells zs ty)):=by
 cases hi : P.info? ty with
 | none=>simp [hi] at h
 | some i =>
  cases hz : i.zero with
  | none=>simp [hi,hz] at h
  | some z =>
   simp only [hi,Option.bind_some,hz,Option.map_some] at h
   injection h with h
   subst h
   simp [Instr.alloc,zeroValue,typeInfo,hi,hz,newVar,newRow]
theorem dE {P : Program} {o : Oper} {ty : TypeId} {zs : Array Value} (ho : o.op = .alloc ty) (h : (P.info? ty).bind (λi=>i.zero.map (·.cells)) = some zs) (a : Act) (w : World) :
  (execOp a.eval o).run P w = .ok (.value (.pointer (some ⟨w.heap.size,0,none⟩))) (w.alloc (.cells zs ty)):=by
 obtain ⟨dst,op,t,pos,af,gd⟩:=o;simp only at ho;subst ho
 unfold execOp
 simp only [aJ,Jo h,aF,aK]
section
variable {P : Program} {ops : Array Oper} {rest : List Oper} {o : Oper} {a : Act} {w : World} {Q : Exit -> Act -> World -> Prop}
theorem dV {ty : TypeId} {zs : Array Value} (hg : o.guard = none) (ho : o.op = .alloc ty) (hz : (P.info? ty).bind (λi=>i.zero.map (·.cells)) = some zs)
  (h : wpList P ops Q rest (a.put o.dst (.pointer (some ⟨w.heap.size,0,none⟩))) (w.alloc (.cells zs ty))) : wpList P ops Q (o :: rest) a w :=
 wpList_plain hg λ_ hK=>by
  unfold nC
  rw [dE ho hz];exact hK _ _ h
theorem kI {ty : TypeId} {x : Operand} (cs : Array Value) (hg : o.guard = none) (ho : o.op = .box ty x) (hx : a.eval x = .agg cs)
  (h : wpList P ops Q rest (a.put o.dst (.pointer (some ⟨w.heap.size,0,none⟩))) (w.alloc (.cells cs ty))) : wpList P ops Q (o :: rest) a w :=
 wpList_plain hg λ_ hK=>by
  unfold nC execOp
  simp only [ho,hx,aJ,A6,aF,aK];exact hK _ _ h
theorem jN {x : Operand} (hg : o.guard = none) (ho : o.op = .assign x) (h : wpList P ops Q rest (a.put o.dst (a.eval x)) w) : wpList P ops Q (o :: rest) a w :=
 wpList_plain hg λ_ hK=>by
  unfold nC execOp
  simp only [ho,aK];exact hK _ _ h
theorem RY {v : Value} (hg : o.guard = none) (h : (execOp a.eval o).run P w = .ok (.value v) w) (hk : wpList P ops Q rest (a.put o.dst v) w) : wpList P ops Q (o :: rest) a w :=
 wpList_plain hg λ_ hK=>by
  unfold nC
  rw [h];exact hK _ _ hk
theorem vQ {t : TypeId} {parts : Array (Nat × Operand)} (vs : List (Nat × Value)) (cells : Array Value) (hg : o.guard = none) (ho : o.op = .build t parts)
  (hv : (parts.toList.map λ(i,x)=>(i,a.eval x)) = vs) (hb : P.built t vs = some cells) (hk : wpList P ops Q rest (a.put o.dst (.agg cells)) w) : wpList P ops Q (o :: rest) a w :=
 RY hg (by
  unfold execOp
  simp only [ho,aJ,run_build w t _ cells (by rw [sW,hv]; exact hb),aF,aK]) hk
theorem dX (h : Q .normal a w) : wpList P ops Q [] a w:=h
end
section
variable {md : fM} {ops : Array Oper}
def lG (md : fM) (o : Oper) (i : Nat) : Bool:=o.after.any λe=>eN md e && e.on == i
theorem uL {f j i : Nat} {o : Oper} (hj : ops[j]? = some o) (h : lG md o i = true) : iM md ops (f + 1) j i = true:=by
 unfold iM
 rw [hj]
 unfold lG at h
 obtain ⟨e,he,hb⟩:=fK.1 h;simp only [aW,beq_iff_eq] at hb;exact fK.2 ⟨e,he,by simp [hb.1,hb.2]⟩
theorem I5 {f j m i : Nat} {o : Oper} (hj : ops[j]? = some o) (h : lG md o m = true) (hm : iM md ops f m i = true) : iM md ops (f + 1) j i = true:=by
 unfold iM
 rw [hj]
 unfold lG at h
 obtain ⟨e,he,hb⟩:=fK.1 h;simp only [aW,beq_iff_eq] at hb;exact fK.2 ⟨e,he,by simp [hb.1,hb.2,hm]⟩
theorem mV : ∀ {f g j i : Nat},f <= g -> iM md ops f j i = true -> iM md ops g j i = true
 | 0,_,_,_,_,h=>by cases h
 | f + 1,0,_,_,hle,_=>absurd hle (by omega)
 | f + 1,g + 1,j,i,hle,h=>by
  unfold iM at h ⊢
  cases ho : ops[j]? with
  | none=>rw [ho] at h; cases h
  | some o =>
   rw [ho] at h;obtain ⟨e,he,hb⟩:=fK.1 h;refine fK.2 ⟨e,he,?_⟩;simp only [aW,fO,beq_iff_eq] at hb ⊢;exact ⟨hb.1,hb.2.imp id (mV (by omega))⟩
def Fx (md : fM) (o : Oper) (i : Nat) : Bool:=o.after.any λe=>(match e.ground with
  | .chain=>true
  | _=>false) && (eN md e && e.on == i)
theorem FN {o : Oper} {i : Nat} (h : Fx md o i = true) : lG md o i = true:=by
 unfold Fx at h
 obtain ⟨e,he,hb⟩:=fK.1 h;simp only [aW] at hb;exact fK.2 ⟨e,he,by simp only [aW]; exact hb.2⟩
def chainB (md : fM) : List Oper -> Nat -> Option Nat -> Bool
  | [],_,_=>true
  | o :: l,k,prev=>if j4 o.op then chainB md l (k + 1) (match prev with
      | none=>none
      | some i=>if Fx md o i then some k else some i)
    else (match prev with
    | none=>true
    | some i=>lG md o i) && chainB md l (k + 1) (some k)
def vM (ops : Array Oper) (i : Nat) : Prop:=∃ o,ops[i]? = some o /\ j4 o.op = false
def vI (md : fM) (ops : Array Oper) (p : Nat) : Prop:=∀ i,i < p -> vM ops i -> iM md ops (p - i) p i = true
theorem xA {p k : Nat} {o : Oper} (hk : ops[k]? = some o) (he : lG md o p = true) (hp : p < k) (hW : vI md ops p) (hall : ∀ i,i < k -> vM ops i -> i <= p) : vI md ops k:=by
 intro i hi hc
 by_cases hip : i = p
 ·subst hip
  exact mV (f:=1) (by omega) (uL hk he)
 ·have h1:=hall i hi hc
  exact mV (by omega) (I5 hk he (hW i (by omega) hc))
theorem sP : ∀ (l : List Oper) (k : Nat) (prev : Option Nat),(∀ j,j < l.length -> l[j]? = ops[k + j]?) -> chainB md l k prev = true ->
  (∀ p,prev = some p -> p < k /\ vI md ops p) -> (∀ i,i < k -> vM ops i -> ∃ p,prev = some p /\ i <= p) ->
  ∀ j,k <= j -> j < k + l.length -> vM ops j -> vI md ops j
 | [],k,_,_,_,_,_,j,h1,h2,_=>absurd h2 (by simp; omega)
 | x :: l,k,prev,hl,hB,hp,hq,j,h1,h2,hj=>by
  have h0 : ops[k]? = some x:=by simpa using (hl 0 (by simp)).symm
  have hl' : ∀ j,j < l.length -> l[j]? = ops[k + 1 + j]?:=λj hj=>by have:=hl (j + 1) (by simpa using hj); simpa [dO,uB 1 j] using this
  simp only [cC] at h2
  unfold chainB at hB
  by_cases hx : j4 x.op = true
  ·rw [if_pos hx] at hB
   have hno : ¬ vM ops k:=by
    rintro ⟨o',ho',hpo⟩
    rw [h0] at ho'
    cases ho'
    rw [hx] at hpo
    cases hpo
   have hjk : j ≠ k:=by
    rintro rfl
    exact hno hj
   have hbel : ∀ i,i < k + 1 -> vM ops i -> i < k:=λi hi hc=>by
    by_cases hik : i = k
    ·subst hik
     exact absurd hc hno
    ·omega
   cases prev with
   | none=>exact sP l (k + 1) none hl' hB (λp h=>by cases h) (λi hi hc=>hq i (hbel i hi hc) hc) j (by omega) (by omega) hj
   | some p =>
    simp only at hB;obtain ⟨hpk,hWp⟩:=hp p rfl
    have hall : ∀ i,i < k -> vM ops i -> i <= p:=λi hi hc=>by
     obtain ⟨p',e,h⟩:=hq i hi hc
     cases e
     exact h
    by_cases hlk : Fx md x p = true
    ·rw [if_pos hlk] at hB
     refine sP l (k + 1) (some k) hl' hB (λp' h=>?_) (λi hi _=>⟨k,rfl,by omega⟩) j (by omega) (by omega) hj
     cases h
     exact ⟨by omega,xA h0 (FN hlk) hpk hWp hall⟩
    ·rw [if_neg hlk] at hB
     refine sP l (k + 1) (some p) hl' hB (λp' h=>?_) (λi hi hc=>⟨p,rfl,hall i (hbel i hi hc) hc⟩) j (by omega) (by omega) hj
     cases h
     exact ⟨by omega,hWp⟩
  ·rw [if_neg hx] at hB
   simp only [aW] at hB
   have hWk : vI md ops k:=by
    cases prev with
    | none =>
     intro i hi hc
     obtain ⟨p,e,_⟩:=hq i hi hc
     cases e
    | some p =>
     obtain ⟨hpk,hWp⟩:=hp p rfl;refine xA h0 hB.1 hpk hWp (λi hi hc=>?_);obtain ⟨p',e,h⟩:=hq i hi hc
     cases e
     exact h
   by_cases hjk : j = k
   ·subst hjk
    exact hWk
   ·refine sP l (k + 1) (some k) hl' hB.2 (λp' h=>?_) (λi hi _=>⟨k,rfl,by omega⟩) j (by omega) (by omega) hj
    cases h
    exact ⟨by omega,hWk⟩
theorem IB (hB : chainB md ops.toList 0 none = true) (j : Nat) (o : Oper) (hj : ops[j]? = some o) (hpl : j4 o.op = false) (i : Nat) (hij : i < j) (hi : vM ops i) : iM md ops (j - i) j i = true :=
 sP ops.toList 0 none (λj _=>by simp) hB (λp h=>by cases h) (λi hi=>absurd hi (by omega)) j (by omega) (by simpa using (dC.1 hj).1) ⟨o,hj,hpl⟩ i hij hi
def BO (md : fM) (ops : Array Oper) (o : Oper) (k : Nat) : List Oper -> Bool
  | []=>true
  | x :: l=>(lG md x k || o.apart ops x) && BO md ops o k l
def CP (md : fM) (ops : Array Oper) : Nat -> List Oper -> Nat -> Bool
  | 0,_,_=>true
  | _ + 1,[],_=>false
  | n + 1,o :: l,k=>o.after.all (λe=>!Region.binds md e || decide (e.on < k)) && BO md ops o k l && CP md ops n l (k + 1)
def Inv (ops : Array Oper) (k : Nat) (listed : Array Bool) : Prop:=∀ j,j < ops.size -> listed[j]? = some (decide (j < k))
theorem Inv.set {k : Nat} {listed : Array Bool} (h : Inv ops k listed) : Inv ops (k + 1) (listed.setIfInBounds k true):=by
 intro j hj
 rw [Array.getElem?_setIfInBounds]
 by_cases hjk : k = j
 ·subst hjk
  have h1:=h k hj;have hlt:=(dC.1 h1).1;rw [if_pos rfl,if_pos hlt]
  simp
 ·rw [if_neg hjk,h j hj]
  congr 1
  simp only [decide_eq_decide]
  omega
theorem Inv.start : Inv ops 0 (bE ops.size false):=by
 intro j hj
 simp [hj]
theorem Inv.marks {listed : Array Bool} : ∀ (n : Nat) {k : Nat} {listed : Array Bool},Inv ops k listed -> Inv ops (k + n) (marks n k listed)
 | 0,_,_,h=>h
 | n + 1,k,_,h=>by
  have:=Inv.marks (listed:=listed) n h.set
  rwa [show k + 1 + n = k + (n + 1) by omega] at this
theorem Inv.in_ {k : Nat} {listed : Array Bool} (h : Inv ops k listed) {j : Nat} (hj : j < ops.size) (hk : j < k) (d : Bool) : listed.getD j d = true:=by
 have h1:=h j hj;rw [cN,h1]
 simp [hk]
theorem Inv.out {k : Nat} {listed : Array Bool} (h : Inv ops k listed) {j : Nat} (hj : j < ops.size) (hk : k <= j) (d : Bool) : listed.getD j d = false:=by
 have h1:=h j hj;rw [cN,h1]
 simp
 omega
theorem Bd {o : Oper} {k : Nat} : ∀ {l : List Oper},BO md ops o k l = true -> ∀ x ∈ l,lG md x k = true \/ o.apart ops x = true
 | [],_,_,hx=>absurd hx (by simp)
 | y :: l,h,x,hx=>by
  simp only [BO,aW,fO] at h
  rcases List.mem_cons.1 hx with rfl | hx
  ·exact h.1
  ·exact Bd h.2 x hx
theorem zI (hch : chainB md ops.toList 0 none = true) : ∀ (n : Nat) (l : List Oper) (k : Nat) (listed : Array Bool),Inv ops k listed -> l = ops.toList.drop k -> CP md ops n l k = true -> CQ md ops n k listed = true
 | 0,_,_,_,_,_,_=>rfl
 | n + 1,[],_,_,_,_,h=>by cases h
 | n + 1,o :: l,k,listed,hI,hl,h=>by
  simp only [CP,aW] at h;obtain ⟨⟨hr,ho⟩,hn⟩:=h
  have hk : k < ops.size:=by
   have h1:=congrArg List.length hl;simp only [cC,fW,Array.length_toList] at h1
   omega
  have h2 : ops.toList.drop k = ops.toList[k]'(by simpa using hk) :: ops.toList.drop (k + 1):=mK (by simpa using hk);rw [<-hl] at h2
  injection h2 with h3 h4
  have hko : ops[k]? = some o:=by
   rw [dM hk,h3]
   simp
  unfold CQ
  simp only [aW];refine ⟨⟨⟨?_,?_⟩,?_⟩,zI hch n l (k + 1) _ hI.set h4 hn⟩
  ·rw [List.contains_iff_mem]
   refine mem_ready.2 ⟨by rw [cN,hI k hk]; simp,o,hko,λe he hb=>?_⟩;have h5:=Array.all_eq_true'.1 hr e he;simp only [hb,Bool.not_true,Bool.false_or,decide_eq_true_eq] at h5;exact hI.in_ (by omega) h5 false
  ·unfold Region.free
   simp only [hko];rw [cL]
   intro j hj
   have hj' : j < ops.size:=by simpa using hj
   simp only [fO,beq_iff_eq]
   by_cases hjk : j = k
   ·exact .inl (.inl hjk)
   ·by_cases hlt : j < k
    ·exact .inl (.inr (hI.in_ hj' hlt true))
    ·right
     have hx : ops[j]? = some ops[j]:=dM hj';rw [hx]
     have hm : ops[j] ∈ l:=by
      rw [h4];rw [List.mem_iff_getElem?];exact ⟨j - (k + 1),by rw [BC,show k + 1 + (j - (k + 1)) = j by omega]; simp [hj']⟩
     rcases Bd ho _ hm with h6 | h6
     ·simp only [fO]
      exact .inl h6
     ·simp only [fO]
      exact .inr h6
  ·unfold BK
   simp only [hko,fO]
   by_cases hp : j4 o.op = true
   ·exact .inl hp
   ·right
    rw [cL]
    intro j hj
    have hj' : j < ops.size:=by simpa using hj
    simp only [fO,beq_iff_eq]
    by_cases hjk : j = k
    ·exact .inl (.inl (.inl hjk))
    ·by_cases hlt : j < k
     ·exact .inl (.inl (.inr (hI.in_ hj' hlt true)))
     ·have hx : ops[j]? = some ops[j]:=dM hj'
      by_cases hpj : j4 ops[j].op = true
      ·right
       rw [hx];exact hpj
      ·left
       right
       exact mV (by omega) (IB hch j _ hx (by simpa using hpj) k (by omega) ⟨o,hko,by simpa using hp⟩)
def Ov (md : fM) (ops : Array Oper) (N : Nat) : Bool:=match ops[N]? with
  | none=>true
  | some o=>(tT N).all λi=>lG md o i || iM md ops (min 4 ops.size) N i
def Uz (ops : Array Oper) (n k m : Nat) : Bool :=
  tS ops && CP .any ops n ops.toList 0 && chainB .any ops.toList 0 none && decide (ops.size = m + k + n) && Ov .any ops (k + n) &&
    kP .any ops m (k + n) (marks k n (marks n 0 (bE ops.size false)))
theorem cJ {n k m : Nat} (h : Uz ops n k m = true) : nV ops n k m = true:=by
 simp only [Uz,aW,decide_eq_true_eq] at h;obtain ⟨⟨⟨⟨⟨h1,h2⟩,h3⟩,h4⟩,h5⟩,h6⟩:=h
 have hI1 : Inv ops n (marks n 0 (bE ops.size false)):=by
  have:=Inv.marks (listed:=#[]) n (Inv.start (ops:=ops))
  rwa [cK] at this
 have hI2 : Inv ops (k + n) (marks k n (marks n 0 (bE ops.size false))):=by
  have:=Inv.marks (listed:=#[]) k hI1
  rwa [uB n k] at this
 have hr : ∀ j ∈ bC .any ops (marks k n (marks n 0 (bE ops.size false))),j = k + n:=by
  intro j hj
  cases m with
  | zero =>
   simp only [kP,List.isEmpty_iff] at h6;rw [h6] at hj
   cases hj
  | succ m =>
   simp only [kP,aW,decide_eq_true_eq] at h6;rw [h6.1] at hj
   simpa using hj
 simp only [nV,aW,decide_eq_true_eq];refine ⟨⟨⟨⟨h1,zI h3 n ops.toList 0 _ Inv.start rfl h2⟩,h4⟩,?_⟩,h6⟩
 unfold EV
 rw [cL]
 intro j hj
 have hjk:=hr j hj;subst hjk;obtain ⟨_,o,ho,_⟩:=mem_ready.1 hj
 unfold Ov at h5
 rw [ho] at h5;simp only [cL,lX] at h5 ⊢
 intro i hi
 have hz : 0 < ops.size:=Nat.lt_of_le_of_lt (Nat.zero_le _) (dC.1 ho).1;obtain ⟨f,hf⟩ : ∃ f,ops.size = f + 1:=⟨ops.size - 1,by omega⟩;have h7:=h5 i hi;simp only [fO] at h7
 rcases h7 with h7 | h7
 ·rw [hf]
  exact uL ho h7
 ·exact mV (Nat.min_le_right _ _) h7
end
def Own (f : FuncId) : Prop:=∀ (args : Array Value) (w : World),(callFunc f args).run Tryz.prog w = .ok (.enter f args) w
theorem kD {a : Act} {o : Oper} {f : FuncId} {xs : Array Operand} {ats : Array TypeId} (hf : Own f) (ho : o.op = .call { callee:=.value (.func f),args:=xs,argTypes:=ats }) (w : World) :
  (execOp a.eval o).run Tryz.prog w = .ok (.enter f (xs.map a.eval)) w:=by
 obtain ⟨dst,op,ty,pos,af,gd⟩:=o;simp only at ho;subst ho;have h:=hf (xs.map a.eval) w
 go_simp
theorem oZ {a : Act} {xs : Array Operand} {args : Array Value} (h : xs.toList.map a.eval = args.toList) : xs.map a.eval = args:=by
 apply Array.toList_inj.1
 rw [sW,h]
section
variable {ops : Array Oper} {C0 : World -> Prop} {Q : Act -> Prop} {a : Act} {o : Oper} {rest : List Oper}
theorem kE {f : FuncId} {xs : Array Operand} {ats : Array TypeId} {args : Array Value} {v : Value} (hg : aN o (yielded ops a.tmps) = true)
  (hf : Own f) (hc : ∀ w,Calls Tryz.prog f args w (λe w'=>e = .returned v /\ Below w.heap.size w w'))
  (ho : o.op = .call { callee:=.value (.func f),args:=xs,argTypes:=ats }) (hx : xs.toList.map a.eval = args.toList) (hk : wpB Tryz.prog ops C0 Q rest (a.put o.dst v)) : wpB Tryz.prog ops C0 Q (o :: rest) a :=
 L1 (f:=f) (args:=args) hg (λw _=>hc w) (λw=>by rw [kD hf ho,oZ hx]) hk
end
theorem results_cell_tmp {P : Program} {fn : Func} {p q : Tmp} {ty : TypeId} (h : fn.results = #[.cell p ty,.tmp q]) (tmps : Array Value) (w : World) (g : Nat) (t : TypeId) (cs : Array Value) (fr : Nat × Nat) (d : TypeDesc) (v : Value)
  (hp : tmps.getD p undef = .pointer (some ⟨g,0,none⟩)) (hq : tmps.getD q undef = v) (hg : w.heap[g]? = some (.cells cs t fr))
  (hu : P.underlying ty = some d) (hd : (match d with | .struct _ | .array _ _=>true | _=>false) = true) (hi : (P.info? ty).map (·.size) = some cs.size) :
  (results fn tmps).run P w = .ok (.tuple #[.agg cs,v]) w:=by
 have hp' : tmps[p]?.getD undef = .pointer (some ⟨g,0,none⟩):=by simpa using hp
 have hq' : tmps[q]?.getD undef = v:=by simpa using hq
 simp [results,h,hp',hq',asAddr,run_loadVar_row w g t ty cs fr d hg hu hd hi]
section
variable {ops : Array Oper} {C0 : World -> Prop} {Q : Act -> Prop} {a : Act} {o : Oper} {rest : List Oper}
theorem Rr {t : TypeId} {x : Operand} (q : Bool) (hg : aN o (yielded ops a.tmps) = true) (ho : o.op = .unOp .not t x) (hx : a.eval x = .bool q)
  (hk : wpB Tryz.prog ops C0 Q rest (a.put o.dst (.bool (!q)))) : wpB Tryz.prog ops C0 Q (o :: rest) a :=
 k5 hg (λw _=>by
  unfold execOp
  simp only [ho,hx]
  go_simp) hk
theorem UZ {t t' : TypeId} {x y : Operand} {q : Bool} (xs ys : Array Value) (hg : aN o (yielded ops a.tmps) = true) (ho : o.op = .binOp .neq t x y t') (hx : a.eval x = .agg xs) (hy : a.eval y = .agg ys)
  (hd : Tryz.prog.eqGuardType Tryz.prog.depth t = false) (he : ∀ w,(fH 10000 t (.agg xs) (.agg ys)).run Tryz.prog w = .ok q w) (hk : wpB Tryz.prog ops C0 Q rest (a.put o.dst (.bool (!q)))) : wpB Tryz.prog ops C0 Q (o :: rest) a :=
 k5 hg (λw _=>by
  unfold execOp
  simp only [ho,hx,hy,aJ,run_eqGuard_agg (hm:=hd),aF,binOp,Op.equal,Op.maxDepth,he,aK]) hk
end
theorem IK {P : Program} {ops : Array Oper} {C0 : World -> Prop} {Q : Act -> Prop} {a : Act} {o : Oper} {rest : List Oper} {x : Operand} (hg : aN o (yielded ops a.tmps) = true) (ho : o.op = .assign x) (hk : wpB P ops C0 Q rest (a.put o.dst (a.eval x))) : wpB P ops C0 Q (o :: rest) a :=
 k5 hg (λw _=>by
  unfold execOp
  simp only [ho,aK]) hk
def mE : Op -> Bool
  | .buildSlice .. | .makeSlice .. | .sliceToArrayPointer .. | .makeFunc .. | .nilCheck _=>true
  | .call c=>match c.callee with | .builtin .len=>true | _=>false
  | o=>j4 o
def tE : Op -> Bool
  | .alloc _ | .box ..=>true
  | o=>CF o
section
variable {P : Program}
theorem vX {y : Value} {w w' : World} {n : Next} (h : (pure (z9 y) : Sem Next).run P w = .ok n w') : ∃ v,n = .value v:=by
 rw [aK] at h
 injection h with h1 h2
 exact ⟨_,h1.symm⟩
theorem pN {w w' : World} {n : Next} (h : (runtimePanic .nilDeref : Sem Next).run P w = .ok n w') : False:=by
 simp [runtimePanic,goPanic] at h
theorem FT {α β : Type} {s : Sem α} {f : α -> Sem β} {n : β} {w w' : World} (h : (s >>= f).run P w = .ok n w') : ∃ a w1,(f a).run P w1 = .ok n w':=by
 rw [aJ] at h
 cases hs : s.run P w with
 | ok v w1 =>
  rw [hs] at h;exact ⟨v,w1,h⟩
 | halt x w1 =>
  rw [hs] at h
  cases h
theorem VK {ρ : Operand -> Value} {o : Oper} {x : Operand} (ho : o.op = .nilCheck x) {w w' : World} {n : Next} (h : (execOp ρ o).run P w = .ok n w') : ∃ v,n = .value v:=by
 unfold execOp at h
 rw [ho] at h
 dsimp only at h
 split at h
 ·exact (pN h).elim
 ·exact (pN h).elim
 ·exact (pN h).elim
 ·split at h
  ·exact (pN h).elim
  ·obtain ⟨_,_,h⟩:=FT h
   obtain ⟨_,_,h⟩:=FT h
   split at h
   ·obtain ⟨_,_,h⟩:=FT h
    exact vX h
   ·exact vX h
  ·exact vX h
 ·exact vX h
theorem Cf {ρ : Operand -> Value} {o : Oper} (hp : mE o.op = true) {w w' : World} {n : Next} (h : (execOp ρ o).run P w = .ok n w') : (∃ v,n = .value v) \/ n = .skip:=by
 by_cases hb : j4 o.op = true
 ·exact G4 hb h
 obtain ⟨dst,op,ty,pos,af,gd⟩:=o
 cases op <;> first
  | (exfalso; exact hb hp)
  | exact .inl (OG h)
  | exact .inl (VK rfl h)
  | skip
 next c =>
  obtain ⟨callee,args,ats⟩:=c
  cases callee with
  | builtin b =>
   cases b <;> first
    | (cases hp; done)
    | skip
   unfold execOp at h
   simp only [resolve,invoke,builtin,aJ,aK,aF] at h;refine .inl ?_
   revert h
   generalize Sem.run P _ w = r
   intro h
   cases r with
   | ok v w1 =>
    simp only [aF] at h
    injection h with h1 h2
    exact ⟨v,h1.symm⟩
   | halt x w1=>simp [Result.andThen] at h
  | _=>cases hp
end
class L4 (Rel : World -> World -> Prop) : Prop where
  below : ∀ w w',Below w.heap.size w w' -> Rel w w'
def Bel (w w' : World) : Prop:=Below w.heap.size w w'
instance : L4 Bel:=⟨λ_ _ h=>h⟩
def pJ (P : Program) (Rel : World -> World -> Prop) (w : World) (V : Value -> World -> Prop) : Result Next -> Prop
  | .ok (.value u) w'=>Rel w w' /\ V u w'
  | .ok .skip w'=>Rel w w' /\ V undef w'
  | .ok (.enter f args) w'=>w' = w /\ Calls P f args w (λe w''=>∃ v,e = .returned v /\ Rel w w'' /\ V v w'')
  | _=>False
def IU (Rel : World -> World -> Prop) (p : World -> Prop) : Prop:=∀ w w',p w -> Rel w w' -> p w'
abbrev Facts:=Nat -> World -> Prop
def upF (F : Facts) (k : Nat) (p : World -> Prop) : Facts:=λj=>if j = k then p else F j
theorem jH (F : Facts) (k : Nat) (p : World -> Prop) : upF F k p k = p:=if_pos rfl
theorem jO {F : Facts} {k j : Nat} {p : World -> Prop} (h : j ≠ k) : upF F k p j = F j:=if_neg h
def stepG (P : Program) (Rel : World -> World -> Prop) (C0 : World -> Prop) (F : Facts) (o : Oper) (a : Act) (next : (World -> Prop) -> Act -> Prop) : Prop :=
  ∃ V : Value -> World -> Prop,(∀ v,IU Rel (V v)) /\ ((∃ v,∀ u w,V u w -> u = v) \/ tE o.op = true) /\
    (∀ w,C0 w -> (∀ e ∈ o.after,eN .any e = true -> F e.on w) -> pJ P Rel w V ((execOp a.eval o).run P w)) /\
    ∀ v w,C0 w -> (∀ k,F k w) -> V v w -> next (V v) (a.put o.dst v)
def wpG (P : Program) (Rel : World -> World -> Prop) (ops : Array Oper) (C0 : World -> Prop) (Q : Facts -> Act -> Prop) : List (Nat × Oper) -> Facts -> Act -> Prop
  | [],F,a=>Q F a
  | x :: l,F,a=>if aN x.2 (yielded ops a.tmps) then stepG P Rel C0 F x.2 a (λp a'=>wpG P Rel ops C0 Q l (upF F x.1 p) a') else wpG P Rel ops C0 Q l (upF F x.1 λ_=>True) (a.put x.2.dst undef)
section
variable {P : Program} {Rel : World -> World -> Prop} {ops : Array Oper} {C0 : World -> Prop} {Q : Facts -> Act -> Prop}
theorem B0 (hQ : ∀ F F' a,(∀ k w,F' k w -> F k w) -> Q F a -> Q F' a) : ∀ (l : List (Nat × Oper)) (F F' : Facts) (a : Act),(∀ k w,F' k w -> F k w) -> wpG P Rel ops C0 Q l F a -> wpG P Rel ops C0 Q l F' a
 | [],F,F',a,h,hh=>hQ F F' a h hh
 | x :: l,F,F',a,h,hh=>by
  have hup : ∀ p,∀ k w,upF F' x.1 p k w -> upF F x.1 p k w:=λp k w h'=>by
   by_cases e : k = x.1
   ·subst e
    rwa [jH] at h' ⊢
   ·rw [jO e] at h' ⊢
    exact h k w h'
  unfold wpG at hh ⊢
  split
  ·rename_i hw
   rw [if_pos hw] at hh;obtain ⟨V,h1,h2,h3,h4⟩:=hh;exact ⟨V,h1,h2,λw hw he=>h3 w hw λe hm hb=>h _ _ (he e hm hb),λv w hw hF hV=>B0 hQ l _ _ _ (hup _) (h4 v w hw (λk=>h k w (hF k)) hV)⟩
  ·rename_i hw
   rw [if_neg hw] at hh;exact B0 hQ l _ _ _ (hup _) hh
structure vL (Rel : World -> World -> Prop) (C0 : World -> Prop) (F : Facts) (w : World) : Prop where
  pers : ∀ k,IU Rel (F k)
  cls : C0 w
  all : ∀ k,F k w
theorem vL.up {F : Facts} {w w' : World} {k : Nat} {p : World -> Prop} (h : vL Rel C0 F w) (hp : IU Rel p) (hC : C0 w') (hF : ∀ k,F k w') (hpw : p w') : vL Rel C0 (upF F k p) w':=by
 refine ⟨λj=>?_,hC,λj=>?_⟩
 ·by_cases e : j = k
  ·subst e
   rw [jH];exact hp
  ·rw [jO e]
   exact h.pers j
 ·by_cases e : j = k
  ·subst e
   rw [jH];exact hpw
  ·rw [jO e]
   exact hF j
def Unl (l : List (Nat × Oper)) (F : Facts) : Prop:=∀ x ∈ l,∀ w,F x.1 w
theorem Unl.up {l : List (Nat × Oper)} {F : Facts} {k : Nat} {p : World -> Prop} (h : Unl l F) (hk : k ∉ l.map (·.1)) : Unl l (upF F k p):=λx hx w=>by
 have e : x.1 ≠ k:=λe=>hk (gP.2 ⟨x,hx,e⟩);rw [jO e];exact h x hx w
theorem pJ.any {w : World} {V : Value -> World -> Prop} {r : Result Next} (h : pJ P Rel w V r) : ∃ v w',Rel w w' /\ V v w':=by
 cases r with
 | ok n w' =>
  cases n <;> simp only [pJ] at h
  case value u=>exact ⟨u,w',h⟩
  case skip=>exact ⟨_,w',h⟩
  case enter f args =>
   obtain ⟨e,w1,fr,⟨v,_,h1,h2⟩,_⟩:=h.2 [];exact ⟨v,w1,h1,h2⟩
 | halt x w'=>simp only [pJ] at h
theorem NU {x : Nat × Oper} {l l' : List (Nat × Oper)} {F : Facts} {a : Act} {w0 : World} (hG : vL Rel C0 F w0) (hU : Unl l F) (hx : x.1 ∉ l.map (·.1))
  (h : ∀ F a w,vL Rel C0 F w -> Unl l F -> wpG P Rel ops C0 Q l F a -> wpG P Rel ops C0 Q l' F a) (hh : wpG P Rel ops C0 Q (x :: l) F a) : wpG P Rel ops C0 Q (x :: l') F a:=by
 unfold wpG at hh ⊢
 split
 ·rename_i hw
  rw [if_pos hw] at hh;obtain ⟨V,h1,h2,h3,h4⟩:=hh;exact ⟨V,h1,h2,h3,λv w hw hF hV=>h _ _ w (hG.up (h1 v) hw hF hV) (hU.up hx) (h4 v w hw hF hV)⟩
 ·rename_i hw
  rw [if_neg hw] at hh;exact h _ _ w0 (hG.up (λ_ _ _ _=>trivial) hG.cls hG.all trivial) (hU.up hx) hh
structure RF (ops : Array Oper) (x y : Nat × Oper) : Prop where
  ne : x.1 ≠ y.1
  apart : x.2.apart ops y.2 = true
  noY : ∀ e ∈ y.2.after,eN .any e = true -> e.on ≠ x.1
  noX : ∀ e ∈ x.2.after,eN .any e = true -> e.on ≠ y.1
  kind : mE y.2.op = true \/ tE x.2.op = false
  selX : ∀ cs b,x.2.op ≠ .select cs b
  selY : ∀ cs b,y.2.op ≠ .select cs b
theorem Xe (hcl : ∀ w w',C0 w -> Rel w w' -> C0 w') (hQ : ∀ F F' a,(∀ k w,F' k w -> F k w) -> Q F a -> Q F' a) {x y : Nat × Oper} {l : List (Nat × Oper)} {F : Facts} {a : Act} {w0 : World} (hp : RF ops x y) (hG : vL Rel C0 F w0) (hj : ∀ w,F y.1 w)
  (h : wpG P Rel ops C0 Q (x :: y :: l) F a) : wpG P Rel ops C0 Q (y :: x :: l) F a:=by
 obtain ⟨i,oi⟩:=x;obtain ⟨j,oj⟩:=y;obtain ⟨hne,hap,hed,hed2,hkd,hsi,hsj⟩:=hp;obtain ⟨h1,h2,h3⟩:=Oper.apart_spec hap
 dsimp only at *
 have hwj : ∀ v,aN oj (yielded ops (a.put oi.dst v).tmps) = aN oj (yielded ops a.tmps):=λv=>wanted_put oj a oi.dst v h1;have hwi : ∀ v,aN oi (yielded ops (a.put oj.dst v).tmps) = aN oi (yielded ops a.tmps):=λv=>wanted_put oi a oj.dst v h3;have hcomm : ∀ v u,(a.put oi.dst v).put oj.dst u = (a.put oj.dst u).put oi.dst v:=λv u=>pD a v u h2
 have hupc : ∀ (p q : World -> Prop),upF (upF F i p) j q = upF (upF F j q) i p:=λp q=>by
  funext k
  by_cases e : k = i
  ·subst e
   rw [jH,jO hne,jH]
  ·by_cases e2 : k = j
   ·subst e2
    rw [jH,jO e,jH]
   ·rw [jO e2,jO e,jO e,jO e2]
 by_cases wi : aN oi (yielded ops a.tmps) = true
 ·unfold wpG at h
  rw [if_pos wi] at h;obtain ⟨Vx,pX,kX,yX,nX⟩:=h
  by_cases wj : aN oj (yielded ops a.tmps) = true
  ·obtain ⟨v0,w1,hb1,hV1⟩:=(yX w0 hG.cls (λe _ _=>hG.all e.on)).any
   have hC1:=hcl _ _ hG.cls hb1;have hF1 : ∀ k,F k w1:=λk=>hG.pers k _ _ (hG.all k) hb1
   have key : ∀ v,(∃ w,C0 w /\ (∀ k,F k w) /\ Vx v w) -> stepG P Rel C0 (upF F i (Vx v)) oj (a.put oi.dst v) (λp a'=>wpG P Rel ops C0 Q l (upF (upF F i (Vx v)) j p) a'):=by
    rintro v ⟨w,hw,hF,hV⟩
    have h5:=nX v w hw hF hV
    unfold wpG at h5
    rwa [hwj,if_pos wj] at h5
   have key' : ∀ v,∃ V : Value -> World -> Prop,(∃ w,C0 w /\ (∀ k,F k w) /\ Vx v w) -> (∀ v,IU Rel (V v)) /\ ((∃ v,∀ u w,V u w -> u = v) \/ tE oj.op = true) /\
     (∀ w,C0 w -> (∀ e ∈ oj.after,eN .any e = true -> upF F i (Vx v) e.on w) -> pJ P Rel w V ((execOp (a.put oi.dst v).eval oj).run P w)) /\
     ∀ u w,C0 w -> (∀ k,upF F i (Vx v) k w) -> V u w -> wpG P Rel ops C0 Q l (upF (upF F i (Vx v)) j (V u)) ((a.put oi.dst v).put oj.dst u):=λv=>by
    by_cases hv : ∃ w,C0 w /\ (∀ k,F k w) /\ Vx v w
    ·obtain ⟨V,hV⟩:=key v hv
     exact ⟨V,λ_=>hV⟩
    ·exact ⟨λ_ _=>True,λh=>absurd h hv⟩
   clear key;obtain ⟨Vy,hy⟩:=Classical.axiomOfChoice key';clear key';have hv0 : ∃ w,C0 w /\ (∀ k,F k w) /\ Vx v0 w:=⟨w1,hC1,hF1,hV1⟩
   unfold wpG
   rw [if_pos wj];refine ⟨λu w=>∀ v,(∃ w,C0 w /\ (∀ k,F k w) /\ Vx v w) -> Vy v u w,λu w w' h hb v hv=>(hy v hv).1 u w w' (h v hv) hb,?_,?_,?_⟩
   ·rcases (hy v0 hv0).2.1 with ⟨u0,hu⟩ | hm
    ·exact .inl ⟨u0,λu w h=>hu u w (h v0 hv0)⟩
    ·exact .inr hm
   ·intro w hw hpre
    have hr : ∀ v,(∃ w,C0 w /\ (∀ k,F k w) /\ Vx v w) -> pJ P Rel w (Vy v) ((execOp a.eval oj).run P w):=λv hv=>by
     have h5:=(hy v hv).2.2.1 w hw (λe he hb=>by rw [jO (hed e he hb)]; exact hpre e he hb)
     rwa [execOp_put oj hsj a oi.dst v h1] at h5
    have hst:=λn w'=>Cf (P:=P) (ρ:=a.eval) (o:=oj) (w:=w) (w':=w') (n:=n);generalize (execOp a.eval oj).run P w = r at *
    cases r with
    | ok n w' =>
     cases n
     case value u=>exact ⟨(hr v0 hv0).1,λv hv=>(hr v hv).2⟩
     case skip=>exact ⟨(hr v0 hv0).1,λv hv=>(hr v hv).2⟩
     case enter f args =>
      rcases hkd with hkd | hkd
      ·rcases hst _ _ hkd rfl with ⟨v,hv⟩ | hv <;> cases hv
      ·rcases kX with ⟨vv,hvv⟩ | hm
       ·obtain ⟨e1,hc⟩:=hr v0 hv0
        refine ⟨e1,hc.mono λe w'' ⟨u,he,hb,hV⟩=>⟨u,he,hb,λv hv=>?_⟩⟩;obtain ⟨w3,_,_,hv3⟩:=hv;have e2 : v = v0:=(hvv _ _ hv3).trans (hvv _ _ hV1).symm;rw [e2];exact hV
       ·rw [hkd] at hm
        cases hm
     all_goals exact absurd (hr v0 hv0) (by simp [pJ])
    | halt x w'=>exact absurd (hr v0 hv0) (by simp [pJ])
   ·intro u w hw hF hVu
    unfold wpG
    rw [hwi,if_pos wi];refine ⟨Vx,pX,kX,?_,?_⟩
    ·intro w2 hw2 hpre
     rw [execOp_put oi hsi a oj.dst u h3];exact yX w2 hw2 (λe he hb=>by have h5:=hpre e he hb; rwa [jO (hed2 e he hb)] at h5)
    ·intro v w2 hw2 hF2 hV2
     have hFw2 : ∀ k,F k w2:=λk=>by
      by_cases e : k = j
      ·subst e
       exact hj w2
      ·have h5:=hF2 k
       rwa [jO e] at h5
     have hv : ∃ w,C0 w /\ (∀ k,F k w) /\ Vx v w:=⟨w2,hw2,hFw2,hV2⟩
     have hVy : Vy v u w2:=by
      have h5:=hF2 j;rw [jH] at h5;exact h5 v hv
     have h6:=(hy v hv).2.2.2 u w2 hw2 (λk=>by
      by_cases e : k = i
      ·subst e
       rw [jH];exact hV2
      ·rw [jO e]
       exact hFw2 k) hVy
     rw [hcomm,hupc] at h6;refine B0 hQ l _ _ _ (λk w h7=>?_) h6
     by_cases e : k = i
     ·subst e
      rwa [jH] at h7 ⊢
     ·rw [jO e] at h7 ⊢
      by_cases e2 : k = j
      ·subst e2
       rw [jH] at h7 ⊢;exact h7 v hv
      ·rwa [jO e2] at h7 ⊢
  ·unfold wpG
   rw [if_neg wj]
   unfold wpG
   rw [hwi,if_pos wi];refine ⟨Vx,pX,kX,?_,?_⟩
   ·intro w2 hw2 hpre
    rw [execOp_put oi hsi a oj.dst undef h3];exact yX w2 hw2 (λe he hb=>by have h5:=hpre e he hb; rwa [jO (hed2 e he hb)] at h5)
   ·intro v w2 hw2 hF2 hV2
    have h5:=nX v w2 hw2 (λk=>by
     by_cases e : k = j
     ·subst e
      exact hj w2
     ·have h5:=hF2 k
      rwa [jO e] at h5) hV2
    unfold wpG at h5
    rw [hwj,if_neg wj,hcomm,hupc] at h5;exact h5
 ·unfold wpG at h
  rw [if_neg wi] at h
  unfold wpG at h
  by_cases wj : aN oj (yielded ops a.tmps) = true
  ·rw [hwj,if_pos wj] at h
   obtain ⟨Vy,pY,kY,yY,nY⟩:=h
   unfold wpG
   rw [if_pos wj];refine ⟨Vy,pY,kY,?_,?_⟩
   ·intro w hw hpre
    have h5:=yY w hw (λe he hb=>by rw [jO (hed e he hb)]; exact hpre e he hb)
    rwa [execOp_put oj hsj a oi.dst undef h1] at h5
   ·intro u w hw hF hV
    have h5:=nY u w hw (λk=>by
     by_cases e : k = i
     ·subst e
      rw [jH]
      trivial
     ·rw [jO e]
      exact hF k) hV
    unfold wpG
    rw [hwi,if_neg wi];rw [hcomm,hupc] at h5;exact h5
  ·rw [hwj,if_neg wj] at h
   unfold wpG
   rw [if_neg wj]
   unfold wpG
   rw [hwi,if_neg wi];rw [hcomm,hupc] at h;exact h
theorem QA (hcl : ∀ w w',C0 w -> Rel w w' -> C0 w') (hQ : ∀ F F' a,(∀ k w,F' k w -> F k w) -> Q F a -> Q F' a) (y : Nat × Oper) (l2 : List (Nat × Oper)) : ∀ (l1 : List (Nat × Oper)) (F : Facts) (a : Act) (w0 : World),(∀ x ∈ l1,RF ops x y) -> ((l1 ++ y :: l2).map (·.1)).Nodup ->
  vL Rel C0 F w0 -> Unl (l1 ++ y :: l2) F -> wpG P Rel ops C0 Q (l1 ++ y :: l2) F a -> wpG P Rel ops C0 Q (y :: (l1 ++ l2)) F a
 | [],F,a,w0,_,_,_,_,h=>h
 | x :: l1,F,a,w0,hp,hnd,hG,hU,h=>by
  have hnd2 : x.1 ∉ (l1 ++ y :: l2).map (·.1) /\ ((l1 ++ y :: l2).map (·.1)).Nodup:=by
   simpa [List.nodup_cons] using hnd
  have h' : wpG P Rel ops C0 Q (x :: (y :: (l1 ++ l2))) F a :=
   NU (l:=l1 ++ y :: l2) hG (λz hz=>hU z (bL _ hz)) hnd2.1
    (λF a w hG hU h=>QA hcl hQ y l2 l1 F a w (λz hz=>hp z (bL _ hz)) hnd2.2 hG hU h) h
  exact Xe hcl hQ (hp x (by simp)) hG (hU y (by simp)) h'
end
section
variable {ops : Array Oper} {C0 : World -> Prop} {Q : Act -> Prop} {a : Act} {o : Oper} {rest : List Oper}
theorem Rq {f : FuncId} {xs : Array Operand} {ats : Array TypeId} {args : Array Value} {v : Value} (hg : aN o (yielded ops a.tmps) = true)
  (hf : Own f) (hc : ∀ w,C0 w -> Calls Tryz.prog f args w (λe w'=>e = .returned v /\ Below w.heap.size w w'))
  (ho : o.op = .call { callee:=.value (.func f),args:=xs,argTypes:=ats }) (hx : xs.toList.map a.eval = args.toList) (hk : wpB Tryz.prog ops C0 Q rest (a.put o.dst v)) : wpB Tryz.prog ops C0 Q (o :: rest) a :=
 L1 (f:=f) (args:=args) hg hc (λw=>by rw [kD hf ho,oZ hx]) hk
theorem YQ {l : List UInt8} (g : Nat) (hl : l.length = 32) (x : Operand) (hg : aN o (yielded ops a.tmps) = true) (ho : o.op = .load 27 x) (hx : a.eval x = .pointer (some ⟨g,0,none⟩))
  (hc : ∀ w,C0 w -> Blk w g 27 (By l).toArray) (hk : wpB Tryz.prog ops C0 Q rest (a.put o.dst (.agg (By l).toArray))) : wpB Tryz.prog ops C0 Q (o :: rest) a :=
 zU hg 27 x ho g 0 hx (By l) _ (λw h=>(hc w h).range) Tryz.underlying27 rfl (fL (By l).toArray (jQ hl)) hk
end
section
variable {ops : Array Oper} {C0 : World -> Prop} {Q : Act -> Prop} {a : Act} {o : Oper} {rest : List Oper}
theorem Un {f : FuncId} {xs : Array Operand} {ats : Array TypeId} {args : Array Value} (V : Value -> Prop) (hg : aN o (yielded ops a.tmps) = true)
  (hf : Own f) (hc : ∀ w,C0 w -> Calls Tryz.prog f args w (λe w'=>∃ v,e = .returned v /\ V v /\ Below w.heap.size w w'))
  (ho : o.op = .call { callee:=.value (.func f),args:=xs,argTypes:=ats }) (hx : xs.toList.map a.eval = args.toList) (hk : ∀ v,V v -> wpB Tryz.prog ops C0 Q rest (a.put o.dst v)) : wpB Tryz.prog ops C0 Q (o :: rest) a :=
 Ru (f:=f) (args:=args) V hg (by rw [ho]; rfl) hc (λw=>by rw [kD hf ho,oZ hx]) hk
end
end Go.Proofs.YtfkchihlchlfdaaGreatDoor
