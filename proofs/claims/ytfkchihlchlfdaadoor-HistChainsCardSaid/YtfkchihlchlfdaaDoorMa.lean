import Derived.Test.YtfkchihlchlfdaaDoorRows
import Derived.WalkKit
import Derived.WalkSpells
import Derived.WalkLawsBesides
import Derived.Lib.Hide
import Derived.Laws.CopyOwn
import Derived.Deep.QuietTactic
import Derived.StillTail
import Derived.Deep.MidRow
set_option maxRecDepth 20000
open Array renaming replicate->bD,getD_eq_getD_getElem?->cI,getElem?_eq_some_iff->cZ,getElem?_eq_getElem->dF,any_eq_true'->fB,toList_map->sJ,getElem?_modify->Mg
open Bool renaming and_eq_true->aV,or_eq_true->fG,false_eq_true->uX
open Go.Act renaming put_comm->oQ
open Go.Code renaming region->jP
open Go.Instr renaming fill->gC,sureAddr->nJ,storeAt->CK
open Go.Op renaming equalIn->fI
open Go.Oper renaming upon->jR,wp->lR
open Go.Region renaming wanted->aL,ready->bQ,binds->eL,Mode->fE,noSelect->s8
open Go.Result renaming andThen_ok->aG
open Go.Sem renaming run_pure->aI,run_bind->aJ
open Go.Value renaming cells->CZ
open Go.World renaming size_alloc->aW
open List renaming length_take->aZ,mem_cons_of_mem->bE,length_cons->bW,append_nil->cD,all_eq_true->cE,mem_singleton->cG,take_append_drop->fQ,mem_map->fV,getElem?_eq_some_iff->hH,length_drop->iG,getElem?_append_right->kK,mem_range->lK,drop_eq_getElem_cons->lX,mem_range'_1->nI,range->sH,getElem?_append_left->vW,length->AW,getElem?_drop->Bc,forIn_cons->Mf
open Nat renaming le_refl->aF,zero_add->cW,add_assoc->dI,add_zero->fJ,add_comm->qL
open Option.some renaming inj->eW
open Std.Legacy.Range renaming size->jB
open UInt8 renaming ofNat->aX
namespace Go.Proofs.YtfkchihlchlfdaaDoor
def be8 (v : Nat) : List UInt8:=[aX (v / 72057594037927936),aX (v / 281474976710656),aX (v / 1099511627776),aX (v / 4294967296),aX (v / 16777216),aX (v / 65536),aX (v / 256),aX v]
def step (a : Nat) (x : UInt8) : Nat:=(a * 256 + x.toNat) % 18446744073709551616
def val (l : List UInt8) : Nat:=l.foldl step 0
theorem mW (v : Nat) : (be8 v).length = 8:=rfl
def tk (l : List UInt8) (f k : Nat) : List UInt8 × List UInt8 × Nat :=
  if f = 0 then (if l.length < k then ([],l,10) else (l.take k,l.drop k,0)) else ([],l,f)
def num (l : List UInt8) (f : Nat) : Nat × List UInt8 × Nat:=(val (tk l f 8).1,(tk l f 8).2)
def most (l : List UInt8) (f lim : Nat) : Nat × List UInt8 × Nat:=if lim < (num l f).1 then (0,(num l f).2.1,12) else num l f
end Go.Proofs.YtfkchihlchlfdaaDoor
namespace Go.Proofs.YtfkchihlchlfdaaDoor
open Go.RowKit
def By (l : List UInt8) : List Value:=l.map λx=>.int .u8 (x.toNat : Int)
theorem b6 (l : List UInt8) : (By l).length = l.length:=by simp [By]
theorem uT (a b : List UInt8) : By (a ++ b) = By a ++ By b:=by simp [By]
theorem lJ (l : List UInt8) : ∀ u ∈ By l,u.oneCell' = true:=by
 intro u hu
 obtain ⟨x,_,rfl⟩:=fV.1 hu
 rfl
theorem PE {l : List UInt8} {j : Nat} {u : Value} (h : (By l)[j]? = some u) : ∃ x,l[j]? = some x /\ u = .int .u8 (x.toNat : Int):=by
 simp only [By,List.getElem?_map,Option.map_eq_some_iff] at h;obtain ⟨x,hx,rfl⟩:=h;exact ⟨x,hx,rfl⟩
def BV (w : World) (lo hi : Nat) (A : Option Addr) (l : List UInt8) : Prop :=
  0 < l.length -> ∃ ad,A = some ad /\ lo <= ad.block /\ ad.block < hi /\ ∀ j x,l[j]? = some x -> w.cell? (ad.add j) = some (.int .u8 (x.toNat : Int))
section
variable {w w' : World} {lo hi lo' hi' : Nat} {A : Option Addr} {l : List UInt8}
theorem block_add (a : Addr) (n : Nat) : (a.add n).block = a.block:=by unfold Addr.add; split <;> rfl
theorem Pl (a : Addr) (i j : Nat) : (a.add i).add j = a.add (i + j):=by
 unfold Addr.add
 by_cases h1 : i = 0 <;> by_cases h2 : j = 0 <;> simp [h1,h2,dI]
theorem BV.nil (w : World) (lo hi : Nat) (A : Option Addr) : BV w lo hi A []:=λh=>absurd h (by simp)
theorem BV.more (h : BV w lo hi A l) (h1 : lo' <= lo) (h2 : hi <= hi') : BV w lo' hi' A l:=λhl=>by
 obtain ⟨ad,e,ha,hb,hc⟩:=h hl;exact ⟨ad,e,by omega,by omega,hc⟩
theorem BV.kH (h : BV w lo hi A l) (hk : ∀ k,lo <= k -> k < hi -> w'.heap[k]? = w.heap[k]?) : BV w' lo hi A l:=λhl=>by
 obtain ⟨ad,e,ha,hb,hc⟩:=h hl
 exact ⟨ad,e,ha,hb,λj x hx=>by
  rw [World.cell?_of_block (w:=w) (by rw [block_add]; exact hk _ ha hb)]
  exact hc j x hx⟩
theorem BV.below (h : BV w lo hi A l) {B : Nat} (hb : Below B w w') (hB : hi <= B) : BV w' lo hi A l:=h.kH λk _ hk=>hb.block k (by omega)
theorem BV.grown (h : BV w lo hi A l) {r : Nat} (hg : w.grownBy w' (some r)) (hB : hi <= w.heap.size) (hr : r < lo \/ hi <= r) : BV w' lo hi A l :=
 h.kH λk h1 h2=>hg.block k (by omega) (λe=>by injection e with e; omega)
theorem BV.alloc (h : BV w lo hi A l) (o : Obj) (hB : hi <= w.heap.size) : BV (w.alloc o) lo hi A l:=h.kH λk _ h2=>Below.heap_alloc w o k (by omega)
theorem BV.cut (h : BV w lo hi A l) {k c : Nat} (hk : k <= l.length) (hc : l.length <= c) : BV w lo hi (if c = k then A else A.map (·.add k)) (l.drop k):=λhl=>by
 simp only [iG] at hl;obtain ⟨ad,rfl,ha,hb,hcell⟩:=h (by omega);rw [if_neg (by omega)]
 exact ⟨ad.add k,rfl,by rw [block_add]; exact ha,by rw [block_add]; exact hb,λj x hx=>by
  rw [Pl]
  exact hcell (k + j) x (by rw [<-hx,Bc])⟩
end
def Blk (w : World) (g t : Nat) (cs : Array Value) : Prop:=w.heap[g]? = some (.cells cs t (0,0))
section
variable {w w' : World} {g t : Nat} {cs : Array Value}
theorem Blk.lt (h : Blk w g t cs) : g < w.heap.size:=(cZ.1 h).1
theorem Blk.cell (h : Blk w g t cs) (i : Nat) : w.cell? ⟨g,i,none⟩ = cs[i]?:=cell_of_row w g i cs t (0,0) h
theorem Blk.free (h : Blk w g t cs) (i : Nat) : w.frozen? ⟨g,i,none⟩ = false:=frozen_of_row w g i cs t h
theorem Blk.new (w : World) (t : Nat) (cs : Array Value) : Blk (w.alloc (.cells cs t)) w.heap.size t cs:=heap_alloc_new w _
theorem Blk.alloc (h : Blk w g t cs) (o : Obj) : Blk (w.alloc o) g t cs:=(Below.heap_alloc w o g h.lt).trans h
theorem Blk.set (h : Blk w g t cs) (i : Nat) (u : Value) : Blk (w.setCell ⟨g,i,none⟩ u) g t (cs.setIfInBounds i u):=by
 unfold Blk at h ⊢
 simp [World.setCell,Mg,h]
theorem Blk.far (h : Blk w g t cs) {p : Addr} (hp : g ≠ p.block) (u : Value) : Blk (w.setCell p u) g t cs:=(heap_setCell_other w p g u hp).trans h
theorem Blk.below {B : Nat} (h : Blk w g t cs) (hb : Below B w w') (hg : g < B) : Blk w' g t cs:=(hb.block g hg).trans h
end
theorem Jd {B : Nat} {a b c : World} {r : Nat} (h : Below B a b) (k : b.grownBy c (some r)) (hB : B <= b.heap.size) (hr : B <= r) : Below B a c :=
 h.grown k hB (λx hx=>by injection hx with hx; omega)
def SL (w : World) (lo hi : Nat) (A : Option Addr) (l : List UInt8) (c : Nat) : Prop :=
  l.length <= c /\ c <= 9223372036854775807 /\ (A = none -> c = 0) /\ BV w lo hi A l
section
variable {w w' : World} {lo hi lo' hi' c : Nat} {A : Option Addr} {l : List UInt8}
theorem SL.more (h : SL w lo hi A l c) (h1 : lo' <= lo) (h2 : hi <= hi') : SL w lo' hi' A l c:=⟨h.1,h.2.1,h.2.2.1,h.2.2.2.more h1 h2⟩
theorem SL.below (h : SL w lo hi A l c) {B : Nat} (hb : Below B w w') (hB : hi <= B) : SL w' lo hi A l c:=⟨h.1,h.2.1,h.2.2.1,h.2.2.2.below hb hB⟩
theorem SL.alloc (h : SL w lo hi A l c) (o : Obj) (hB : hi <= w.heap.size) : SL (w.alloc o) lo hi A l c:=⟨h.1,h.2.1,h.2.2.1,h.2.2.2.alloc o hB⟩
theorem SL.nil (w : World) (lo hi : Nat) : SL w lo hi none [] 0:=⟨by simp,by omega,λ_=>rfl,BV.nil _ _ _ _⟩
theorem SL.cut (h : SL w lo hi A l c) {k : Nat} (hk : k <= l.length) : SL w lo hi (if c = k then A else A.map (·.add k)) (l.drop k) (c - k):=by
 refine ⟨by have:=h.1; simp; omega,by have:=h.2.1; omega,λhA=>?_,h.2.2.2.cut hk h.1⟩
 split at hA
 ·rw [h.2.2.1 hA]; omega
 ·cases A with
  | none=>rw [h.2.2.1 rfl]; omega
  | some a=>cases hA
end
theorem SL.none_ {w : World} {lo hi c : Nat} {A : Option Addr} {l : List UInt8} (h : SL w lo hi A l c) (hA : A = none) : l.length = 0 /\ c = 0:=by
 have:=h.2.2.1 hA;have:=h.1
 omega
theorem SL.cells {w : World} {lo hi c : Nat} {A : Option Addr} {l : List UInt8} (h : SL w lo hi A l c) : ∀ ad,A = some ad -> ∀ j u,(By l)[j]? = some u -> w.cell? (ad.add j) = some u:=by
 intro ad hA j u hu
 obtain ⟨x,hx,rfl⟩:=PE hu
 have hl : 0 < l.length:=by
  have:=(hH.1 hx).1
  omega
 obtain ⟨ad',hA',_,_,hc⟩:=h.2.2.2 hl;rw [hA] at hA'
 injection hA' with hA'
 subst hA';exact hc j x hx
def oM (w : World) (hi : Nat) (A : Option Addr) (ls : List (List UInt8)) : Prop :=
  0 < ls.length -> ∃ ad,A = some ad /\ ad.block < hi /\ ∀ (i : Nat) l,ls[i]? = some l -> ∃ A' c,w.cell? (ad.add i) = some (.slice A' l.length c) /\ SL w 0 hi A' l c
theorem oM.below {w w' : World} {hi B : Nat} {A : Option Addr} {ls : List (List UInt8)} (h : oM w hi A ls) (hb : Below B w w') (hB : hi <= B) : oM w' hi A ls:=λhl=>by
 obtain ⟨ad,rfl,ha,hc⟩:=h hl;refine ⟨ad,rfl,ha,λi l hi=>?_⟩;obtain ⟨A',c,h1,h2⟩:=hc i l hi;exact ⟨A',c,by rw [hb.cell (by rw [block_add]; omega)]; exact h1,h2.below hb hB⟩
theorem rB {P : Program} (w : World) (ty : TypeId) (g : Nat) (cs old : Array Value) (t : TypeId) (hg : w.heap[g]? = some (.cells old t (0,0)))
  (hi : (P.info? ty).map (·.size) = some cs.size) (hos : old.size = cs.size) (h1 : ∀ v ∈ cs.toList,v.oneCell' = true) :
  (CK ty (.pointer (some ⟨g,0,none⟩)) (.agg cs)).run P w = .ok () (w.setRow g cs):=by
 have hst:=run_storeCells_at P g 0 t cs.toList 0 old w hg (by simp; omega) h1;have hd : old.toList.drop cs.toList.length = []:=List.drop_eq_nil_of_le (by simp; omega);simp only [fJ,cW,List.take_zero,List.nil_append] at hst;rw [hd,cD,Array.toArray_toList] at hst
 cases hq : P.info? ty with
 | none=>simp [hq] at hi
 | some i =>
  have hs : i.size = cs.size:=by simpa [hq] using hi
  simp [CK,nJ,storeVar,sizeOf,typeInfo,hq,hs,CZ,aJ,hst]
theorem wpList_store_row {P : Program} {ops : Array Oper} {rest : List Oper} {o : Oper} {a : Act} {w : World} {Q : Exit -> Act -> World -> Prop} (hgd : o.guard = none) (ty : TypeId) (p x : Operand) (ho : o.op = .store ty p x)
  (g : Nat) (hp : a.eval p = .pointer (some ⟨g,0,none⟩)) (cs : Array Value) (hx : a.eval x = .agg cs) (t : TypeId) (old : Array Value) (hg : w.heap[g]? = some (.cells old t (0,0)))
  (hi : (P.info? ty).map (·.size) = some cs.size) (hos : old.size = cs.size) (h1 : ∀ v ∈ cs.toList,v.oneCell' = true)
  (h : wpList P ops Q rest (a.put o.dst (.tuple #[])) (w.setRow g cs)) : wpList P ops Q (o :: rest) a w :=
 wpList_plain hgd λ_ hK=>by
  unfold lR execOp
  simp only [ho,hp,hx,aJ,aI,aG,rB w ty g cs old t hg hi hos h1];exact hK _ _ h
theorem Blk.row {w : World} {g t : Nat} {cs : Array Value} (h : Blk w g t cs) (cs' : Array Value) : Blk (w.setRow g cs') g t cs':=setRow_heap w g cs cs' t _ h
theorem Blk.aR {w : World} {g t : Nat} {cs : Array Value} (h : Blk w g t cs) {g' : Nat} (hne : g ≠ g') (cs' : Array Value) : Blk (w.setRow g' cs') g t cs:=by
 unfold Blk at h ⊢
 rw [World.setRow];simp only [Mg];rw [if_neg (by omega)];exact h
def Is (l : List Int) : List Value:=l.map (.int .i64)
theorem fU {l : List UInt8} {j : Nat} (h : j < l.length) : (By l).toArray[j]? = some (.int .u8 ((l[j]!).toNat : Int)):=by
 simp [By,h]
theorem Blk.drew {w : World} {g t : Nat} {cs : Array Value} (h : Blk w g t cs) : Blk w.drew g t cs:=h
theorem mV (w : World) (t : Nat) (cs : Array Value) (o1 o2 : Obj) : Blk (((w.alloc (.cells cs t)).alloc o1).alloc o2) w.heap.size t cs:=((Blk.new w t cs).alloc o1).alloc o2
theorem lI (w : World) (t : Nat) (cs : Array Value) (o1 o2 : Obj) : Blk (((w.alloc o1).alloc (.cells cs t)).alloc o2) (w.heap.size + 1) t cs:=by
 have h:=(Blk.new (w.alloc o1) t cs).alloc o2
 rwa [aW] at h
theorem lV (w : World) (t : Nat) (cs : Array Value) (o1 o2 : Obj) : Blk (((w.alloc o1).alloc o2).alloc (.cells cs t)) (w.heap.size + 1 + 1) t cs:=by
 have h:=Blk.new ((w.alloc o1).alloc o2) t cs
 rwa [aW,aW] at h
theorem O9 (w : World) (t : Nat) (cs : Array Value) (o1 o2 o3 : Obj) : Blk ((((w.alloc (.cells cs t)).alloc o1).alloc o2).alloc o3) w.heap.size t cs:=(((Blk.new w t cs).alloc o1).alloc o2).alloc o3
theorem O8 (w : World) (t : Nat) (cs : Array Value) (o1 o2 o3 : Obj) : Blk ((((w.alloc o1).alloc (.cells cs t)).alloc o2).alloc o3) (w.heap.size + 1) t cs:=by
 have h:=((Blk.new (w.alloc o1) t cs).alloc o2).alloc o3
 rwa [aW] at h
theorem O7 (w : World) (t : Nat) (cs : Array Value) (o1 o2 o3 : Obj) : Blk ((((w.alloc o1).alloc o2).alloc (.cells cs t)).alloc o3) (w.heap.size + 1 + 1) t cs:=by
 have h:=(Blk.new ((w.alloc o1).alloc o2) t cs).alloc o3
 rwa [aW,aW] at h
theorem O6 (w : World) (t : Nat) (cs : Array Value) (o1 o2 o3 : Obj) : Blk ((((w.alloc o1).alloc o2).alloc o3).alloc (.cells cs t)) (w.heap.size + 1 + 1 + 1) t cs:=by
 have h:=Blk.new (((w.alloc o1).alloc o2).alloc o3) t cs
 rwa [aW,aW,aW] at h
theorem Pa (w : World) (o1 o2 o3 o4 : Obj) : Below w.heap.size w ((((w.alloc o1).alloc o2).alloc o3).alloc o4) :=
 ((((Below.refl _ _).alloc (aF _) _).alloc (by simp) _).alloc (by simp; omega) _).alloc (by simp; omega) _
def z32 : Array Value:=(By (List.replicate 32 0)).toArray
theorem fC (cs : Array Value) (h : cs.size = 32) : (Tryd.prog.info? 24).map (·.size) = some cs.size:=by
 rw [h]
 kernel_rfl
theorem rG (l : List UInt8) (k : Nat) (x : UInt8) : (By l).toArray.setIfInBounds k (.int .u8 (x.toNat : Int)) = (By (l.set k x)).toArray:=by
 simp [By,List.map_set]
theorem iY {l : List UInt8} (h : l.length = 32) : (By l).toArray.size = 32:=by rw [List.size_toArray,b6,h]
theorem UZ : (Tryd.prog.info? 5).map (λi=>(i.zero,i.size,i.bytes)) = some (some (.int .u8 0),1,1):=by kernel_rfl
theorem JW (w : World) (l : List UInt8) (i : Nat) (hi : i < l.length) : (part 5 (By l).toArray (i * 1)).run Tryd.prog w = .ok (.int .u8 (l[i].toNat : Int)) w:=by
 have hagg : (isAgg 5).run Tryd.prog w = .ok false w:=by
  unfold isAgg
  rw [aJ,run_underlying Tryd.underlying5 w]
  rfl
 have hc : (By l)[i]? = some (.int .u8 (l[i].toNat : Int)):=by simp [By,List.getElem?_eq_getElem hi]
 unfold part
 simp [aJ,hagg,hc,aI]
theorem SS (d : Nat) (x y : UInt8) (w : World) : (fI (d + 1) 5 (.int .u8 (x.toNat : Int)) (.int .u8 (y.toNat : Int))).run Tryd.prog w = .ok (decide (x = y)) w:=by
 simp [fI,run_underlying Tryd.underlying5]
 by_cases h : x = y
 ·simp [h]
 ·have h2 : ¬ x.toNat = y.toNat:=λe=>h (UInt8.toNat.inj e)
  simp [h]
  intro e
  exact h2 (by omega)
theorem rE (d n t : Nat) (l m : List UInt8) (ht : Tryd.prog.underlying t = some (.array n 5)) (hl : l.length = n) (hm : m.length = n) (w : World) :
  (fI (d + 2) t (.agg (By l).toArray) (.agg (By m).toArray)).run Tryd.prog w = .ok (decide (l = m)) w:=by
 obtain ⟨i0,hi0,hz0,hz1,hz2⟩:=info_parts UZ
 have hI : ∀ (I : List Nat),(∀ i ∈ I,i < n) -> (forIn I ((none : Option Bool),()) λi _=>do
   let a <-part 5 (By l).toArray (i * 1)
   let b <-part 5 (By m).toArray (i * 1)
   let r <-fI (d + 1) 5 a b
   if (!r) = true then pure (ForInStep.done (some false,())) else pure (ForInStep.yield (none,()))).run Tryd.prog w = .ok (if ∀ i ∈ I,l[i]! = m[i]! then (none,()) else (some false,())) w:=by
  intro I
  induction I with
  | nil=>intro _; simp [aI]
  | cons i I ih =>
   intro h
   have hi : i < l.length:=by have:=h i (by simp); omega
   have hj : i < m.length:=by have:=h i (by simp); omega
   have hp:=JW w l i hi;have hq:=JW w m i hj;have he:=SS d l[i] m[i] w;have e1 : l[i]! = l[i]:=getElem!_pos l i hi;have e2 : m[i]! = m[i]:=getElem!_pos m i hj
   by_cases hx : l[i] = m[i]
   ·rw [show decide (l[i] = m[i]) = true by simp [hx]] at he
    simp only [Mf,aJ,hp,hq,aG,he,Bool.not_true,uX,if_false,aI];rw [ih (λj hj=>h j (by simp [hj]))]
    congr 1
    by_cases ha : ∀ i ∈ I,l[i]! = m[i]!
    ·have hb : ∀ j ∈ i :: I,l[j]! = m[j]!:=by
      intro j hj
      rcases List.mem_cons.mp hj with rfl | hj
      ·rw [e1,e2,hx]
      ·exact ha j hj
     rw [if_pos ha,if_pos hb]
    ·rw [if_neg ha,if_neg (λhb=>ha λj hj=>hb j (bE _ hj))]
   ·rw [show decide (l[i] = m[i]) = false by simp [hx]] at he
    simp only [Mf,aJ,hp,hq,aG,he,Bool.not_false,if_true,aI];rw [if_neg (λhb=>hx (by have:=hb i (List.mem_cons_self ..); rw [e1,e2] at this; exact this))]
 rw [fI];simp only [aJ,run_underlying ht,aG,sizeOf,typeInfo,run_program,hi0,hz1,aI,Std.Legacy.Range.forIn_eq_forIn_range']
 rw [hI _ (λi hi=>by
  have:=nI.1 hi
  simp [jB] at this
  omega)]
 by_cases hlm : l = m
 ·subst hlm
  simp [aI]
 ·have hne : ¬ ∀ i ∈ List.range' 0 n 1,l[i]! = m[i]!:=λha=>hlm (by
   apply List.ext_getElem (by rw [hl,hm])
   intro i h1 h2
   have:=ha i (nI.2 (by omega))
   rwa [getElem!_pos l i h1,getElem!_pos m i h2] at this)
  have hs : jB [:n] = n:=by simp [jB]
  rw [hs,if_neg hne,show decide (l = m) = false by simp [hlm]]
  rfl
theorem Bn (l m : List UInt8) (hl : l.length = 32) (hm : m.length = 32) (w : World) : (fI 10000 24 (.agg (By l).toArray) (.agg (By m).toArray)).run Tryd.prog w = .ok (decide (l = m)) w:=rE 9998 32 24 l m Tryd.underlying24 hl hm w
end Go.Proofs.YtfkchihlchlfdaaDoor
namespace Go.Proofs.YtfkchihlchlfdaaDoor
open Go.RowKit Go.IntWalk
def jI : Op -> Bool
  | .move _ | .assign _ | .pick .. | .alloc _ | .box .. | .build .. | .load .. | .store .. | .binOp .. | .unOp .. | .convert .. | .fieldAddr .. | .field .. | .indexAddr .. | .index .. | .extract .. | .slice .. | .makeInterface ..=>true
  | _=>false
def B0 : Op -> Bool
  | .call c=>match c.callee with | .builtin .len=>false | _=>true
  | o=>!jI o
theorem Nn {o : Op} (h : B0 o = true) : jI o = false:=by
 cases o <;> first | rfl | exact absurd h (by simp [B0,jI])
section
variable {P : Program}
theorem MU {s : Sem Value} {w w' : World} {n : Next} (h : (do pure (Next.value (<-s)) : Sem Next).run P w = .ok n w') : ∃ v,n = .value v:=by
 rw [aJ] at h
 cases hs : s.run P w with
 | ok v w1 =>
  rw [hs] at h;simp only [aG,aI] at h
  injection h with h1 h2
  exact ⟨v,h1.symm⟩
 | halt x w1 =>
  rw [hs] at h
  cases h
theorem Uq {s : Sem Unit} {w w' : World} {n : Next} (h : (do s; pure Next.skip : Sem Next).run P w = .ok n w') : n = .skip:=by
 rw [aJ] at h
 cases hs : s.run P w with
 | ok v w1 =>
  rw [hs] at h;simp only [aG,aI] at h
  injection h with h1 h2
  exact h1.symm
 | halt x w1 =>
  rw [hs] at h
  cases h
theorem F7 {ρ : Operand -> Value} {o : Oper} (hp : jI o.op = true) {w w' : World} {n : Next} (h : (execOp ρ o).run P w = .ok n w') : (∃ v,n = .value v) \/ n = .skip:=by
  obtain ⟨dst,op,ty,pos,af,gd⟩:=o
  cases op <;> first
    | (cases hp; done)
    | exact .inl (MU h)
    | exact .inr (Uq h)
    | (refine .inl ?_
       unfold execOp at h
       simp only [aI] at h
       injection h with h1 h2
       exact ⟨_,h1.symm⟩)
    | (refine .inl ?_
       unfold execOp at h
       exact MU (s:=do pure (if <-asBool _ then _ else _)) (by simpa using h))
end
section
variable {P : Program} {ops : Array Oper} {md : fE} {Q : Exit -> Act -> World -> Prop} {C0 : World -> Prop}
def oY (P : Program) (w : World) (V : Value -> Prop) : Result Next -> Prop
  | .ok (.value u) w'=>w' = w /\ V u
  | .ok .skip w'=>w' = w /\ V undef
  | .ok (.enter f args) w'=>w' = w /\ Calls P f args w (λe w''=>∃ v,e = .returned v /\ V v /\ Below w.heap.size w w'')
  | _=>False
def atB (P : Program) (o : Oper) (a : Act) (w : World) (V : Value -> Prop) : Prop:=oY P w V ((execOp a.eval o).run P w)
def Il (P : Program) (o : Oper) (a : Act) (C0 : World -> Prop) (next : Act -> Prop) : Prop :=
  (∃ v,(∀ w,C0 w -> atB P o a w (· = v)) /\ next (a.put o.dst v)) \/ (B0 o.op = true /\ ∃ V,(∀ w,C0 w -> atB P o a w V) /\ ∀ v,V v -> next (a.put o.dst v))
def wpB (P : Program) (ops : Array Oper) (C0 : World -> Prop) (Q : Act -> Prop) : List Oper -> Act -> Prop
  | [],a=>Q a
  | o :: rest,a=>if aL o (yielded ops a.tmps) then Il P o a C0 (wpB P ops C0 Q rest) else wpB P ops C0 Q rest (a.put o.dst undef)
theorem cL {Q : Act -> Prop} {a : Act} (h : Q a) : wpB P ops C0 Q [] a:=h
theorem FY {Q Q' : Act -> Prop} (h : ∀ a,Q a -> Q' a) {o : Oper} {a : Act} (hh : Il P o a C0 Q) : Il P o a C0 Q':=by
 rcases hh with ⟨v,h1,h2⟩ | ⟨hp,V,h1,h2⟩
 ·exact .inl ⟨v,h1,h _ h2⟩
 ·exact .inr ⟨hp,V,h1,λv hv=>h _ (h2 v hv)⟩
theorem kE {Q Q' : Act -> Prop} (h : ∀ a,Q a -> Q' a) : ∀ (l : List Oper) (a : Act),wpB P ops C0 Q l a -> wpB P ops C0 Q' l a
 | [],a,hh=>h a hh
 | o :: l,a,hh=>by
  unfold wpB at hh ⊢
  split
  ·rename_i hw
   simp only [hw,if_true] at hh;exact FY (kE h l) hh
  ·rename_i hw
   simp only [hw] at hh;exact kE h l _ (by simpa using hh)
def iU (P : Program) (ops : Array Oper) (C0 : World -> Prop) (o : Oper) (V : Value -> Prop) (a : Act) : Prop :=
  (aL o (yielded ops a.tmps) = true /\ ∀ w,C0 w -> atB P o a w V) \/ (aL o (yielded ops a.tmps) = false /\ V undef)
theorem iU.of_same {o : Oper} {V : Value -> Prop} {a a' : Act} (hy : iU P ops C0 o V a) (he : execOp a'.eval o = execOp a.eval o)
  (hw : aL o (yielded ops a'.tmps) = aL o (yielded ops a.tmps)) : iU P ops C0 o V a':=by
 unfold iU atB at *
 rw [he,hw];exact hy
theorem iU.any {o : Oper} {V : Value -> Prop} {a : Act} (hy : iU P ops C0 o V a) {w : World} (hC : C0 w) : ∃ v,V v:=by
 rcases hy with ⟨_,h⟩ | ⟨_,h⟩
 ·have h3:=h w hC
  unfold atB at h3
  generalize (execOp a.eval o).run P w = r at *
  cases r with
  | ok n w' =>
   cases n <;> simp only [oY] at h3
   case value u=>exact ⟨u,h3.2⟩
   case skip=>exact ⟨_,h3.2⟩
   case enter f args =>
    obtain ⟨e,w1,fr,⟨v,_,hv,_⟩,_⟩:=h3.2 [];exact ⟨v,hv⟩
  | halt x w'=>simp only [oY] at h3
 ·exact ⟨_,h⟩
theorem iU.wpOp {i : Nat} {o : Oper} {V : Value -> Prop} {a : Act} (hi : ops[i]? = some o) (hy : iU P ops C0 o V a)
  {K : Act -> World -> Prop} {w : World} (hC : C0 w) (h : ∀ v w',V v -> Below w.heap.size w w' -> K (a.put o.dst v) w') : wpOp P ops Q i K a w:=by
 unfold Go.wpOp
 simp only [hi]
 rcases hy with ⟨hw,hv⟩ | ⟨hw,hv⟩
 ·simp only [hw,if_true]
  refine .inl ?_;have h3:=hv w hC
  unfold atB at h3
  unfold lR
  generalize (execOp a.eval o).run P w = r at *
  cases r with
  | ok n w' =>
   cases n <;> simp only [oY] at h3 <;> simp only [jR]
   case value u =>
    obtain ⟨e1,e2⟩:=h3;rw [e1];exact h _ _ e2 (Below.refl _ _)
   case skip =>
    obtain ⟨e1,e2⟩:=h3;rw [e1];exact h _ _ e2 (Below.refl _ _)
   case enter f args =>
    obtain ⟨e1,hc⟩:=h3;rw [e1]
    exact hc.mono λe w'' ⟨v,he,hv,hw''⟩=>by subst he; exact h _ _ hv hw''
  | halt x w'=>simp only [oY] at h3
 ·simp only [hw,uX,if_false]; exact h _ _ hv (Below.refl _ _)
theorem C7 {j : Nat} {oi oj : Oper} {V : Value -> Prop} (hj : ops[j]? = some oj) (hap : oi.apart ops oj = true)
  (hsi : ∀ cs b,oi.op ≠ .select cs b) (hsj : ∀ cs b,oj.op ≠ .select cs b) (hne : ∃ v,V v) (hpl : jI oj.op = true \/ ∃ v,∀ u,V u -> u = v)
  (hQ : ∀ c a d v w,Q (.panic c) (a.put d v) w -> Q (.panic c) a w) {K : Act -> World -> Prop} {a : Act} {w : World}
  (hy : iU P ops C0 oi V a) (h : ∀ v,V v -> wpOp P ops Q j K (a.put oi.dst v) w) :
  wpOp P ops Q j (λa' w'=>iU P ops C0 oi V a' /\ ∀ v,V v -> K (a'.put oi.dst v) w') a w:=by
 obtain ⟨h1,h2,h3⟩:=Oper.apart_spec hap
 have kH : ∀ (a : Act),iU P ops C0 oi V a -> ∀ u,iU P ops C0 oi V (a.put oj.dst u):=λa hy u =>
  hy.of_same (execOp_put oi hsi a oj.dst u h3) (wanted_put oi a oj.dst u h3)
 have keepD : ∀ d,iU P ops C0 oi V { a with defers:=d :: a.defers }:=λd=>hy.of_same rfl rfl;obtain ⟨v0,hv0⟩:=hne
 unfold wpOp at *
 simp only [hj] at *;have hwt : ∀ v,aL oj (yielded ops (a.put oi.dst v).tmps) = aL oj (yielded ops a.tmps):=λv=>wanted_put oj a oi.dst v h1
 split
 ·rename_i hw
  by_cases hasks : oj.asks P a w /\ LetsOut Q
  ·exact .inr hasks
  have hl : ∀ v,V v -> oj.wp P (a.put oi.dst v) w K Q:=λv hv=>by
   have h5:=h v hv;rw [hwt v] at h5;simp only [hw,if_true] at h5
   rcases h5 with h5 | ⟨h5,h6⟩
   ·exact h5
   ·refine absurd ⟨?_,h6⟩ hasks
    unfold Oper.asks at *
    rw [execOp_put oj hsj a oi.dst v h1] at h5;exact h5
  refine .inl ?_
  unfold lR at *
  have hl2 : ∀ v,V v -> oj.upon P (a.put oi.dst v) K Q ((execOp a.eval oj).run P w):=λv hv=>by
   have h5:=hl v hv;rw [execOp_put oj hsj a oi.dst v h1] at h5;exact h5
  have hpn:=λn w'=>F7 (P:=P) (ρ:=a.eval) (o:=oj) (w:=w) (w':=w') (n:=n);generalize (execOp a.eval oj).run P w = r at *
  cases r with
  | ok n w' =>
   cases n
   case value u=>exact ⟨kH a hy u,λv hv=>by rw [<-oQ a v u h2]; exact hl2 v hv⟩
   case skip=>exact ⟨kH a hy _,λv hv=>by rw [<-oQ a v undef h2]; exact hl2 v hv⟩
   all_goals
    rcases hpl with hpl | ⟨vv,hvv⟩
    ·rcases hpn _ _ hpl rfl with ⟨v,hv⟩ | hv <;> cases hv
   case enter.inr f args =>
    have h5:=hl2 v0 hv0;simp only [jR] at h5 ⊢;refine Calls.mono h5 λe w'' he=>?_
    cases e with
    | returned u=>exact ⟨kH a hy u,λv hv=>by rw [hvv v hv,<-hvv v0 hv0,<-oQ a v0 u h2]; exact he⟩
    | panicked c=>exact hQ _ _ _ _ _ he
    | outgrown=>exact he
   case row.inr row args =>
    have h5:=hl2 v0 hv0;simp only [jR] at h5 ⊢;exact Rows.mono h5 λu w'' he=>⟨kH a hy u,λv hv=>by rw [hvv v hv,<-hvv v0 hv0,<-oQ a v0 u h2]; exact he⟩
   case defer.inr d =>
    refine ⟨kH _ (keepD d) _,λv hv=>?_⟩;have h5:=hl2 v hv;simp only [jR] at h5;rw [<-oQ _ v undef h2,<-Act.put_defers];exact h5
   all_goals
    have h5:=hl2 v0 hv0;simp only [jR] at h5
  | halt x w' =>
   have h5:=hl2 v0 hv0
   cases x <;> simp only [jR] at h5 ⊢
   case panic u=>exact hQ _ _ _ _ _ h5
 ·rename_i hw
  refine ⟨kH a hy _,λv hv=>?_⟩;have h5:=h v hv;rw [hwt v] at h5;simp only [hw] at h5;rw [<-oQ a v undef h2]
  simpa using h5
def iJ (md : fE) (ops : Array Oper) : Nat -> Nat -> Nat -> Bool
  | 0,_,_=>false
  | f + 1,j,i=>match ops[j]? with
    | none=>false
    | some oj=>oj.after.any λe=>eL md e && (e.on == i || iJ md ops f e.on i)
def jA (md : fE) (ops : Array Oper) (listed : Array Bool) : Prop :=
  ∀ j oj,ops[j]? = some oj -> listed.getD j false = true -> ∀ e ∈ oj.after,eL md e = true -> listed.getD e.on false = true
theorem jA.waits {listed : Array Bool} (hc : jA md ops listed) : ∀ (f j i : Nat) (oj : Oper),ops[j]? = some oj -> (∀ e ∈ oj.after,eL md e = true -> listed.getD e.on false = true) ->
  iJ md ops f j i = true -> listed.getD i false = true
 | 0,_,_,_,_,_,h=>by cases h
 | f + 1,j,i,oj,hj,hl,h=>by
  unfold iJ at h
  rw [hj] at h;obtain ⟨e,he,hb⟩:=fB.1 h;simp only [aV,fG,beq_iff_eq] at hb;obtain ⟨hb1,hb2⟩:=hb;have h1:=hl e he hb1
  rcases hb2 with hb2 | hb2
  ·rw [<-hb2]; exact h1
  ·cases ho : ops[e.on]? with
   | none =>
    cases f with
    | zero=>cases hb2
    | succ f=>unfold iJ at hb2; rw [ho] at hb2; cases hb2
   | some oe=>exact jA.waits hc f e.on i oe ho (hc e.on oe ho h1) hb2
theorem jA.set {listed : Array Bool} (hc : jA md ops listed) {i : Nat} (hi : i ∈ bQ md ops listed) : jA md ops (listed.setIfInBounds i true):=by
 obtain ⟨_,oi,hoi,hall⟩:=mem_ready.1 hi
 intro j oj hj hl e he hb
 by_cases hij : i = j
 ·subst hij
  obtain rfl : oj = oi:=eW (hj.symm.trans hoi);exact getD_set_true (hall e he hb)
 ·rw [getD_set_ne false hij] at hl
  exact getD_set_true (hc j oj hj hl e he hb)
theorem jA.none (n : Nat) : jA md ops (bD n false):=λj _ _ hl=>by
 rw [getD_replicate_false] at hl
 cases hl
def lB (P : Program) (md : fE) (ops : Array Oper) (C0 : World -> Prop) (Q : Exit -> Act -> World -> Prop) (n m : Nat) : Nat -> World -> Array Bool -> Act -> Prop
  | 0,w0,listed,a=>(∀ j ∈ bQ md ops listed,∀ i,i < n -> iJ md ops ops.size j i = true) /\ ∀ w,Below w0.heap.size w0 w -> wpAny P md ops Q m listed a w
  | fuel + 1,w0,listed,a =>
    bQ md ops listed ≠ [] /\
    ∀ i ∈ bQ md ops listed,∀ w,Below w0.heap.size w0 w -> wpOp P ops Q i (λa' w'=>C0 w' /\ lB P md ops C0 Q n m fuel w' (listed.setIfInBounds i true) a') a w
theorem As {n m fuel : Nat} {w0 w1 : World} {listed : Array Bool} {a : Act} (hb : Below w0.heap.size w0 w1) (h : lB P md ops C0 Q n m fuel w0 listed a) : lB P md ops C0 Q n m fuel w1 listed a:=by
 cases fuel with
 | zero=>exact ⟨h.1,λw hw=>h.2 w (hb.trans (hw.mono hb.size))⟩
 | succ fuel=>exact ⟨h.1,λi hi w hw=>h.2 i hi w (hb.trans (hw.mono hb.size))⟩
theorem pN {n m : Nat} : ∀ (fuel : Nat) (listed : Array Bool) (a : Act) (w : World),lB P md ops C0 Q n m fuel w listed a -> wpAny P md ops Q (m + fuel) listed a w
 | 0,_,_,w,h=>h.2 w (Below.refl _ _)
 | fuel + 1,_,_,w,h=>⟨λh0=>absurd h0 h.1,λi hi=>wpOp_mono (λa' w' h'=>pN fuel _ a' w' h'.2) (h.2 i hi w (Below.refl _ _))⟩
theorem nR {i : Nat} {listed : Array Bool} (hi : i ∈ bQ md ops listed) : listed.getD i false = false:=getD_both (mem_ready.1 hi).1
theorem D1 {n m i F : Nat} {oi : Oper} {V : Value -> Prop} (hcl : ∀ w w',C0 w -> Below w.heap.size w w' -> C0 w') (hin : i < n) (hi : ops[i]? = some oi) (hsel : ∀ (j : Nat) (o : Oper) cs b,ops[j]? = some o -> o.op ≠ .select cs b)
  (hQ : ∀ c a d v w,Q (.panic c) (a.put d v) w -> Q (.panic c) a w) :
  ∀ (fuel : Nat) (w0 : World) (listed : Array Bool) (a : Act),C0 w0 -> jA md ops listed ->
   (∀ j oj,ops[j]? = some oj -> j ≠ i -> listed.getD j true = false -> (∀ e ∈ oj.after,eL md e = true -> e.on ≠ i) -> oi.apart ops oj = true) ->
   ((∃ v,∀ u,V u -> u = v) \/ ∀ j oj,ops[j]? = some oj -> j ≠ i -> listed.getD j true = false -> jI oj.op = true \/ iJ md ops F j i = true) ->
   i ∈ bQ md ops listed -> iU P ops C0 oi V a ->
   (∀ v,V v -> lB P md ops C0 Q n m fuel w0 (listed.setIfInBounds i true) (a.put oi.dst v)) -> lB P md ops C0 Q n m (fuel + 1) w0 listed a:=by
 intro fuel
 induction fuel with
 | zero =>
  intro w0 listed a hC hcs _ _ hr hy H
  refine ⟨λh=>(by rw [h] at hr; cases hr),λj hj w hw=>?_⟩
  by_cases hji : j = i
  ·subst hji; exact hy.wpOp hi (hcl w0 w hC hw) λv w' hv hw'=>⟨hcl w w' (hcl w0 w hC hw) hw',As (hw.trans (hw'.mono hw.size)) (H v hv)⟩
  ·obtain ⟨v,hv⟩:=hy.any hC
   have h1:=(H v hv).1 j (ready_mono hj hji) i hin;obtain ⟨_,oj,hoj,hall⟩:=mem_ready.1 hj;have h6:=hcs.waits _ j i oj hoj hall h1;rw [nR hr] at h6
   cases h6
 | succ fuel ih =>
  intro w0 listed a hC hcs hfree hpl hr hy H
  refine ⟨λh=>(by rw [h] at hr; cases hr),λj hj w hw=>?_⟩
  by_cases hji : j = i
  ·subst hji; exact hy.wpOp hi (hcl w0 w hC hw) λv w' hv hw'=>⟨hcl w w' (hcl w0 w hC hw) hw',As (hw.trans (hw'.mono hw.size)) (H v hv)⟩
  ·obtain ⟨hjun,oj,hoj,hall⟩:=mem_ready.1 hj
   have hnot : ∀ e ∈ oj.after,eL md e = true -> e.on ≠ i:=λe he hb heq=>by
    have h1:=hall e he hb;rw [heq,nR hr] at h1
    cases h1
   have hpj : jI oj.op = true \/ ∃ v,∀ u,V u -> u = v:=by
    rcases hpl with hpl | hpl
    ·exact .inr hpl
    ·rcases hpl j oj hoj hji hjun with h5 | h5
     ·exact .inl h5
     ·have h6:=hcs.waits F j i oj hoj hall h5
      rw [nR hr] at h6
      cases h6
   have h2:=C7 hoj (hfree j oj hoj hji hjun hnot) (λcs b=>hsel i oi cs b hi) (λcs b=>hsel j oj cs b hoj) (hy.any hC) hpj hQ hy
    (λv hv=>(H v hv).2 j (ready_mono hj hji) w hw)
   have hun' : ∀ k,(listed.setIfInBounds j true).getD k true = false -> listed.getD k true = false:=λk hun=>by
    by_cases hjk : j = k
    ·subst hjk; exact hjun
    ·rw [getD_set_ne true hjk] at hun; exact hun
   refine wpOp_mono (λa' w' h3=>?_) h2;obtain ⟨hy',h4⟩:=h3;obtain ⟨v0,hv0⟩:=hy.any hC;have hC':=(h4 v0 hv0).1;refine ⟨hC',ih w' (listed.setIfInBounds j true) a' hC' (hcs.set hj) (λk ok hk hki hun hno=>hfree k ok hk hki (hun' k hun) hno) (hpl.imp id λhpl k ok hk hki hun=>hpl k ok hk hki (hun' k hun)) (ready_mono hr (Ne.symm hji)) hy' λv hv=>?_⟩;rw [Array.setIfInBounds_comm _ _ hji];exact (h4 v hv).2
def marks : Nat -> Nat -> Array Bool -> Array Bool
  | 0,_,listed=>listed
  | n + 1,k,listed=>marks n (k + 1) (listed.setIfInBounds k true)
def Bh (md : fE) (ops : Array Oper) (listed : Array Bool) (k : Nat) : Bool :=
  match ops[k]? with
  | none=>true
  | some ok=>jI ok.op || (sH ops.size).all λj=>j == k || listed.getD j true || iJ md ops ops.size j k || match ops[j]? with
    | some oj=>jI oj.op
    | none=>true
theorem D8 {listed : Array Bool} {k : Nat} {ok : Oper} (hk : ops[k]? = some ok) (hp : jI ok.op = false) (h : Bh md ops listed k = true) (j : Nat) (oj : Oper) (hj : ops[j]? = some oj) (hne : j ≠ k)
  (hun : listed.getD j true = false) : jI oj.op = true \/ iJ md ops ops.size j k = true:=by
 unfold Bh at h
 simp only [hk,hp,Bool.false_or,cE,lK] at h;have h1:=h j (cZ.1 hj).1;simp only [hj,fG,beq_iff_eq,hne,false_or,hun,uX] at h1;exact h1.symm
def Cg (md : fE) (ops : Array Oper) : Nat -> Nat -> Array Bool -> Bool
  | 0,_,_=>true
  | fuel + 1,k,listed=>(bQ md ops listed).contains k && Region.free md ops listed k && Bh md ops listed k && Cg md ops fuel (k + 1) (listed.setIfInBounds k true)
def kA (md : fE) (ops : Array Oper) : Nat -> Nat -> Array Bool -> Bool
  | 0,_,listed=>(bQ md ops listed).isEmpty
  | fuel + 1,k,listed=>decide (bQ md ops listed = [k]) && kA md ops fuel (k + 1) (listed.setIfInBounds k true)
def D4 (md : fE) (ops : Array Oper) (n : Nat) (listed : Array Bool) : Bool :=
  (bQ md ops listed).all λj=>(sH n).all λi=>iJ md ops ops.size j i
theorem oH {n m : Nat} (hcl : ∀ w w',C0 w -> Below w.heap.size w w' -> C0 w') (hs : s8 ops = true) (hQ : ∀ c a d v w,Q (.panic c) (a.put d v) w -> Q (.panic c) a w) (fuel : Nat) (w0 : World) (hC : C0 w0) :
  ∀ (l : List Oper) (k : Nat) (listed : Array Bool) (a : Act),jA md ops listed -> k + l.length <= n -> (∀ j,j < l.length -> l[j]? = ops[k + j]?) -> Cg md ops l.length k listed = true ->
  wpB P ops C0 (λa'=>lB P md ops C0 Q n m fuel w0 (marks l.length k listed) a') l a -> lB P md ops C0 Q n m (fuel + l.length) w0 listed a
 | [],_,_,_,_,_,_,_,h=>h
 | o :: l,k,listed,a,hcs,hn,hl,hB,h=>by
  have h0 : ops[k]? = some o:=by simpa using (hl 0 (by simp)).symm
  simp only [bW] at hn;simp only [bW,Cg,aV] at hB;obtain ⟨⟨⟨hr,hf⟩,hsf⟩,hB'⟩:=hB
  have hr' : k ∈ bQ md ops listed:=by simpa using hr
  have hy : ∃ V,iU P ops C0 o V a /\ ((∃ v,∀ u,V u -> u = v) \/ jI o.op = false) /\ ∀ v,V v -> wpB P ops C0 (λa'=>lB P md ops C0 Q n m fuel w0 (marks (l.length + 1) k listed) a') l (a.put o.dst v):=by
   by_cases hw : aL o (yielded ops a.tmps) = true
   ·simp only [wpB,hw,if_true,bW] at h
    rcases h with ⟨v,h1,h2⟩ | ⟨hp,V,h1,h2⟩
    ·exact ⟨(· = v),.inl ⟨hw,h1⟩,.inl ⟨v,λ_ hu=>hu⟩,λu hu=>by rw [hu]; exact h2⟩
    ·exact ⟨V,.inl ⟨hw,h1⟩,.inr (Nn hp),h2⟩
   ·simp only [wpB,hw,bW] at h
    exact ⟨(· = undef),.inr ⟨by simpa using hw,rfl⟩,.inl ⟨undef,λ_ hu=>hu⟩,λu hu=>by rw [hu]; simpa using h⟩
  obtain ⟨V,hy,hV,hK⟩:=hy;rw [bW,<-dI]
  exact D1 hcl (by omega) h0 (Region.noSelect_spec hs) hQ (fuel + l.length) w0 listed a hC hcs (Region.free_spec h0 hf) (hV.imp id λhp=>D8 h0 hp hsf) hr' hy λv hv =>
   oH hcl hs hQ fuel w0 hC l (k + 1) _ _ (hcs.set hr') (by omega) (λj hj=>by have:=hl (j + 1) (by simpa using hj); simpa [dI,qL 1 j] using this) hB' (hK v hv)
theorem jX : ∀ (l : List Oper) (k : Nat) (listed : Array Bool) (a : Act) (w : World),(∀ j,j < l.length -> l[j]? = ops[k + j]?) -> kA md ops l.length k listed = true ->
  wpList P ops Q l a w -> wpAny P md ops Q l.length listed a w
 | [],_,_,_,_,_,hB,h=>⟨by simpa [kA] using hB,h⟩
 | o :: l,k,listed,a,w,hl,hB,h=>by
  have h0 : ops[k]? = some o:=by simpa using (hl 0 (by simp)).symm
  simp only [bW,kA,aV,decide_eq_true_eq] at hB;obtain ⟨hr,hB'⟩:=hB;refine ⟨λe=>(by rw [hr] at e; cases e),λi hi=>?_⟩;rw [hr,cG] at hi;subst hi
  have hl' : ∀ j,j < l.length -> l[j]? = ops[i + 1 + j]?:=λj hj=>by have:=hl (j + 1) (by simpa using hj); simpa [dI,qL 1 j] using this
  unfold wpOp
  simp only [h0]
  unfold wpList at h
  split
  ·rename_i hw
   simp only [hw,if_true] at h;exact h.imp (Oper.wp_mono λa' w' h'=>jX l (i + 1) _ a' w' hl' hB' h') id
  ·rename_i hw
   simp only [hw] at h;exact jX l (i + 1) _ _ _ hl' hB' (by simpa using h)
def nE (ops : Array Oper) (n : Nat) (k : Nat) (m : Nat) : Bool :=
  s8 ops && Cg .any ops n 0 (bD ops.size false) && decide (ops.size = m + k + n) &&
    D4 .any ops (k + n) (marks k n (marks n 0 (bD ops.size false))) && kA .any ops m (k + n) (marks k n (marks n 0 (bD ops.size false)))
theorem Fm {id : Nat} {a : Act} {w : World} {L T : List Oper} (C0 : World -> Prop) (hm : P.follows .mixedOrders = true) (hB : nE (L ++ T).toArray L.length 0 T.length = true)
  (hcl : ∀ w w',C0 w -> Below w.heap.size w w' -> C0 w') (hC : C0 w.drew) (hQ : ∀ c a d v w,Q (.panic c) (a.put d v) w -> Q (.panic c) a w)
  (h : wpB P (L ++ T).toArray C0 (λa'=>∀ w',C0 w' -> wpList P (L ++ T).toArray Q T a' w') L a) : (jP id (L ++ T).toArray true).wp P Q a w:=by
 simp only [nE,aV,decide_eq_true_eq,cW,fJ,marks] at hB;obtain ⟨⟨⟨⟨hs,hh⟩,hz⟩,hsk⟩,hf⟩:=hB;refine wp_region_any hm ?_
 have hG : lB P .any (L ++ T).toArray C0 Q L.length T.length (0 + L.length) w.drew (bD (L ++ T).toArray.size false) a:=by
  refine oH hcl hs hQ 0 w.drew hC L 0 _ a (jA.none _) (by omega) (λj hj=>by simp [vW hj]) hh ?_;refine kE (λa' h'=>⟨λj hj i hi=>?_,λw' hw'=>?_⟩) L a h
  ·have h1:=cE.1 hsk j hj
   exact cE.1 h1 i (lK.2 hi)
  ·exact jX T L.length _ a' w' (λj _=>by simp [kK]) hf (h' w' (hcl _ _ hC hw'))
 have h2:=pN (0 + L.length) _ a w.drew hG;rw [cW,<-hz] at h2;exact h2
theorem wV {n m ia base fuel ty : Nat} {zs : Array Value} {w0 : World} {listed : Array Bool} {a : Act} {oa : Oper} (ho : ops[ia]? = some oa) (hg : oa.guard = none)
  (hrun : ∀ (a : Act) w,(execOp a.eval oa).run P w = .ok (.value (.pointer (some ⟨w.heap.size,0,none⟩))) (w.alloc (.cells zs ty)))
  (hcl : ∀ w w',C0 w -> Below w.heap.size w w' -> C0 w') (hb : ∀ w,C0 w -> base <= w.heap.size) (hC : C0 w0)
  (h : ∀ w,Below w0.heap.size w0 w -> C0 w -> base <= w.heap.size -> lB P md ops C0 Q n m fuel (w.alloc (.cells zs ty)) (listed.setIfInBounds ia true) (a.put oa.dst (.pointer (some ⟨w.heap.size,0,none⟩)))) :
  ∀ w,Below w0.heap.size w0 w -> wpOp P ops Q ia (λa' w'=>C0 w' /\ lB P md ops C0 Q n m fuel w' (listed.setIfInBounds ia true) a') a w:=by
 intro w hw
 unfold wpOp
 simp only [ho];rw [if_pos (by simp [aL,hg])];refine .inl ?_
 unfold lR
 rw [hrun];have hC1:=hcl w0 w hC hw;exact ⟨hcl w _ hC1 ((Below.refl w.heap.size w).alloc (aF _) (.cells zs ty)),h w hw hC1 (hb w hC1)⟩
theorem Blk.later {w w' : World} {g t : Nat} {cs : Array Value} (h : Blk w g t cs) (hb : Below w.heap.size w w') : Blk w' g t cs:=h.below hb h.lt
theorem CL {id : Nat} {a : Act} {w : World} {L T : List Oper} {oa : Oper} (C0 : World -> Prop) (base ty : Nat) (zs : Array Value) (hm : P.follows .mixedOrders = true)
  (hB : nE (L ++ oa :: T).toArray L.length 1 T.length = true) (hr : bQ .any (L ++ oa :: T).toArray (marks L.length 0 (bD (L ++ oa :: T).toArray.size false)) = [L.length])
  (hcl : ∀ w w',C0 w -> Below w.heap.size w w' -> C0 w') (hb : ∀ w,C0 w -> base <= w.heap.size) (hC : C0 w.drew) (hQ : ∀ c a d v w,Q (.panic c) (a.put d v) w -> Q (.panic c) a w)
  (hg : oa.guard = none) (hrun : ∀ (a : Act) w,(execOp a.eval oa).run P w = .ok (.value (.pointer (some ⟨w.heap.size,0,none⟩))) (w.alloc (.cells zs ty)))
  (h : wpB P (L ++ oa :: T).toArray C0 (λa'=>∀ p w',C0 w' -> base <= p -> Blk w' p ty zs -> wpList P (L ++ oa :: T).toArray Q T (a'.put oa.dst (.pointer (some ⟨p,0,none⟩))) w') L a) :
  (jP id (L ++ oa :: T).toArray true).wp P Q a w:=by
 simp only [nE,aV,decide_eq_true_eq] at hB;obtain ⟨⟨⟨⟨hs,hh⟩,hz⟩,hsk⟩,hf⟩:=hB;refine wp_region_any hm ?_
 have hG : lB P .any (L ++ oa :: T).toArray C0 Q (1 + L.length) T.length (1 + L.length) w.drew (bD (L ++ oa :: T).toArray.size false) a:=by
  refine oH hcl hs hQ 1 w.drew hC L 0 _ a (jA.none _) (by omega) (λj hj=>by simp [vW hj]) hh ?_;refine kE (λa' h'=>⟨by rw [hr]; exact List.cons_ne_nil _ _,λi hi=>?_⟩) L a h;rw [hr,cG] at hi;subst hi;refine wV (base:=base) (by simp) hg hrun hcl hb hC λw1 hw1 hC1 hp=>⟨λj hj i hi=>?_,λw' hw'=>?_⟩
  ·have h1:=cE.1 hsk j hj
   exact cE.1 h1 i (lK.2 hi)
  ·have hal:=(Below.refl w1.heap.size w1).alloc (aF _) (.cells zs ty)
   exact jX T (1 + L.length) _ _ w' (λj _=>by simp [kK,qL 1,dI]) hf (h' _ w' (hcl _ _ (hcl _ _ hC1 hal) hw') hp ((Blk.new w1 _ _).later hw'))
 have h2:=pN (1 + L.length) _ a w.drew hG;rw [<-dI,<-hz] at h2;exact h2
end
section
variable {P : Program} {ops : Array Oper} {C0 : World -> Prop} {Q : Act -> Prop} {a : Act} {o : Oper} {rest : List Oper}
theorem Mo (h : ∀ K : Act -> Prop,(∀ a,wpB P ops C0 Q rest a -> K a) -> if aL o (yielded ops a.tmps) then ∃ v,(∀ w,C0 w -> oY P w (· = v) ((execOp a.eval o).run P w)) /\ K (a.put o.dst v) else K (a.put o.dst undef)) : wpB P ops C0 Q (o :: rest) a:=by
 have h1:=h _ (λ_ h=>h)
 unfold wpB
 split
 ·rename_i hw
  rw [if_pos hw] at h1;exact .inl h1
 ·rename_i hw
  rw [if_neg hw] at h1;exact h1
theorem Je (hg : aL o (yielded ops a.tmps) = true) {v : Value} (h : ∀ w,C0 w -> atB P o a w (· = v)) (hk : wpB P ops C0 Q rest (a.put o.dst v)) : wpB P ops C0 Q (o :: rest) a :=
 Mo λK hK=>by
  rw [if_pos hg];exact ⟨v,h,hK _ hk⟩
theorem k5 {v : Value} (hg : aL o (yielded ops a.tmps) = true) (h : ∀ w,C0 w -> (execOp a.eval o).run P w = .ok (.value v) w) (hk : wpB P ops C0 Q rest (a.put o.dst v)) : wpB P ops C0 Q (o :: rest) a :=
 Je hg (λw hw=>by
  unfold atB
  rw [h w hw]
  exact ⟨rfl,rfl⟩) hk
theorem VZ {t t' : TypeId} {x y : Operand} {q : Bool} (xs ys : Array Value) (hg : aL o (yielded ops a.tmps) = true) (ho : o.op = .binOp .eql t x y t') (hx : a.eval x = .agg xs) (hy : a.eval y = .agg ys)
  (hd : P.eqGuardType P.depth t = false) (he : ∀ w,(fI 10000 t (.agg xs) (.agg ys)).run P w = .ok q w) (hk : wpB P ops C0 Q rest (a.put o.dst (.bool q))) : wpB P ops C0 Q (o :: rest) a :=
 k5 hg (λw _=>by
  unfold execOp
  simp only [ho,hx,hy,aJ,run_eqGuard_agg (hm:=hd),aG,binOp,Op.equal,Op.maxDepth,he,aI]) hk
theorem Ph {f : FuncId} {args : Array Value} (V : Value -> Prop) (hg : aL o (yielded ops a.tmps) = true) (hp : B0 o.op = true)
  (hc : ∀ w,C0 w -> Calls P f args w (λe w'=>∃ v,e = .returned v /\ V v /\ Below w.heap.size w w')) (he : ∀ w,(execOp a.eval o).run P w = .ok (.enter f args) w) (hk : ∀ v,V v -> wpB P ops C0 Q rest (a.put o.dst v)) : wpB P ops C0 Q (o :: rest) a:=by
 unfold wpB
 rw [if_pos hg];refine .inr ⟨hp,V,λw hw=>?_,hk⟩
 unfold atB
 rw [he];exact ⟨rfl,hc w hw⟩
theorem KE {f : FuncId} {args : Array Value} {v : Value} (hg : aL o (yielded ops a.tmps) = true)
  (hc : ∀ w,C0 w -> Calls P f args w (λe w'=>e = .returned v /\ Below w.heap.size w w')) (he : ∀ w,(execOp a.eval o).run P w = .ok (.enter f args) w) (hk : wpB P ops C0 Q rest (a.put o.dst v)) : wpB P ops C0 Q (o :: rest) a :=
 Je hg (λw hw=>by
  unfold atB
  rw [he]
  exact ⟨rfl,(hc w hw).mono λe w' ⟨h1,h2⟩=>⟨v,h1,rfl,h2⟩⟩) hk
theorem y9 (hg : aL o (yielded ops a.tmps) = true) (ty : TypeId) (x : Operand) (ho : o.op = .load ty x) (b off : Nat) (hx : a.eval x = .pointer (some ⟨b,off,none⟩)) (cs : List Value) (d : TypeDesc)
  (hc : ∀ w,C0 w -> w.rangeAt b off cs) (hu : P.underlying ty = some d) (hd : d.isRow = true) (hi : (P.info? ty).map (·.size) = some cs.length)
  (hk : wpB P ops C0 Q rest (a.put o.dst (.agg cs.toArray))) : wpB P ops C0 Q (o :: rest) a :=
 Je hg (λw hw=>by
  unfold atB execOp
  simp only [ho,hx,Instr.loadAt,nJ,aJ,aI,aG,run_loadVar_mid w b off ty cs d (hc w hw) hu hd hi]
  exact ⟨rfl,rfl⟩) hk
end
theorem Blk.range {w : World} {g t : Nat} {l : List Value} (h : Blk w g t l.toArray) : w.rangeAt g 0 l:=λj v hv=>by
 rw [cW,h.cell j]
 simpa using hv
theorem Blk.part {w : World} {g t : Nat} {l : List Value} (h : Blk w g t l.toArray) (o n : Nat) : w.rangeAt g o ((l.drop o).take n):=λj v hv=>by
 rw [h.cell (o + j)];rw [List.getElem?_take] at hv
 split at hv
 ·rw [Bc] at hv
  simpa using hv
 ·cases hv
section
variable {P : Program} {Q : Exit -> Act -> World -> Prop} {id : Nat} {a : Act} {w : World} {l : List Oper}
theorem OU {oa : Oper} {n : Nat} (h : l[n]? = some oa) : l = l.take n ++ oa :: l.drop (n + 1) /\ (l.take n).length = n:=by
 obtain ⟨hn,rfl⟩:=hH.1 h;refine ⟨?_,by rw [aZ]; omega⟩;rw [<-lX hn,fQ]
theorem yF (n : Nat) (C0 : World -> Prop) (hn : n <= l.length) (hm : P.follows .mixedOrders = true) (hB : nE l.toArray n 0 (l.drop n).length = true)
  (hcl : ∀ w w',C0 w -> Below w.heap.size w w' -> C0 w') (hC : C0 w.drew) (hQ : ∀ c a d v w,Q (.panic c) (a.put d v) w -> Q (.panic c) a w)
  (h : wpB P l.toArray C0 (λa'=>∀ w',C0 w' -> wpList P l.toArray Q (l.drop n) a' w') (l.take n) a) : (jP id l.toArray true).wp P Q a w:=by
 have e : l = l.take n ++ l.drop n:=(fQ n l).symm
 have hL : (l.take n).length = n:=by rw [aZ]; omega
 generalize l.take n = L at *;generalize l.drop n = T at *;subst e;exact Fm C0 hm (by rw [hL]; exact hB) hcl hC hQ h
theorem Ik {oa : Oper} (n : Nat) (C0 : World -> Prop) (base ty : Nat) (zs : Array Value) (hoa : l[n]? = some oa) (hm : P.follows .mixedOrders = true)
  (hB : nE l.toArray n 1 (l.drop (n + 1)).length = true) (hr : bQ .any l.toArray (marks n 0 (bD l.toArray.size false)) = [n])
  (hcl : ∀ w w',C0 w -> Below w.heap.size w w' -> C0 w') (hb : ∀ w,C0 w -> base <= w.heap.size) (hC : C0 w.drew) (hQ : ∀ c a d v w,Q (.panic c) (a.put d v) w -> Q (.panic c) a w)
  (hg : oa.guard = none) (hrun : ∀ (a : Act) w,(execOp a.eval oa).run P w = .ok (.value (.pointer (some ⟨w.heap.size,0,none⟩))) (w.alloc (.cells zs ty)))
  (h : wpB P l.toArray C0 (λa'=>∀ p w',C0 w' -> base <= p -> Blk w' p ty zs -> wpList P l.toArray Q (l.drop (n + 1)) (a'.put oa.dst (.pointer (some ⟨p,0,none⟩))) w') (l.take n) a) :
  (jP id l.toArray true).wp P Q a w:=by
 obtain ⟨e,hL⟩:=OU hoa;clear hoa;generalize l.take n = L at *;generalize l.drop (n + 1) = T at *;subst e;subst hL;exact CL C0 base ty zs hm hB hr hcl hb hC hQ hg hrun h
end
section
variable {P : Program} {Q : Exit -> Act -> World -> Prop} {id : Nat} {a : Act} {w : World} {l : List Oper}
def Up (w w' : World) : Prop:=Below w.heap.size w w'
theorem Up.refl (w : World) : Up w w:=Below.refl _ _
theorem Up.drew (w : World) : Up w w.drew:=(Below.refl _ _).drew
theorem Up.step {w w1 w2 : World} (h : Up w w1) (k : Below w1.heap.size w1 w2) : Up w w2:=Below.trans h (k.mono h.size)
theorem Up.blk {w w1 : World} {g t : Nat} {cs : Array Value} (h : Up w w1) (k : Blk w g t cs) : Blk w1 g t cs:=k.later h
theorem Up.alloc {w w1 : World} (h : Up w w1) (o : Obj) : Up w (w1.alloc o):=h.step ((Below.refl _ _).alloc (aF _) _)
theorem a6 {w W W' : World} (h : Below w.heap.size w W) (k : Up W W') : Below w.heap.size w W':=Below.trans h (Below.mono k h.size)
theorem pM {P : Program} {c : Code} {Q : Exit -> Act -> World -> Prop} {a : Act} {w0 : World} (F : World -> Prop) (h0 : F w0) (h : ∀ W,F W -> c.wp P Q a W) : c.wp P Q a w0:=h w0 h0
theorem lA {ops : Array Oper} {T : List Oper} : ∀ (L : List Oper) (a : Act) (w w0 : World),Up w0 w -> wpB P ops (Up w0) (λa'=>∀ w',Up w0 w' -> wpList P ops Q T a' w') L a -> wpList P ops Q (L ++ T) a w
 | [],a,w,w0,hw,h=>h w hw
 | o :: L,a,w,w0,hw,h=>by
  have key : ∀ V : Value -> Prop,atB P o a w V -> (∀ v w',V v -> Below w.heap.size w w' -> wpList P ops Q (L ++ T) (a.put o.dst v) w') -> o.wp P a w (wpList P ops Q (L ++ T)) Q:=λV h3 hk=>by
   unfold atB at h3
   unfold lR
   generalize (execOp a.eval o).run P w = r at *
   cases r with
   | ok n w' =>
    cases n <;> simp only [oY] at h3 <;> simp only [jR]
    case value u =>
     obtain ⟨e1,e2⟩:=h3;rw [e1];exact hk _ _ e2 (Below.refl _ _)
    case skip =>
     obtain ⟨e1,e2⟩:=h3;rw [e1];exact hk _ _ e2 (Below.refl _ _)
    case enter f args =>
     obtain ⟨e1,hc⟩:=h3;rw [e1]
     exact hc.mono λe w'' ⟨v,he,hv,hw''⟩=>by subst he; exact hk _ _ hv hw''
   | halt x w'=>simp only [oY] at h3
  show wpList P ops Q (o :: (L ++ T)) a w
  unfold wpB at h
  unfold wpList
  split
  ·rename_i hwt
   rw [if_pos hwt] at h;refine .inl ?_
   rcases h with ⟨v,h1,h2⟩ | ⟨_,V,h1,h2⟩
   ·exact key (· = v) (h1 w hw) λu w' hu hw'=>by rw [hu]; exact lA L _ w' w0 (hw.step hw') h2
   ·exact key V (h1 w hw) λu w' hu hw'=>lA L _ w' w0 (hw.step hw') (h2 u hu)
  ·rename_i hwt
   rw [if_neg hwt] at h;exact lA L _ w w0 hw h
theorem yG (hm : P.follows .mixedOrders = true) (hB : nE l.toArray l.length 0 0 = true) (hQ : ∀ c a d v w,Q (.panic c) (a.put d v) w -> Q (.panic c) a w)
  (h : wpB P l.toArray (Up w) (λa'=>∀ w',Up w w' -> Q .normal a' w') l a) : (jP id l.toArray true).wp P Q a w :=
 yF (l:=l) l.length (Up w) (aF _) hm (by rw [List.drop_length]; exact hB) (λ_ _ h k=>h.step k) (Up.drew w) hQ (by rw [List.drop_length,List.take_length]; exact h)
theorem Em (h : wpB P l.toArray (Up w) (λa'=>∀ w',Up w w' -> Q .normal a' w') l a) : (jP id l.toArray false).wp P Q a w:=by
 refine wp_region_lit ?_;have h1:=lA (Q:=Q) (T:=[]) l a w w (Up.refl w) h
 rwa [cD] at h1
theorem Df (n : Nat) (h : wpB P l.toArray (Up w) (λa'=>∀ w',Up w w' -> wpList P l.toArray Q (l.drop n) a' w') (l.take n) a) : (jP id l.toArray false).wp P Q a w:=by
 refine wp_region_lit ?_;have h1:=lA (Q:=Q) (T:=l.drop n) (l.take n) a w w (Up.refl w) h
 rwa [fQ] at h1
def HG (P : Program) (Q : Exit -> Act -> World -> Prop) (w : World) (t : Tmp) (ty : TypeId) (x : Operand) (n : Nat) (a' : Act) : Prop :=
  ∃ cells : Array Value,(∀ v,(a'.put (some t) v).eval (.tmp t) = v) /\ (∀ v,(a'.put (some t) v).eval x = .agg cells) /\ n = cells.size /\ (P.info? ty).map (·.size) = some cells.size /\ (∀ v ∈ cells.toList,v.oneCell' = true) /\
    ∀ g w',w.heap.size <= g -> Up w w' -> Blk w' g ty cells -> Q .normal (a'.put (some t) (.pointer (some ⟨g,0,none⟩))) w'
theorem cM {w w1 : World} {g : Nat} (h : Up w w1) (hg : w.heap.size <= g) (cs : Array Value) : Up w (w1.setRow g cs):=below_setRow h hg _
theorem Ju {ops : Array Oper} {w w1 : World} {a' : Act} {t : Tmp} {ty : TypeId} {x : Operand} {os : Oper} {zs : Array Value} (hop : os.op = .store ty (.tmp t) x) (hsg : os.guard = none) (hsd : os.dst = none)
  {g : Nat} (hg : w.heap.size <= g) (hw : Up w w1) (hb : Blk w1 g ty zs) (h : HG P Q w t ty x zs.size a') : wpList P ops Q [os] (a'.put (some t) (.pointer (some ⟨g,0,none⟩))) w1:=by
 obtain ⟨cells,h1,h2,hz,hi,ho,hk⟩:=h;refine wpList_store_row hsg ty (.tmp t) x hop g (h1 _) cells (h2 _) ty zs hb hi hz ho ?_;rw [hsd];exact hk g _ hg (cM hw hg _) (hb.row _)
theorem mO {oa os : Oper} (n : Nat) (t : Tmp) (ty : TypeId) (x : Operand) (zs : Array Value) (hoa : l[n]? = some oa) (hos : l.drop (n + 1) = [os]) (hop : os.op = .store ty (.tmp t) x) (hsg : os.guard = none) (hsd : os.dst = none)
  (hag : oa.guard = none) (had : oa.dst = some t) (hm : P.follows .mixedOrders = true)
  (hB : nE l.toArray n 1 1 = true) (hr : bQ .any l.toArray (marks n 0 (bD l.toArray.size false)) = [n])
  (hQ : ∀ c a d v w,Q (.panic c) (a.put d v) w -> Q (.panic c) a w)
  (hrun : ∀ (a : Act) w,(execOp a.eval oa).run P w = .ok (.value (.pointer (some ⟨w.heap.size,0,none⟩))) (w.alloc (.cells zs ty)))
  (h : wpB P l.toArray (Up w) (HG P Q w t ty x zs.size) (l.take n) a) : (jP id l.toArray true).wp P Q a w:=by
 refine Ik n (Up w) w.heap.size ty zs hoa hm (by rw [hos]; exact hB) hr (λ_ _ h k=>h.step k) (λ_ h=>h.size) (Up.drew w) hQ hag hrun ?_;rw [hos,had];exact kE (λa' h' g w' hw' hg hb=>Ju hop hsg hsd hg hw' hb h') _ _ h
theorem rN {oa os : Oper} (n : Nat) (t : Tmp) (ty : TypeId) (x : Operand) (zs : Array Value) (hoa : l[n]? = some oa) (hos : l.drop (n + 1) = [os]) (hop : os.op = .store ty (.tmp t) x) (hsg : os.guard = none) (hsd : os.dst = none)
  (hag : oa.guard = none) (had : oa.dst = some t)
  (hrun : ∀ (a : Act) w,(execOp a.eval oa).run P w = .ok (.value (.pointer (some ⟨w.heap.size,0,none⟩))) (w.alloc (.cells zs ty)))
  (h : wpB P l.toArray (Up w) (HG P Q w t ty x zs.size) (l.take n) a) : (jP id l.toArray false).wp P Q a w:=by
 refine wp_region_lit ?_;obtain ⟨e,_⟩:=OU hoa
 have h1 : wpList P l.toArray Q (l.take n ++ oa :: l.drop (n + 1)) a w:=by
  refine lA (l.take n) a w w (Up.refl w) (kE (λa' h' w' hw'=>?_) _ _ h);rw [hos]
  unfold wpList
  rw [if_pos (by simp [aL,hag])];refine .inl ?_
  unfold lR
  rw [hrun];simp only [jR];rw [had];exact Ju hop hsg hsd hw'.size (hw'.alloc _) (Blk.new w' _ _) h'
 rwa [<-e] at h1
def H8 (P : Program) (Q : Exit -> Act -> World -> Prop) (w : World) (p : Operand) (ty : TypeId) (x : Operand) (a' : Act) : Prop :=
  ∃ (g : Nat) (old cells : Array Value),a'.eval p = .pointer (some ⟨g,0,none⟩) /\ a'.eval x = .agg cells /\ Blk w g ty old /\ old.size = cells.size /\ (P.info? ty).map (·.size) = some cells.size /\ (∀ v ∈ cells.toList,v.oneCell' = true) /\
    ∀ w',Up w w' -> Q .normal a' (w'.setRow g cells)
theorem JE {ops : Array Oper} {w w1 : World} {a' : Act} {p : Operand} {ty : TypeId} {x : Operand} {os : Oper} (hop : os.op = .store ty p x) (hsg : os.guard = none) (hsd : os.dst = none)
  (hw : Up w w1) (h : H8 P Q w p ty x a') : wpList P ops Q [os] a' w1:=by
 obtain ⟨g,old,cells,h1,h2,hb,hz,hi,ho,hk⟩:=h;refine wpList_store_row hsg ty p x hop g h1 cells h2 ty old (hw.blk hb) hi hz ho ?_;rw [hsd];exact hk _ hw
theorem vE {os : Oper} (n : Nat) (p : Operand) (ty : TypeId) (x : Operand) (hos : l.drop n = [os]) (hop : os.op = .store ty p x) (hsg : os.guard = none) (hsd : os.dst = none) (hm : P.follows .mixedOrders = true)
  (hB : nE l.toArray n 0 1 = true) (hQ : ∀ c a d v w,Q (.panic c) (a.put d v) w -> Q (.panic c) a w)
  (h : wpB P l.toArray (Up w) (H8 P Q w p ty x) (l.take n) a) : (jP id l.toArray true).wp P Q a w:=by
 have hn : n <= l.length:=by
  have h1:=congrArg AW hos;simp only [iG,bW,List.length_nil] at h1
  omega
 refine yF n (Up w) hn hm (by rw [hos]; exact hB) (λ_ _ h k=>h.step k) (Up.drew w) hQ ?_;rw [hos];exact kE (λa' h' w' hw'=>JE hop hsg hsd hw' h') _ _ h
theorem BG {os : Oper} (n : Nat) (p : Operand) (ty : TypeId) (x : Operand) (hos : l.drop n = [os]) (hop : os.op = .store ty p x) (hsg : os.guard = none) (hsd : os.dst = none)
  (h : wpB P l.toArray (Up w) (H8 P Q w p ty x) (l.take n) a) : (jP id l.toArray false).wp P Q a w:=by
 refine wp_region_lit ?_;have h1 : wpList P l.toArray Q (l.take n ++ [os]) a w:=lA (l.take n) a w w (Up.refl w) (kE (λa' h' w' hw'=>JE hop hsg hsd hw' h') _ _ h)
 rwa [<-hos,fQ] at h1
end
theorem LO {α : Type} (V A O Z : List α) (m k : Nat) (hm : m + k = A.length) (hl : O.length = V.length) :
  (V.zipIdx k).foldl (λ(cs : Array α) (p : α × Nat)=>cs.setIfInBounds (m + p.2) p.1) (A ++ (O ++ Z)).toArray = (A ++ (V ++ Z)).toArray:=by
 induction V generalizing A O k with
 | nil =>
  obtain rfl : O = []:=List.eq_nil_of_length_eq_zero hl
  rfl
 | cons c V ih =>
  obtain ⟨o,O,rfl⟩ : ∃ o O',O = o :: O':=by
   cases O with
   | nil=>simp at hl
   | cons o O=>exact ⟨o,O,rfl⟩
  rw [List.zipIdx_cons,List.foldl_cons]
  have e : ((A ++ (o :: O ++ Z)).toArray.setIfInBounds (m + k) c) = (A ++ [c] ++ (O ++ Z)).toArray:=by
   rw [hm]
   simp
  rw [e,ih (A ++ [c]) O (k + 1) (by simp; omega) (by simpa using hl)]
  simp
theorem lH (place : Nat -> Option (Nat × Nat)) (i n : Nat) (A O Z V : List Value) (rest : List (Nat × Value)) (hp : place i = some (A.length,n)) (hV : V.length = n) (hO : O.length = n) :
  gC place (A ++ (O ++ Z)).toArray ((i,.agg V.toArray) :: rest) = gC place (A ++ (V ++ Z)).toArray rest:=by
 rw [gC];simp only [hp];rw [if_neg (by simp [CZ,hV,hO])]
 congr 1
 have h:=LO V A O Z A.length 0 rfl (by rw [hV,hO]);rw [<-h]
 simp [CZ,Array.zipIdx,List.mapIdx_eq_zipIdx_map]
theorem Cv {P : Program} {t : TypeId} {z : Array Value} {pl : List (Nat × Nat)} {parts : List (Nat × Value)}
  (h : (match P.info? t,P.underlying t with
   | some it,some (.struct fields)=>(match it.zero,fields.toList.mapM (λf=>(P.info? f.type).map λi=>(f.offset,i.size)) with
    | some z,some places=>some (z.cells,places)
    | _,_=>none)
   | _,_=>none) = some (z,pl)) : P.built t parts = gC (pl.toArray[·]?) z parts:=by
 unfold Program.built
 cases hi : P.info? t with
 | none=>simp [hi] at h
 | some it =>
  cases hu : P.underlying t with
  | none=>simp [hi,hu] at h
  | some d =>
   cases d <;> simp only [hi,hu] at h <;> try (cases h; done)
   case struct fields =>
    simp only []
    cases hz : it.zero with
    | none=>simp [hz] at h
    | some z' =>
     cases hp : fields.toList.mapM (λf=>(P.info? f.type).map λi=>(f.offset,i.size)) with
     | none=>simp [hz,hp] at h
     | some places =>
      simp only [hz,hp] at h
      injection h with h
      injection h with h1 h2
      rw [<-h1,<-h2]
section
variable {P : Program} {ops : Array Oper} {C0 : World -> Prop} {Q : Act -> Prop} {a : Act} {o : Oper} {rest : List Oper}
theorem s7 {t : TypeId} {parts : Array (Nat × Operand)} (vs : List (Nat × Value)) (cells : Array Value) (hg : aL o (yielded ops a.tmps) = true) (ho : o.op = .build t parts)
  (hv : (parts.toList.map λ(i,x)=>(i,a.eval x)) = vs) (hb : P.built t vs = some cells) (hk : wpB P ops C0 Q rest (a.put o.dst (.agg cells))) : wpB P ops C0 Q (o :: rest) a :=
 k5 hg (λw _=>by
  unfold execOp
  simp only [ho,aJ,run_build w t _ cells (by rw [sJ,hv]; exact hb),aG,aI]) hk
theorem Pf {x : Operand} (hg : aL o (yielded ops a.tmps) = true) (ho : o.op = .move x) (hk : wpB P ops C0 Q rest (a.put o.dst (a.eval x))) : wpB P ops C0 Q (o :: rest) a :=
 k5 hg (λw _=>by
  unfold execOp
  simp only [ho,aI]) hk
theorem KD {s : TypeId} {x : Operand} {f : Nat} (b off off' : Nat) (hg : aL o (yielded ops a.tmps) = true) (ho : o.op = .fieldAddr s x f) (hx : a.eval x = .pointer (some ⟨b,off,none⟩))
  (hr : ∀ w,(Instr.fieldAt s (.pointer (some ⟨b,off,none⟩)) f).run P w = .ok (.pointer (some ⟨b,off',none⟩)) w) (hk : wpB P ops C0 Q rest (a.put o.dst (.pointer (some ⟨b,off',none⟩)))) : wpB P ops C0 Q (o :: rest) a :=
 k5 hg (λw _=>by
  unfold execOp
  simp only [ho,hx,aJ,hr,aG,aI]) hk
end
theorem Aw {P : Program} (ty : TypeId) (cs : Array Value) (w : World) : (Instr.box ty (.agg cs)).run P w = .ok (.pointer (some ⟨w.heap.size,0,none⟩)) (w.alloc (.cells cs ty)):=by
 simp [Instr.box,newVar,newRow,CZ]
theorem Ih {P : Program} {ty : TypeId} {zs : Array Value} (h : (P.info? ty).bind (λi=>i.zero.map (·.cells)) = some zs) (old : Value) (w : World) :
  (Instr.alloc ty true old).run P w = .ok (.pointer (some ⟨w.heap.size,0,none⟩)) (w.alloc (.cells zs ty)):=by
 cases hi : P.info? ty with
 | none=>simp [hi] at h
 | some i =>
  cases hz : i.zero with
  | none=>simp [hi,hz] at h
  | some z =>
   simp only [hi,Option.bind_some,hz,Option.map_some] at h
   injection h with h
   subst h
   simp [Instr.alloc,zeroValue,typeInfo,hi,hz,newVar,newRow]
theorem c9 {P : Program} {o : Oper} {ty : TypeId} {zs : Array Value} (ho : o.op = .alloc ty) (h : (P.info? ty).bind (λi=>i.zero.map (·.cells)) = some zs) (a : Act) (w : World) :
  (execOp a.eval o).run P w = .ok (.value (.pointer (some ⟨w.heap.size,0,none⟩))) (w.alloc (.cells zs ty)):=by
 obtain ⟨dst,op,t,pos,af,gd⟩:=o;simp only at ho;subst ho
 unfold execOp
 simp only [aJ,Ih h,aG,aI]
section
variable {P : Program} {ops : Array Oper} {rest : List Oper} {o : Oper} {a : Act} {w : World} {Q : Exit -> Act -> World -> Prop}
theorem dN {ty : TypeId} {zs : Array Value} (hg : o.guard = none) (ho : o.op = .alloc ty) (hz : (P.info? ty).bind (λi=>i.zero.map (·.cells)) = some zs)
  (h : wpList P ops Q rest (a.put o.dst (.pointer (some ⟨w.heap.size,0,none⟩))) (w.alloc (.cells zs ty))) : wpList P ops Q (o :: rest) a w :=
 wpList_plain hg λ_ hK=>by
  unfold lR
  rw [c9 ho hz];exact hK _ _ h
theorem jW {ty : TypeId} {x : Operand} (cs : Array Value) (hg : o.guard = none) (ho : o.op = .box ty x) (hx : a.eval x = .agg cs)
  (h : wpList P ops Q rest (a.put o.dst (.pointer (some ⟨w.heap.size,0,none⟩))) (w.alloc (.cells cs ty))) : wpList P ops Q (o :: rest) a w :=
 wpList_plain hg λ_ hK=>by
  unfold lR execOp
  simp only [ho,hx,aJ,Aw,aG,aI];exact hK _ _ h
theorem iV {x : Operand} (hg : o.guard = none) (ho : o.op = .assign x) (h : wpList P ops Q rest (a.put o.dst (a.eval x)) w) : wpList P ops Q (o :: rest) a w :=
 wpList_plain hg λ_ hK=>by
  unfold lR execOp
  simp only [ho,aI];exact hK _ _ h
theorem PJ {v : Value} (hg : o.guard = none) (h : (execOp a.eval o).run P w = .ok (.value v) w) (hk : wpList P ops Q rest (a.put o.dst v) w) : wpList P ops Q (o :: rest) a w :=
 wpList_plain hg λ_ hK=>by
  unfold lR
  rw [h];exact hK _ _ hk
theorem uZ {t : TypeId} {parts : Array (Nat × Operand)} (vs : List (Nat × Value)) (cells : Array Value) (hg : o.guard = none) (ho : o.op = .build t parts)
  (hv : (parts.toList.map λ(i,x)=>(i,a.eval x)) = vs) (hb : P.built t vs = some cells) (hk : wpList P ops Q rest (a.put o.dst (.agg cells)) w) : wpList P ops Q (o :: rest) a w :=
 PJ hg (by
  unfold execOp
  simp only [ho,aJ,run_build w t _ cells (by rw [sJ,hv]; exact hb),aG,aI]) hk
theorem dP (h : Q .normal a w) : wpList P ops Q [] a w:=h
end
section
variable {md : fE} {ops : Array Oper}
def kT (md : fE) (o : Oper) (i : Nat) : Bool:=o.after.any λe=>eL md e && e.on == i
theorem tN {f j i : Nat} {o : Oper} (hj : ops[j]? = some o) (h : kT md o i = true) : iJ md ops (f + 1) j i = true:=by
 unfold iJ
 rw [hj]
 unfold kT at h
 obtain ⟨e,he,hb⟩:=fB.1 h;simp only [aV,beq_iff_eq] at hb;exact fB.2 ⟨e,he,by simp [hb.1,hb.2]⟩
theorem Hz {f j m i : Nat} {o : Oper} (hj : ops[j]? = some o) (h : kT md o m = true) (hm : iJ md ops f m i = true) : iJ md ops (f + 1) j i = true:=by
 unfold iJ
 rw [hj]
 unfold kT at h
 obtain ⟨e,he,hb⟩:=fB.1 h;simp only [aV,beq_iff_eq] at hb;exact fB.2 ⟨e,he,by simp [hb.1,hb.2,hm]⟩
theorem mE : ∀ {f g j i : Nat},f <= g -> iJ md ops f j i = true -> iJ md ops g j i = true
 | 0,_,_,_,_,h=>by cases h
 | f + 1,0,_,_,hle,_=>absurd hle (by omega)
 | f + 1,g + 1,j,i,hle,h=>by
  unfold iJ at h ⊢
  cases ho : ops[j]? with
  | none=>rw [ho] at h; cases h
  | some o =>
   rw [ho] at h;obtain ⟨e,he,hb⟩:=fB.1 h;refine fB.2 ⟨e,he,?_⟩;simp only [aV,fG,beq_iff_eq] at hb ⊢;exact ⟨hb.1,hb.2.imp id (mE (by omega))⟩
def EG (md : fE) (o : Oper) (i : Nat) : Bool:=o.after.any λe=>(match e.ground with
  | .chain=>true
  | _=>false) && (eL md e && e.on == i)
theorem EW {o : Oper} {i : Nat} (h : EG md o i = true) : kT md o i = true:=by
 unfold EG at h
 obtain ⟨e,he,hb⟩:=fB.1 h;simp only [aV] at hb;exact fB.2 ⟨e,he,by simp only [aV]; exact hb.2⟩
def chainB (md : fE) : List Oper -> Nat -> Option Nat -> Bool
  | [],_,_=>true
  | o :: l,k,prev=>if jI o.op then chainB md l (k + 1) (match prev with
      | none=>none
      | some i=>if EG md o i then some k else some i)
    else (match prev with
    | none=>true
    | some i=>kT md o i) && chainB md l (k + 1) (some k)
def uS (ops : Array Oper) (i : Nat) : Prop:=∃ o,ops[i]? = some o /\ jI o.op = false
def uO (md : fE) (ops : Array Oper) (p : Nat) : Prop:=∀ i,i < p -> uS ops i -> iJ md ops (p - i) p i = true
theorem vY {p k : Nat} {o : Oper} (hk : ops[k]? = some o) (he : kT md o p = true) (hp : p < k) (hW : uO md ops p) (hall : ∀ i,i < k -> uS ops i -> i <= p) : uO md ops k:=by
 intro i hi hc
 by_cases hip : i = p
 ·subst hip
  exact mE (f:=1) (by omega) (tN hk he)
 ·have h1:=hall i hi hc
  exact mE (by omega) (Hz hk he (hW i (by omega) hc))
theorem sB : ∀ (l : List Oper) (k : Nat) (prev : Option Nat),(∀ j,j < l.length -> l[j]? = ops[k + j]?) -> chainB md l k prev = true ->
  (∀ p,prev = some p -> p < k /\ uO md ops p) -> (∀ i,i < k -> uS ops i -> ∃ p,prev = some p /\ i <= p) ->
  ∀ j,k <= j -> j < k + l.length -> uS ops j -> uO md ops j
 | [],k,_,_,_,_,_,j,h1,h2,_=>absurd h2 (by simp; omega)
 | x :: l,k,prev,hl,hB,hp,hq,j,h1,h2,hj=>by
  have h0 : ops[k]? = some x:=by simpa using (hl 0 (by simp)).symm
  have hl' : ∀ j,j < l.length -> l[j]? = ops[k + 1 + j]?:=λj hj=>by have:=hl (j + 1) (by simpa using hj); simpa [dI,qL 1 j] using this
  simp only [bW] at h2
  unfold chainB at hB
  by_cases hx : jI x.op = true
  ·rw [if_pos hx] at hB
   have hno : ¬ uS ops k:=by
    rintro ⟨o',ho',hpo⟩
    rw [h0] at ho'
    cases ho'
    rw [hx] at hpo
    cases hpo
   have hjk : j ≠ k:=by
    rintro rfl
    exact hno hj
   have hbel : ∀ i,i < k + 1 -> uS ops i -> i < k:=λi hi hc=>by
    by_cases hik : i = k
    ·subst hik
     exact absurd hc hno
    ·omega
   cases prev with
   | none=>exact sB l (k + 1) none hl' hB (λp h=>by cases h) (λi hi hc=>hq i (hbel i hi hc) hc) j (by omega) (by omega) hj
   | some p =>
    simp only at hB;obtain ⟨hpk,hWp⟩:=hp p rfl
    have hall : ∀ i,i < k -> uS ops i -> i <= p:=λi hi hc=>by
     obtain ⟨p',e,h⟩:=hq i hi hc
     cases e
     exact h
    by_cases hlk : EG md x p = true
    ·rw [if_pos hlk] at hB
     refine sB l (k + 1) (some k) hl' hB (λp' h=>?_) (λi hi _=>⟨k,rfl,by omega⟩) j (by omega) (by omega) hj
     cases h
     exact ⟨by omega,vY h0 (EW hlk) hpk hWp hall⟩
    ·rw [if_neg hlk] at hB
     refine sB l (k + 1) (some p) hl' hB (λp' h=>?_) (λi hi hc=>⟨p,rfl,hall i (hbel i hi hc) hc⟩) j (by omega) (by omega) hj
     cases h
     exact ⟨by omega,hWp⟩
  ·rw [if_neg hx] at hB
   simp only [aV] at hB
   have hWk : uO md ops k:=by
    cases prev with
    | none =>
     intro i hi hc
     obtain ⟨p,e,_⟩:=hq i hi hc
     cases e
    | some p =>
     obtain ⟨hpk,hWp⟩:=hp p rfl;refine vY h0 hB.1 hpk hWp (λi hi hc=>?_);obtain ⟨p',e,h⟩:=hq i hi hc
     cases e
     exact h
   by_cases hjk : j = k
   ·subst hjk
    exact hWk
   ·refine sB l (k + 1) (some k) hl' hB.2 (λp' h=>?_) (λi hi _=>⟨k,rfl,by omega⟩) j (by omega) (by omega) hj
    cases h
    exact ⟨by omega,hWk⟩
theorem Hd (hB : chainB md ops.toList 0 none = true) (j : Nat) (o : Oper) (hj : ops[j]? = some o) (hpl : jI o.op = false) (i : Nat) (hij : i < j) (hi : uS ops i) : iJ md ops (j - i) j i = true :=
 sB ops.toList 0 none (λj _=>by simp) hB (λp h=>by cases h) (λi hi=>absurd hi (by omega)) j (by omega) (by simpa using (cZ.1 hj).1) ⟨o,hj,hpl⟩ i hij hi
def Bj (md : fE) (ops : Array Oper) (o : Oper) (k : Nat) : List Oper -> Bool
  | []=>true
  | x :: l=>(kT md x k || o.apart ops x) && Bj md ops o k l
def Cf (md : fE) (ops : Array Oper) : Nat -> List Oper -> Nat -> Bool
  | 0,_,_=>true
  | _ + 1,[],_=>false
  | n + 1,o :: l,k=>o.after.all (λe=>!Region.binds md e || decide (e.on < k)) && Bj md ops o k l && Cf md ops n l (k + 1)
def Inv (ops : Array Oper) (k : Nat) (listed : Array Bool) : Prop:=∀ j,j < ops.size -> listed[j]? = some (decide (j < k))
theorem Inv.set {k : Nat} {listed : Array Bool} (h : Inv ops k listed) : Inv ops (k + 1) (listed.setIfInBounds k true):=by
 intro j hj
 rw [Array.getElem?_setIfInBounds]
 by_cases hjk : k = j
 ·subst hjk
  have h1:=h k hj;have hlt:=(cZ.1 h1).1;rw [if_pos rfl,if_pos hlt]
  simp
 ·rw [if_neg hjk,h j hj]
  congr 1
  simp only [decide_eq_decide]
  omega
theorem Inv.start : Inv ops 0 (bD ops.size false):=by
 intro j hj
 simp [hj]
theorem Inv.marks {listed : Array Bool} : ∀ (n : Nat) {k : Nat} {listed : Array Bool},Inv ops k listed -> Inv ops (k + n) (marks n k listed)
 | 0,_,_,h=>h
 | n + 1,k,_,h=>by
  have:=Inv.marks (listed:=listed) n h.set
  rwa [show k + 1 + n = k + (n + 1) by omega] at this
theorem Inv.in_ {k : Nat} {listed : Array Bool} (h : Inv ops k listed) {j : Nat} (hj : j < ops.size) (hk : j < k) (d : Bool) : listed.getD j d = true:=by
 have h1:=h j hj;rw [cI,h1]
 simp [hk]
theorem Inv.out {k : Nat} {listed : Array Bool} (h : Inv ops k listed) {j : Nat} (hj : j < ops.size) (hk : k <= j) (d : Bool) : listed.getD j d = false:=by
 have h1:=h j hj;rw [cI,h1]
 simp
 omega
theorem AG {o : Oper} {k : Nat} : ∀ {l : List Oper},Bj md ops o k l = true -> ∀ x ∈ l,kT md x k = true \/ o.apart ops x = true
 | [],_,_,hx=>absurd hx (by simp)
 | y :: l,h,x,hx=>by
  simp only [Bj,aV,fG] at h
  rcases List.mem_cons.1 hx with rfl | hx
  ·exact h.1
  ·exact AG h.2 x hx
theorem yT (hch : chainB md ops.toList 0 none = true) : ∀ (n : Nat) (l : List Oper) (k : Nat) (listed : Array Bool),Inv ops k listed -> l = ops.toList.drop k -> Cf md ops n l k = true -> Cg md ops n k listed = true
 | 0,_,_,_,_,_,_=>rfl
 | n + 1,[],_,_,_,_,h=>by cases h
 | n + 1,o :: l,k,listed,hI,hl,h=>by
  simp only [Cf,aV] at h;obtain ⟨⟨hr,ho⟩,hn⟩:=h
  have hk : k < ops.size:=by
   have h1:=congrArg AW hl;simp only [bW,iG,Array.length_toList] at h1
   omega
  have h2 : ops.toList.drop k = ops.toList[k]'(by simpa using hk) :: ops.toList.drop (k + 1):=lX (by simpa using hk);rw [<-hl] at h2
  injection h2 with h3 h4
  have hko : ops[k]? = some o:=by
   rw [dF hk,h3]
   simp
  unfold Cg
  simp only [aV];refine ⟨⟨⟨?_,?_⟩,?_⟩,yT hch n l (k + 1) _ hI.set h4 hn⟩
  ·rw [List.contains_iff_mem]
   refine mem_ready.2 ⟨by rw [cI,hI k hk]; simp,o,hko,λe he hb=>?_⟩;have h5:=Array.all_eq_true'.1 hr e he;simp only [hb,Bool.not_true,Bool.false_or,decide_eq_true_eq] at h5;exact hI.in_ (by omega) h5 false
  ·unfold Region.free
   simp only [hko];rw [cE]
   intro j hj
   have hj' : j < ops.size:=by simpa using hj
   simp only [fG,beq_iff_eq]
   by_cases hjk : j = k
   ·exact .inl (.inl hjk)
   ·by_cases hlt : j < k
    ·exact .inl (.inr (hI.in_ hj' hlt true))
    ·right
     have hx : ops[j]? = some ops[j]:=dF hj';rw [hx]
     have hm : ops[j] ∈ l:=by
      rw [h4];rw [List.mem_iff_getElem?];exact ⟨j - (k + 1),by rw [Bc,show k + 1 + (j - (k + 1)) = j by omega]; simp [hj']⟩
     rcases AG ho _ hm with h6 | h6
     ·simp only [fG]
      exact .inl h6
     ·simp only [fG]
      exact .inr h6
  ·unfold Bh
   simp only [hko,fG]
   by_cases hp : jI o.op = true
   ·exact .inl hp
   ·right
    rw [cE]
    intro j hj
    have hj' : j < ops.size:=by simpa using hj
    simp only [fG,beq_iff_eq]
    by_cases hjk : j = k
    ·exact .inl (.inl (.inl hjk))
    ·by_cases hlt : j < k
     ·exact .inl (.inl (.inr (hI.in_ hj' hlt true)))
     ·have hx : ops[j]? = some ops[j]:=dF hj'
      by_cases hpj : jI ops[j].op = true
      ·right
       rw [hx];exact hpj
      ·left
       right
       exact mE (by omega) (Hd hch j _ hx (by simpa using hpj) k (by omega) ⟨o,hko,by simpa using hp⟩)
def MK (md : fE) (ops : Array Oper) (N : Nat) : Bool:=match ops[N]? with
  | none=>true
  | some o=>(sH N).all λi=>kT md o i || iJ md ops (min 4 ops.size) N i
def RI (ops : Array Oper) (n k m : Nat) : Bool :=
  s8 ops && Cf .any ops n ops.toList 0 && chainB .any ops.toList 0 none && decide (ops.size = m + k + n) && MK .any ops (k + n) &&
    kA .any ops m (k + n) (marks k n (marks n 0 (bD ops.size false)))
theorem cC {n k m : Nat} (h : RI ops n k m = true) : nE ops n k m = true:=by
 simp only [RI,aV,decide_eq_true_eq] at h;obtain ⟨⟨⟨⟨⟨h1,h2⟩,h3⟩,h4⟩,h5⟩,h6⟩:=h
 have hI1 : Inv ops n (marks n 0 (bD ops.size false)):=by
  have:=Inv.marks (listed:=#[]) n (Inv.start (ops:=ops))
  rwa [cW] at this
 have hI2 : Inv ops (k + n) (marks k n (marks n 0 (bD ops.size false))):=by
  have:=Inv.marks (listed:=#[]) k hI1
  rwa [qL n k] at this
 have hr : ∀ j ∈ bQ .any ops (marks k n (marks n 0 (bD ops.size false))),j = k + n:=by
  intro j hj
  cases m with
  | zero =>
   simp only [kA,List.isEmpty_iff] at h6;rw [h6] at hj
   cases hj
  | succ m =>
   simp only [kA,aV,decide_eq_true_eq] at h6;rw [h6.1] at hj
   simpa using hj
 simp only [nE,aV,decide_eq_true_eq];refine ⟨⟨⟨⟨h1,yT h3 n ops.toList 0 _ Inv.start rfl h2⟩,h4⟩,?_⟩,h6⟩
 unfold D4
 rw [cE]
 intro j hj
 have hjk:=hr j hj;subst hjk;obtain ⟨_,o,ho,_⟩:=mem_ready.1 hj
 unfold MK at h5
 rw [ho] at h5;simp only [cE,lK] at h5 ⊢
 intro i hi
 have hz : 0 < ops.size:=Nat.lt_of_le_of_lt (Nat.zero_le _) (cZ.1 ho).1;obtain ⟨f,hf⟩ : ∃ f,ops.size = f + 1:=⟨ops.size - 1,by omega⟩;have h7:=h5 i hi;simp only [fG] at h7
 rcases h7 with h7 | h7
 ·rw [hf]
  exact tN ho h7
 ·exact mE (Nat.min_le_right _ _) h7
end
def Own (f : FuncId) : Prop:=∀ (args : Array Value) (w : World),(callFunc f args).run Tryd.prog w = .ok (.enter f args) w
theorem jT {a : Act} {o : Oper} {f : FuncId} {xs : Array Operand} {ats : Array TypeId} (hf : Own f) (ho : o.op = .call { callee:=.value (.func f),args:=xs,argTypes:=ats }) (w : World) :
  (execOp a.eval o).run Tryd.prog w = .ok (.enter f (xs.map a.eval)) w:=by
 obtain ⟨dst,op,ty,pos,af,gd⟩:=o;simp only at ho;subst ho;have h:=hf (xs.map a.eval) w
 go_simp
theorem oI {a : Act} {xs : Array Operand} {args : Array Value} (h : xs.toList.map a.eval = args.toList) : xs.map a.eval = args:=by
 apply Array.toList_inj.1
 rw [sJ,h]
section
variable {ops : Array Oper} {C0 : World -> Prop} {Q : Act -> Prop} {a : Act} {o : Oper} {rest : List Oper}
theorem jU {f : FuncId} {xs : Array Operand} {ats : Array TypeId} {args : Array Value} {v : Value} (hg : aL o (yielded ops a.tmps) = true)
  (hf : Own f) (hc : ∀ w,Calls Tryd.prog f args w (λe w'=>e = .returned v /\ Below w.heap.size w w'))
  (ho : o.op = .call { callee:=.value (.func f),args:=xs,argTypes:=ats }) (hx : xs.toList.map a.eval = args.toList) (hk : wpB Tryd.prog ops C0 Q rest (a.put o.dst v)) : wpB Tryd.prog ops C0 Q (o :: rest) a :=
 KE (f:=f) (args:=args) hg (λw _=>hc w) (λw=>by rw [jT hf ho,oI hx]) hk
end
theorem results_cell_tmp {P : Program} {fn : Func} {p q : Tmp} {ty : TypeId} (h : fn.results = #[.cell p ty,.tmp q]) (tmps : Array Value) (w : World) (g : Nat) (t : TypeId) (cs : Array Value) (fr : Nat × Nat) (d : TypeDesc) (v : Value)
  (hp : tmps.getD p undef = .pointer (some ⟨g,0,none⟩)) (hq : tmps.getD q undef = v) (hg : w.heap[g]? = some (.cells cs t fr))
  (hu : P.underlying ty = some d) (hd : (match d with | .struct _ | .array _ _=>true | _=>false) = true) (hi : (P.info? ty).map (·.size) = some cs.size) :
  (results fn tmps).run P w = .ok (.tuple #[.agg cs,v]) w:=by
 have hp' : tmps[p]?.getD undef = .pointer (some ⟨g,0,none⟩):=by simpa using hp
 have hq' : tmps[q]?.getD undef = v:=by simpa using hq
 simp [results,h,hp',hq',asAddr,run_loadVar_row w g t ty cs fr d hg hu hd hi]
section
variable {ops : Array Oper} {C0 : World -> Prop} {Q : Act -> Prop} {a : Act} {o : Oper} {rest : List Oper}
theorem Pe {t : TypeId} {x : Operand} (q : Bool) (hg : aL o (yielded ops a.tmps) = true) (ho : o.op = .unOp .not t x) (hx : a.eval x = .bool q)
  (hk : wpB Tryd.prog ops C0 Q rest (a.put o.dst (.bool (!q)))) : wpB Tryd.prog ops C0 Q (o :: rest) a :=
 k5 hg (λw _=>by
  unfold execOp
  simp only [ho,hx]
  go_simp) hk
theorem Sf {t t' : TypeId} {x y : Operand} {q : Bool} (xs ys : Array Value) (hg : aL o (yielded ops a.tmps) = true) (ho : o.op = .binOp .neq t x y t') (hx : a.eval x = .agg xs) (hy : a.eval y = .agg ys)
  (hd : Tryd.prog.eqGuardType Tryd.prog.depth t = false) (he : ∀ w,(fI 10000 t (.agg xs) (.agg ys)).run Tryd.prog w = .ok q w) (hk : wpB Tryd.prog ops C0 Q rest (a.put o.dst (.bool (!q)))) : wpB Tryd.prog ops C0 Q (o :: rest) a :=
 k5 hg (λw _=>by
  unfold execOp
  simp only [ho,hx,hy,aJ,run_eqGuard_agg (hm:=hd),aG,binOp,Op.equal,Op.maxDepth,he,aI]) hk
end
theorem Hj {P : Program} {ops : Array Oper} {C0 : World -> Prop} {Q : Act -> Prop} {a : Act} {o : Oper} {rest : List Oper} {x : Operand} (hg : aL o (yielded ops a.tmps) = true) (ho : o.op = .assign x) (hk : wpB P ops C0 Q rest (a.put o.dst (a.eval x))) : wpB P ops C0 Q (o :: rest) a :=
 k5 hg (λw _=>by
  unfold execOp
  simp only [ho,aI]) hk
def oR : Op -> Bool
  | .buildSlice .. | .makeSlice .. | .sliceToArrayPointer .. | .makeFunc .. | .nilCheck _=>true
  | .call c=>match c.callee with | .builtin .len=>true | _=>false
  | o=>jI o
def sT : Op -> Bool
  | .alloc _ | .box ..=>true
  | o=>B0 o
section
variable {P : Program}
theorem vD {y : Value} {w w' : World} {n : Next} (h : (pure (Next.value y) : Sem Next).run P w = .ok n w') : ∃ v,n = .value v:=by
 rw [aI] at h
 injection h with h1 h2
 exact ⟨_,h1.symm⟩
theorem o8 {w w' : World} {n : Next} (h : (runtimePanic .nilDeref : Sem Next).run P w = .ok n w') : False:=by
 simp [runtimePanic,goPanic] at h
theorem E3 {α β : Type} {s : Sem α} {f : α -> Sem β} {n : β} {w w' : World} (h : (s >>= f).run P w = .ok n w') : ∃ a w1,(f a).run P w1 = .ok n w':=by
 rw [aJ] at h
 cases hs : s.run P w with
 | ok v w1 =>
  rw [hs] at h;exact ⟨v,w1,h⟩
 | halt x w1 =>
  rw [hs] at h
  cases h
theorem SZ {ρ : Operand -> Value} {o : Oper} {x : Operand} (ho : o.op = .nilCheck x) {w w' : World} {n : Next} (h : (execOp ρ o).run P w = .ok n w') : ∃ v,n = .value v:=by
 unfold execOp at h
 rw [ho] at h
 dsimp only at h
 split at h
 ·exact (o8 h).elim
 ·exact (o8 h).elim
 ·exact (o8 h).elim
 ·split at h
  ·exact (o8 h).elim
  ·obtain ⟨_,_,h⟩:=E3 h
   obtain ⟨_,_,h⟩:=E3 h
   split at h
   ·obtain ⟨_,_,h⟩:=E3 h
    exact vD h
   ·exact vD h
  ·exact vD h
 ·exact vD h
theorem BA {ρ : Operand -> Value} {o : Oper} (hp : oR o.op = true) {w w' : World} {n : Next} (h : (execOp ρ o).run P w = .ok n w') : (∃ v,n = .value v) \/ n = .skip:=by
 by_cases hb : jI o.op = true
 ·exact F7 hb h
 obtain ⟨dst,op,ty,pos,af,gd⟩:=o
 cases op <;> first
  | (exfalso; exact hb hp)
  | exact .inl (MU h)
  | exact .inl (SZ rfl h)
  | skip
 next c =>
  obtain ⟨callee,args,ats⟩:=c
  cases callee with
  | builtin b =>
   cases b <;> first
    | (cases hp; done)
    | skip
   unfold execOp at h
   simp only [resolve,invoke,builtin,aJ,aI,aG] at h;refine .inl ?_
   revert h
   generalize Sem.run P _ w = r
   intro h
   cases r with
   | ok v w1 =>
    simp only [aG] at h
    injection h with h1 h2
    exact ⟨v,h1.symm⟩
   | halt x w1=>simp [Result.andThen] at h
  | _=>cases hp
end
class KH (Rel : World -> World -> Prop) : Prop where
  below : ∀ w w',Below w.heap.size w w' -> Rel w w'
def Bel (w w' : World) : Prop:=Below w.heap.size w w'
instance : KH Bel:=⟨λ_ _ h=>h⟩
def oX (P : Program) (Rel : World -> World -> Prop) (w : World) (V : Value -> World -> Prop) : Result Next -> Prop
  | .ok (.value u) w'=>Rel w w' /\ V u w'
  | .ok .skip w'=>Rel w w' /\ V undef w'
  | .ok (.enter f args) w'=>w' = w /\ Calls P f args w (λe w''=>∃ v,e = .returned v /\ Rel w w'' /\ V v w'')
  | _=>False
def Ho (Rel : World -> World -> Prop) (p : World -> Prop) : Prop:=∀ w w',p w -> Rel w w' -> p w'
abbrev Facts:=Nat -> World -> Prop
def upF (F : Facts) (k : Nat) (p : World -> Prop) : Facts:=λj=>if j = k then p else F j
theorem iQ (F : Facts) (k : Nat) (p : World -> Prop) : upF F k p k = p:=if_pos rfl
theorem iW {F : Facts} {k j : Nat} {p : World -> Prop} (h : j ≠ k) : upF F k p j = F j:=if_neg h
def stepG (P : Program) (Rel : World -> World -> Prop) (C0 : World -> Prop) (F : Facts) (o : Oper) (a : Act) (next : (World -> Prop) -> Act -> Prop) : Prop :=
  ∃ V : Value -> World -> Prop,(∀ v,Ho Rel (V v)) /\ ((∃ v,∀ u w,V u w -> u = v) \/ sT o.op = true) /\
    (∀ w,C0 w -> (∀ e ∈ o.after,eL .any e = true -> F e.on w) -> oX P Rel w V ((execOp a.eval o).run P w)) /\
    ∀ v w,C0 w -> (∀ k,F k w) -> V v w -> next (V v) (a.put o.dst v)
def wpG (P : Program) (Rel : World -> World -> Prop) (ops : Array Oper) (C0 : World -> Prop) (Q : Facts -> Act -> Prop) : List (Nat × Oper) -> Facts -> Act -> Prop
  | [],F,a=>Q F a
  | x :: l,F,a=>if aL x.2 (yielded ops a.tmps) then stepG P Rel C0 F x.2 a (λp a'=>wpG P Rel ops C0 Q l (upF F x.1 p) a') else wpG P Rel ops C0 Q l (upF F x.1 λ_=>True) (a.put x.2.dst undef)
section
variable {P : Program} {Rel : World -> World -> Prop} {ops : Array Oper} {C0 : World -> Prop} {Q : Facts -> Act -> Prop}
theorem Bs (hQ : ∀ F F' a,(∀ k w,F' k w -> F k w) -> Q F a -> Q F' a) : ∀ (l : List (Nat × Oper)) (F F' : Facts) (a : Act),(∀ k w,F' k w -> F k w) -> wpG P Rel ops C0 Q l F a -> wpG P Rel ops C0 Q l F' a
 | [],F,F',a,h,hh=>hQ F F' a h hh
 | x :: l,F,F',a,h,hh=>by
  have hup : ∀ p,∀ k w,upF F' x.1 p k w -> upF F x.1 p k w:=λp k w h'=>by
   by_cases e : k = x.1
   ·subst e
    rwa [iQ] at h' ⊢
   ·rw [iW e] at h' ⊢
    exact h k w h'
  unfold wpG at hh ⊢
  split
  ·rename_i hw
   rw [if_pos hw] at hh;obtain ⟨V,h1,h2,h3,h4⟩:=hh;exact ⟨V,h1,h2,λw hw he=>h3 w hw λe hm hb=>h _ _ (he e hm hb),λv w hw hF hV=>Bs hQ l _ _ _ (hup _) (h4 v w hw (λk=>h k w (hF k)) hV)⟩
  ·rename_i hw
   rw [if_neg hw] at hh;exact Bs hQ l _ _ _ (hup _) hh
structure uR (Rel : World -> World -> Prop) (C0 : World -> Prop) (F : Facts) (w : World) : Prop where
  pers : ∀ k,Ho Rel (F k)
  cls : C0 w
  all : ∀ k,F k w
theorem uR.up {F : Facts} {w w' : World} {k : Nat} {p : World -> Prop} (h : uR Rel C0 F w) (hp : Ho Rel p) (hC : C0 w') (hF : ∀ k,F k w') (hpw : p w') : uR Rel C0 (upF F k p) w':=by
 refine ⟨λj=>?_,hC,λj=>?_⟩
 ·by_cases e : j = k
  ·subst e
   rw [iQ];exact hp
  ·rw [iW e]
   exact h.pers j
 ·by_cases e : j = k
  ·subst e
   rw [iQ];exact hpw
  ·rw [iW e]
   exact hF j
def Unl (l : List (Nat × Oper)) (F : Facts) : Prop:=∀ x ∈ l,∀ w,F x.1 w
theorem Unl.up {l : List (Nat × Oper)} {F : Facts} {k : Nat} {p : World -> Prop} (h : Unl l F) (hk : k ∉ l.map (·.1)) : Unl l (upF F k p):=λx hx w=>by
 have e : x.1 ≠ k:=λe=>hk (fV.2 ⟨x,hx,e⟩);rw [iW e];exact h x hx w
theorem oX.any {w : World} {V : Value -> World -> Prop} {r : Result Next} (h : oX P Rel w V r) : ∃ v w',Rel w w' /\ V v w':=by
 cases r with
 | ok n w' =>
  cases n <;> simp only [oX] at h
  case value u=>exact ⟨u,w',h⟩
  case skip=>exact ⟨_,w',h⟩
  case enter f args =>
   obtain ⟨e,w1,fr,⟨v,_,h1,h2⟩,_⟩:=h.2 [];exact ⟨v,w1,h1,h2⟩
 | halt x w'=>simp only [oX] at h
theorem Mn {x : Nat × Oper} {l l' : List (Nat × Oper)} {F : Facts} {a : Act} {w0 : World} (hG : uR Rel C0 F w0) (hU : Unl l F) (hx : x.1 ∉ l.map (·.1))
  (h : ∀ F a w,uR Rel C0 F w -> Unl l F -> wpG P Rel ops C0 Q l F a -> wpG P Rel ops C0 Q l' F a) (hh : wpG P Rel ops C0 Q (x :: l) F a) : wpG P Rel ops C0 Q (x :: l') F a:=by
 unfold wpG at hh ⊢
 split
 ·rename_i hw
  rw [if_pos hw] at hh;obtain ⟨V,h1,h2,h3,h4⟩:=hh;exact ⟨V,h1,h2,h3,λv w hw hF hV=>h _ _ w (hG.up (h1 v) hw hF hV) (hU.up hx) (h4 v w hw hF hV)⟩
 ·rename_i hw
  rw [if_neg hw] at hh;exact h _ _ w0 (hG.up (λ_ _ _ _=>trivial) hG.cls hG.all trivial) (hU.up hx) hh
structure Pr (ops : Array Oper) (x y : Nat × Oper) : Prop where
  ne : x.1 ≠ y.1
  apart : x.2.apart ops y.2 = true
  noY : ∀ e ∈ y.2.after,eL .any e = true -> e.on ≠ x.1
  noX : ∀ e ∈ x.2.after,eL .any e = true -> e.on ≠ y.1
  kind : oR y.2.op = true \/ sT x.2.op = false
  selX : ∀ cs b,x.2.op ≠ .select cs b
  selY : ∀ cs b,y.2.op ≠ .select cs b
theorem Ul (hcl : ∀ w w',C0 w -> Rel w w' -> C0 w') (hQ : ∀ F F' a,(∀ k w,F' k w -> F k w) -> Q F a -> Q F' a) {x y : Nat × Oper} {l : List (Nat × Oper)} {F : Facts} {a : Act} {w0 : World} (hp : Pr ops x y) (hG : uR Rel C0 F w0) (hj : ∀ w,F y.1 w)
  (h : wpG P Rel ops C0 Q (x :: y :: l) F a) : wpG P Rel ops C0 Q (y :: x :: l) F a:=by
 obtain ⟨i,oi⟩:=x;obtain ⟨j,oj⟩:=y;obtain ⟨hne,hap,hed,hed2,hkd,hsi,hsj⟩:=hp;obtain ⟨h1,h2,h3⟩:=Oper.apart_spec hap
 dsimp only at *
 have hwj : ∀ v,aL oj (yielded ops (a.put oi.dst v).tmps) = aL oj (yielded ops a.tmps):=λv=>wanted_put oj a oi.dst v h1;have hwi : ∀ v,aL oi (yielded ops (a.put oj.dst v).tmps) = aL oi (yielded ops a.tmps):=λv=>wanted_put oi a oj.dst v h3;have hcomm : ∀ v u,(a.put oi.dst v).put oj.dst u = (a.put oj.dst u).put oi.dst v:=λv u=>oQ a v u h2
 have hupc : ∀ (p q : World -> Prop),upF (upF F i p) j q = upF (upF F j q) i p:=λp q=>by
  funext k
  by_cases e : k = i
  ·subst e
   rw [iQ,iW hne,iQ]
  ·by_cases e2 : k = j
   ·subst e2
    rw [iQ,iW e,iQ]
   ·rw [iW e2,iW e,iW e,iW e2]
 by_cases wi : aL oi (yielded ops a.tmps) = true
 ·unfold wpG at h
  rw [if_pos wi] at h;obtain ⟨Vx,pX,kX,yX,nX⟩:=h
  by_cases wj : aL oj (yielded ops a.tmps) = true
  ·obtain ⟨v0,w1,hb1,hV1⟩:=(yX w0 hG.cls (λe _ _=>hG.all e.on)).any
   have hC1:=hcl _ _ hG.cls hb1;have hF1 : ∀ k,F k w1:=λk=>hG.pers k _ _ (hG.all k) hb1
   have key : ∀ v,(∃ w,C0 w /\ (∀ k,F k w) /\ Vx v w) -> stepG P Rel C0 (upF F i (Vx v)) oj (a.put oi.dst v) (λp a'=>wpG P Rel ops C0 Q l (upF (upF F i (Vx v)) j p) a'):=by
    rintro v ⟨w,hw,hF,hV⟩
    have h5:=nX v w hw hF hV
    unfold wpG at h5
    rwa [hwj,if_pos wj] at h5
   have key' : ∀ v,∃ V : Value -> World -> Prop,(∃ w,C0 w /\ (∀ k,F k w) /\ Vx v w) -> (∀ v,Ho Rel (V v)) /\ ((∃ v,∀ u w,V u w -> u = v) \/ sT oj.op = true) /\
     (∀ w,C0 w -> (∀ e ∈ oj.after,eL .any e = true -> upF F i (Vx v) e.on w) -> oX P Rel w V ((execOp (a.put oi.dst v).eval oj).run P w)) /\
     ∀ u w,C0 w -> (∀ k,upF F i (Vx v) k w) -> V u w -> wpG P Rel ops C0 Q l (upF (upF F i (Vx v)) j (V u)) ((a.put oi.dst v).put oj.dst u):=λv=>by
    by_cases hv : ∃ w,C0 w /\ (∀ k,F k w) /\ Vx v w
    ·obtain ⟨V,hV⟩:=key v hv
     exact ⟨V,λ_=>hV⟩
    ·exact ⟨λ_ _=>True,λh=>absurd h hv⟩
   clear key;obtain ⟨Vy,hy⟩:=Classical.axiomOfChoice key';clear key';have hv0 : ∃ w,C0 w /\ (∀ k,F k w) /\ Vx v0 w:=⟨w1,hC1,hF1,hV1⟩
   unfold wpG
   rw [if_pos wj];refine ⟨λu w=>∀ v,(∃ w,C0 w /\ (∀ k,F k w) /\ Vx v w) -> Vy v u w,λu w w' h hb v hv=>(hy v hv).1 u w w' (h v hv) hb,?_,?_,?_⟩
   ·rcases (hy v0 hv0).2.1 with ⟨u0,hu⟩ | hm
    ·exact .inl ⟨u0,λu w h=>hu u w (h v0 hv0)⟩
    ·exact .inr hm
   ·intro w hw hpre
    have hr : ∀ v,(∃ w,C0 w /\ (∀ k,F k w) /\ Vx v w) -> oX P Rel w (Vy v) ((execOp a.eval oj).run P w):=λv hv=>by
     have h5:=(hy v hv).2.2.1 w hw (λe he hb=>by rw [iW (hed e he hb)]; exact hpre e he hb)
     rwa [execOp_put oj hsj a oi.dst v h1] at h5
    have hst:=λn w'=>BA (P:=P) (ρ:=a.eval) (o:=oj) (w:=w) (w':=w') (n:=n);generalize (execOp a.eval oj).run P w = r at *
    cases r with
    | ok n w' =>
     cases n
     case value u=>exact ⟨(hr v0 hv0).1,λv hv=>(hr v hv).2⟩
     case skip=>exact ⟨(hr v0 hv0).1,λv hv=>(hr v hv).2⟩
     case enter f args =>
      rcases hkd with hkd | hkd
      ·rcases hst _ _ hkd rfl with ⟨v,hv⟩ | hv <;> cases hv
      ·rcases kX with ⟨vv,hvv⟩ | hm
       ·obtain ⟨e1,hc⟩:=hr v0 hv0
        refine ⟨e1,hc.mono λe w'' ⟨u,he,hb,hV⟩=>⟨u,he,hb,λv hv=>?_⟩⟩;obtain ⟨w3,_,_,hv3⟩:=hv;have e2 : v = v0:=(hvv _ _ hv3).trans (hvv _ _ hV1).symm;rw [e2];exact hV
       ·rw [hkd] at hm
        cases hm
     all_goals exact absurd (hr v0 hv0) (by simp [oX])
    | halt x w'=>exact absurd (hr v0 hv0) (by simp [oX])
   ·intro u w hw hF hVu
    unfold wpG
    rw [hwi,if_pos wi];refine ⟨Vx,pX,kX,?_,?_⟩
    ·intro w2 hw2 hpre
     rw [execOp_put oi hsi a oj.dst u h3];exact yX w2 hw2 (λe he hb=>by have h5:=hpre e he hb; rwa [iW (hed2 e he hb)] at h5)
    ·intro v w2 hw2 hF2 hV2
     have hFw2 : ∀ k,F k w2:=λk=>by
      by_cases e : k = j
      ·subst e
       exact hj w2
      ·have h5:=hF2 k
       rwa [iW e] at h5
     have hv : ∃ w,C0 w /\ (∀ k,F k w) /\ Vx v w:=⟨w2,hw2,hFw2,hV2⟩
     have hVy : Vy v u w2:=by
      have h5:=hF2 j;rw [iQ] at h5;exact h5 v hv
     have h6:=(hy v hv).2.2.2 u w2 hw2 (λk=>by
      by_cases e : k = i
      ·subst e
       rw [iQ];exact hV2
      ·rw [iW e]
       exact hFw2 k) hVy
     rw [hcomm,hupc] at h6;refine Bs hQ l _ _ _ (λk w h7=>?_) h6
     by_cases e : k = i
     ·subst e
      rwa [iQ] at h7 ⊢
     ·rw [iW e] at h7 ⊢
      by_cases e2 : k = j
      ·subst e2
       rw [iQ] at h7 ⊢;exact h7 v hv
      ·rwa [iW e2] at h7 ⊢
  ·unfold wpG
   rw [if_neg wj]
   unfold wpG
   rw [hwi,if_pos wi];refine ⟨Vx,pX,kX,?_,?_⟩
   ·intro w2 hw2 hpre
    rw [execOp_put oi hsi a oj.dst undef h3];exact yX w2 hw2 (λe he hb=>by have h5:=hpre e he hb; rwa [iW (hed2 e he hb)] at h5)
   ·intro v w2 hw2 hF2 hV2
    have h5:=nX v w2 hw2 (λk=>by
     by_cases e : k = j
     ·subst e
      exact hj w2
     ·have h5:=hF2 k
      rwa [iW e] at h5) hV2
    unfold wpG at h5
    rw [hwj,if_neg wj,hcomm,hupc] at h5;exact h5
 ·unfold wpG at h
  rw [if_neg wi] at h
  unfold wpG at h
  by_cases wj : aL oj (yielded ops a.tmps) = true
  ·rw [hwj,if_pos wj] at h
   obtain ⟨Vy,pY,kY,yY,nY⟩:=h
   unfold wpG
   rw [if_pos wj];refine ⟨Vy,pY,kY,?_,?_⟩
   ·intro w hw hpre
    have h5:=yY w hw (λe he hb=>by rw [iW (hed e he hb)]; exact hpre e he hb)
    rwa [execOp_put oj hsj a oi.dst undef h1] at h5
   ·intro u w hw hF hV
    have h5:=nY u w hw (λk=>by
     by_cases e : k = i
     ·subst e
      rw [iQ]
      trivial
     ·rw [iW e]
      exact hF k) hV
    unfold wpG
    rw [hwi,if_neg wi];rw [hcomm,hupc] at h5;exact h5
  ·rw [hwj,if_neg wj] at h
   unfold wpG
   rw [if_neg wj]
   unfold wpG
   rw [hwi,if_neg wi];rw [hcomm,hupc] at h;exact h
theorem Oo (hcl : ∀ w w',C0 w -> Rel w w' -> C0 w') (hQ : ∀ F F' a,(∀ k w,F' k w -> F k w) -> Q F a -> Q F' a) (y : Nat × Oper) (l2 : List (Nat × Oper)) : ∀ (l1 : List (Nat × Oper)) (F : Facts) (a : Act) (w0 : World),(∀ x ∈ l1,Pr ops x y) -> ((l1 ++ y :: l2).map (·.1)).Nodup ->
  uR Rel C0 F w0 -> Unl (l1 ++ y :: l2) F -> wpG P Rel ops C0 Q (l1 ++ y :: l2) F a -> wpG P Rel ops C0 Q (y :: (l1 ++ l2)) F a
 | [],F,a,w0,_,_,_,_,h=>h
 | x :: l1,F,a,w0,hp,hnd,hG,hU,h=>by
  have hnd2 : x.1 ∉ (l1 ++ y :: l2).map (·.1) /\ ((l1 ++ y :: l2).map (·.1)).Nodup:=by
   simpa [List.nodup_cons] using hnd
  have h' : wpG P Rel ops C0 Q (x :: (y :: (l1 ++ l2))) F a :=
   Mn (l:=l1 ++ y :: l2) hG (λz hz=>hU z (bE _ hz)) hnd2.1
    (λF a w hG hU h=>Oo hcl hQ y l2 l1 F a w (λz hz=>hp z (bE _ hz)) hnd2.2 hG hU h) h
  exact Ul hcl hQ (hp x (by simp)) hG (hU y (by simp)) h'
end
end Go.Proofs.YtfkchihlchlfdaaDoor
