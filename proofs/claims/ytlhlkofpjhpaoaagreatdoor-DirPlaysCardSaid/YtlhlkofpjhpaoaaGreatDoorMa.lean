import Derived.Test.YtlhlkofpjhpaoaaGreatDoorRows
import Derived.WalkKit
import Derived.WalkSpells
import Derived.WalkLawsBesides
import Derived.Lib.Hide
import Derived.Laws.CopyOwn
import Derived.Deep.QuietTactic
import Derived.StillTail
import Derived.Deep.MidRow
set_option maxRecDepth 20000
open Array renaming replicate->aX,getElem?_eq_some_iff->a7,getD_eq_getD_getElem?->bL,getElem?_eq_getElem->b7,any_eq_true'->cX,getElem?_modify->nV
open Bool renaming and_eq_true->aN,or_eq_true->dF,false_eq_true->l5
open Classical renaming choose->oC,choose_spec->rL
open Go.Act renaming put_comm->iQ,put->pC,eval->sE
open Go.Code renaming region->nH
open Go.Instr renaming sureAddr->iH,fill->jW,storeAt->pE
open Go.Next renaming value->tK
open Go.Op renaming equalIn->cC
open Go.Oper renaming upon->fT,wp->iU
open Go.Region renaming wanted->aO,ready->aV,binds->cL,Mode->cT,noSelect->j8
open Go.Result renaming andThen_ok->aD
open Go.Sem renaming run_bind->aG,run_pure->aH
open Go.Value renaming cells->oG
open Go.World renaming size_alloc->c8
open List renaming mem_cons_of_mem->aJ,length_cons->bD,mem_map->bP,append_nil->bT,all_eq_true->cA,take_append_drop->cW,length_drop->dC,mem_range'_1->iF,mem_range->jK,range->mF,getElem?_drop->qQ,forIn_cons->tL
open Nat renaming le_refl->aF,blt->aQ,zero_add->aZ,beq->bN,add_assoc->bZ,lt_of_le_of_lt->dP,add_zero->eX,add_comm->lY
open Option.some renaming inj->cR
open Std.Legacy.Range renaming size->eQ
open UInt8 renaming ofNat->bK
namespace Go.Proofs.YtlhlkofpjhpaoaaGreatDoor
def be8(v:Nat):List UInt8:=[bK (v/72057594037927936),bK (v/281474976710656),bK (v/1099511627776),bK (v/4294967296),bK (v/16777216),bK (v/65536),bK (v/256),bK v]
def step(a:Nat)(x:UInt8):Nat:=(a*256+x.toNat)%18446744073709551616
def val(l:List UInt8):Nat:=l.foldl step 0
theorem be8_len(v:Nat):(be8 v).length=8:=rfl
def tk(l:List UInt8)(f k:Nat):List UInt8×List UInt8×Nat :=
  if f=0 then(if l.length<k then([],l,10) else(l.take k,l.drop k,0)) else([],l,f)
def num(l:List UInt8)(f:Nat):Nat×List UInt8×Nat:=(val (tk l f 8).1,(tk l f 8).2)
def most(l:List UInt8)(f lim:Nat):Nat×List UInt8×Nat:=if lim<(num l f).1 then(0,(num l f).2.1,12) else num l f
end Go.Proofs.YtlhlkofpjhpaoaaGreatDoor
namespace Go.Proofs.YtlhlkofpjhpaoaaGreatDoor
open Go.RowKit
def By(l:List UInt8):List Value:=l.map λx=>.int .u8 (x.toNat:Int)
theorem By_len(l:List UInt8):(By l).length=l.length:=by simp [By]
theorem By_app(a b:List UInt8):By (a++b)=By a++By b:=by simp [By]
theorem By_one(l:List UInt8):∀u∈By l,u.oneCell'=true:=by
 intro u hu
 obtain⟨x,_,rfl⟩:=bP.1 hu
 rfl
theorem By_at{l:List UInt8}{j:Nat}{u:Value}(h:(By l)[j]?=some u):∃x,l[j]?=some x/\u = .int .u8 (x.toNat:Int):=by
 simp only [By,List.getElem?_map,Option.map_eq_some_iff] at h;obtain⟨x,hx,rfl⟩:=h;exact⟨x,hx,rfl⟩
def BV(w:World)(lo hi:Nat)(A:Option Addr)(l:List UInt8):Prop :=
  0<l.length->∃ad,A=some ad/\lo<=ad.block/\ad.block<hi/\∀j x,l[j]?=some x->w.cell? (ad.add j)=some (.int .u8 (x.toNat:Int))
section
variable{w w':World}{lo hi lo' hi':Nat}{A:Option Addr}{l:List UInt8}
theorem block_add(a:Addr)(n:Nat):(a.add n).block=a.block:=by unfold Addr.add;split<;>rfl
theorem add_add'(a:Addr)(i j:Nat):(a.add i).add j=a.add (i+j):=by
 unfold Addr.add
 by_cases h1:i=0<;>by_cases h2:j=0<;>simp [h1,h2,bZ]
theorem BV.nil(w:World)(lo hi:Nat)(A:Option Addr):BV w lo hi A []:=λh=>absurd h (by simp)
theorem BV.more(h:BV w lo hi A l)(h1:lo'<=lo)(h2:hi<=hi'):BV w lo' hi' A l:=λhl=>by
 obtain⟨ad,e,ha,hb,hc⟩:=h hl;exact⟨ad,e,by omega,by omega,hc⟩
theorem BV.keep(h:BV w lo hi A l)(hk:∀k,lo<=k->k<hi->w'.heap[k]?=w.heap[k]?):BV w' lo hi A l:=λhl=>by
 obtain⟨ad,e,ha,hb,hc⟩:=h hl
 exact⟨ad,e,ha,hb,λj x hx=>by
  rw [World.cell?_of_block (w:=w) (by rw [block_add];exact hk _ ha hb)]
  exact hc j x hx⟩
theorem BV.below(h:BV w lo hi A l){B:Nat}(hb:Below B w w')(hB:hi<=B):BV w' lo hi A l:=h.keep λk _ hk=>hb.block k (by omega)
theorem BV.grown(h:BV w lo hi A l){r:Nat}(hg:w.grownBy w' (some r))(hB:hi<=w.heap.size)(hr:r<lo\/hi<=r):BV w' lo hi A l :=
 h.keep λk h1 h2=>hg.block k (by omega) (λe=>by injection e with e;omega)
theorem BV.alloc(h:BV w lo hi A l)(o:Obj)(hB:hi<=w.heap.size):BV (w.alloc o) lo hi A l:=h.keep λk _ h2=>Below.heap_alloc w o k (by omega)
theorem BV.take(h:BV w lo hi A l)(k:Nat):BV w lo hi A (l.take k):=λhl=>by
 obtain⟨ad,e,ha,hb,hc⟩:=h (by simp at hl;omega)
 exact⟨ad,e,ha,hb,λj x hx=>hc j x (by
  rw [List.getElem?_take] at hx
  split at hx
  ·exact hx
  ·cases hx)⟩
theorem BV.cut(h:BV w lo hi A l){k c:Nat}(hk:k<=l.length)(hc:l.length<=c):BV w lo hi (if c=k then A else A.map (·.add k)) (l.drop k):=λhl=>by
 simp only [dC] at hl;obtain⟨ad,rfl,ha,hb,hcell⟩:=h (by omega);rw [if_neg (by omega)]
 exact⟨ad.add k,rfl,by rw [block_add];exact ha,by rw [block_add];exact hb,λj x hx=>by
  rw [add_add']
  exact hcell (k+j) x (by rw [<-hx,qQ])⟩
end
def Blk(w:World)(g t:Nat)(cs:Array Value):Prop:=w.heap[g]?=some (.cells cs t (0,0))
section
variable{w w':World}{g t:Nat}{cs:Array Value}
theorem Blk.lt(h:Blk w g t cs):g<w.heap.size:=(a7.1 h).1
theorem Blk.cell(h:Blk w g t cs)(i:Nat):w.cell? ⟨g,i,none⟩=cs[i]?:=cell_of_row w g i cs t (0,0) h
theorem Blk.free(h:Blk w g t cs)(i:Nat):w.frozen? ⟨g,i,none⟩=false:=frozen_of_row w g i cs t h
theorem Blk.new(w:World)(t:Nat)(cs:Array Value):Blk (w.alloc (.cells cs t)) w.heap.size t cs:=heap_alloc_new w _
theorem Blk.alloc(h:Blk w g t cs)(o:Obj):Blk (w.alloc o) g t cs:=(Below.heap_alloc w o g h.lt).trans h
theorem Blk.set(h:Blk w g t cs)(i:Nat)(u:Value):Blk (w.setCell ⟨g,i,none⟩ u) g t (cs.setIfInBounds i u):=by
 unfold Blk at h ⊢
 simp [World.setCell,nV,h]
theorem Blk.far(h:Blk w g t cs){p:Addr}(hp:g≠p.block)(u:Value):Blk (w.setCell p u) g t cs:=(heap_setCell_other w p g u hp).trans h
theorem Blk.below{B:Nat}(h:Blk w g t cs)(hb:Below B w w')(hg:g<B):Blk w' g t cs:=(hb.block g hg).trans h
end
def SL(w:World)(lo hi:Nat)(A:Option Addr)(l:List UInt8)(c:Nat):Prop :=
  l.length<=c/\c<=9223372036854775807/\(A=none->c=0)/\BV w lo hi A l
section
variable{w w':World}{lo hi lo' hi' c:Nat}{A:Option Addr}{l:List UInt8}
theorem SL.more(h:SL w lo hi A l c)(h1:lo'<=lo)(h2:hi<=hi'):SL w lo' hi' A l c:=⟨h.1,h.2.1,h.2.2.1,h.2.2.2.more h1 h2⟩
theorem SL.below(h:SL w lo hi A l c){B:Nat}(hb:Below B w w')(hB:hi<=B):SL w' lo hi A l c:=⟨h.1,h.2.1,h.2.2.1,h.2.2.2.below hb hB⟩
theorem SL.alloc(h:SL w lo hi A l c)(o:Obj)(hB:hi<=w.heap.size):SL (w.alloc o) lo hi A l c:=⟨h.1,h.2.1,h.2.2.1,h.2.2.2.alloc o hB⟩
theorem SL.nil(w:World)(lo hi:Nat):SL w lo hi none [] 0:=⟨by simp,by omega,λ_=>rfl,BV.nil _ _ _ _⟩
theorem SL.take(h:SL w lo hi A l c)(k:Nat):SL w lo hi A (l.take k) c:=⟨by have:=h.1;simp;omega,h.2.1,h.2.2.1,h.2.2.2.take k⟩
theorem SL.cut(h:SL w lo hi A l c){k:Nat}(hk:k<=l.length):SL w lo hi (if c=k then A else A.map (·.add k)) (l.drop k) (c-k):=by
 refine⟨by have:=h.1;simp;omega,by have:=h.2.1;omega,λhA=>?_,h.2.2.2.cut hk h.1⟩
 split at hA
 ·rw [h.2.2.1 hA];omega
 ·cases A with
  | none=>rw [h.2.2.1 rfl];omega
  | some a=>cases hA
end
theorem SL.none_{w:World}{lo hi c:Nat}{A:Option Addr}{l:List UInt8}(h:SL w lo hi A l c)(hA:A=none):l.length=0/\c=0:=by
 have:=h.2.2.1 hA;have:=h.1
 omega
theorem SL.cells{w:World}{lo hi c:Nat}{A:Option Addr}{l:List UInt8}(h:SL w lo hi A l c):∀ad,A=some ad->∀j u,(By l)[j]?=some u->w.cell? (ad.add j)=some u:=by
 intro ad hA j u hu
 obtain⟨x,hx,rfl⟩:=By_at hu
 have hl:0<l.length:=by
  have:=(List.getElem?_eq_some_iff.1 hx).1
  omega
 obtain⟨ad',hA',_,_,hc⟩:=h.2.2.2 hl;rw [hA] at hA'
 injection hA' with hA'
 subst hA';exact hc j x hx
def Parts(w:World)(hi:Nat)(A:Option Addr)(ls:List (List UInt8)):Prop :=
  0<ls.length->∃ad,A=some ad/\ad.block<hi/\∀(i:Nat) l,ls[i]?=some l->∃A' c,w.cell? (ad.add i)=some (.slice A' l.length c)/\SL w 0 hi A' l c
theorem Parts.below{w w':World}{hi B:Nat}{A:Option Addr}{ls:List (List UInt8)}(h:Parts w hi A ls)(hb:Below B w w')(hB:hi<=B):Parts w' hi A ls:=λhl=>by
 obtain⟨ad,rfl,ha,hc⟩:=h hl;refine⟨ad,rfl,ha,λi l hi=>?_⟩;obtain⟨A',c,h1,h2⟩:=hc i l hi;exact⟨A',c,by rw [hb.cell (by rw [block_add];omega)];exact h1,h2.below hb hB⟩
theorem run_store_row{P:Program}(w:World)(ty:TypeId)(g:Nat)(cs old:Array Value)(t:TypeId)(hg:w.heap[g]?=some (.cells old t (0,0)))
 (hi:(P.info? ty).map (·.size)=some cs.size)(hos:old.size=cs.size)(h1:∀v∈cs.toList,v.oneCell'=true) :
  (pE ty (.pointer (some ⟨g,0,none⟩)) (.agg cs)).run P w = .ok () (w.setRow g cs):=by
 have hst:=run_storeCells_at P g 0 t cs.toList 0 old w hg (by simp;omega) h1;have hd:old.toList.drop cs.toList.length=[]:=List.drop_eq_nil_of_le (by simp;omega);simp only [eX,aZ,List.take_zero,List.nil_append] at hst;rw [hd,bT,Array.toArray_toList] at hst
 cases hq:P.info? ty with
 | none=>simp [hq] at hi
 | some i =>
  have hs:i.size=cs.size:=by simpa [hq] using hi
  simp [pE,iH,storeVar,sizeOf,typeInfo,hq,hs,oG,aG,hst]
theorem wpList_store_row{P:Program}{ops:Array Oper}{rest:List Oper}{o:Oper}{a:Act}{w:World}{Q:Exit->Act->World->Prop}(hgd:o.guard=none)(ty:TypeId)(p x:Operand)(ho:o.op = .store ty p x)
 (g:Nat)(hp:a.eval p = .pointer (some ⟨g,0,none⟩))(cs:Array Value)(hx:a.eval x = .agg cs)(t:TypeId)(old:Array Value)(hg:w.heap[g]?=some (.cells old t (0,0)))
 (hi:(P.info? ty).map (·.size)=some cs.size)(hos:old.size=cs.size)(h1:∀v∈cs.toList,v.oneCell'=true)
 (h:wpList P ops Q rest (a.put o.dst (.tuple #[])) (w.setRow g cs)):wpList P ops Q (o::rest) a w :=
 wpList_plain hgd λ_ hK=>by
  unfold iU execOp
  simp only [ho,hp,hx,aG,aH,aD,run_store_row w ty g cs old t hg hi hos h1];exact hK _ _ h
theorem Blk.row{w:World}{g t:Nat}{cs:Array Value}(h:Blk w g t cs)(cs':Array Value):Blk (w.setRow g cs') g t cs':=setRow_heap w g cs cs' t _ h
theorem Blk.rowFar{w:World}{g t:Nat}{cs:Array Value}(h:Blk w g t cs){g':Nat}(hne:g≠g')(cs':Array Value):Blk (w.setRow g' cs') g t cs:=by
 unfold Blk at h ⊢
 rw [World.setRow];simp only [nV];rw [if_neg (by omega)];exact h
def Is(l:List Int):List Value:=l.map (.int .i64)
theorem By_get{l:List UInt8}{j:Nat}(h:j<l.length):(By l).toArray[j]?=some (.int .u8 ((l[j]!).toNat:Int)):=by
 simp [By,h]
theorem Blk.drew{w:World}{g t:Nat}{cs:Array Value}(h:Blk w g t cs):Blk w.drew g t cs:=h
theorem blk3_0(w:World)(t:Nat)(cs:Array Value)(o1 o2:Obj):Blk (((w.alloc (.cells cs t)).alloc o1).alloc o2) w.heap.size t cs:=((Blk.new w t cs).alloc o1).alloc o2
theorem blk3_1(w:World)(t:Nat)(cs:Array Value)(o1 o2:Obj):Blk (((w.alloc o1).alloc (.cells cs t)).alloc o2) (w.heap.size+1) t cs:=by
 have h:=(Blk.new (w.alloc o1) t cs).alloc o2
 rwa [c8] at h
theorem blk3_2(w:World)(t:Nat)(cs:Array Value)(o1 o2:Obj):Blk (((w.alloc o1).alloc o2).alloc (.cells cs t)) (w.heap.size+1+1) t cs:=by
 have h:=Blk.new ((w.alloc o1).alloc o2) t cs
 rwa [c8,c8] at h
theorem blk4_0(w:World)(t:Nat)(cs:Array Value)(o1 o2 o3:Obj):Blk ((((w.alloc (.cells cs t)).alloc o1).alloc o2).alloc o3) w.heap.size t cs:=(((Blk.new w t cs).alloc o1).alloc o2).alloc o3
theorem blk4_1(w:World)(t:Nat)(cs:Array Value)(o1 o2 o3:Obj):Blk ((((w.alloc o1).alloc (.cells cs t)).alloc o2).alloc o3) (w.heap.size+1) t cs:=by
 have h:=((Blk.new (w.alloc o1) t cs).alloc o2).alloc o3
 rwa [c8] at h
theorem blk4_2(w:World)(t:Nat)(cs:Array Value)(o1 o2 o3:Obj):Blk ((((w.alloc o1).alloc o2).alloc (.cells cs t)).alloc o3) (w.heap.size+1+1) t cs:=by
 have h:=(Blk.new ((w.alloc o1).alloc o2) t cs).alloc o3
 rwa [c8,c8] at h
theorem blk4_3(w:World)(t:Nat)(cs:Array Value)(o1 o2 o3:Obj):Blk ((((w.alloc o1).alloc o2).alloc o3).alloc (.cells cs t)) (w.heap.size+1+1+1) t cs:=by
 have h:=Blk.new (((w.alloc o1).alloc o2).alloc o3) t cs
 rwa [c8,c8,c8] at h
theorem below4(w:World)(o1 o2 o3 o4:Obj):Below w.heap.size w ((((w.alloc o1).alloc o2).alloc o3).alloc o4) :=
 ((((Below.refl _ _).alloc (aF _) _).alloc (by simp) _).alloc (by simp;omega) _).alloc (by simp;omega) _
def z32:Array Value:=(By (List.replicate 32 0)).toArray
theorem size_hash(cs:Array Value)(h:cs.size=32):(Tryz.prog.info? 45).map (·.size)=some cs.size:=by
 rw [h]
 kernel_rfl
theorem By_set(l:List UInt8)(k:Nat)(x:UInt8):(By l).toArray.setIfInBounds k (.int .u8 (x.toNat:Int))=(By (l.set k x)).toArray:=by
 simp [By,List.map_set]
theorem len_by{l:List UInt8}(h:l.length=32):(By l).toArray.size=32:=by rw [List.size_toArray,By_len,h]
theorem info8:(Tryz.prog.info? 5).map (λi=>(i.zero,i.size,i.bytes))=some (some (.int .u8 0),1,1):=by kernel_rfl
theorem part_at(w:World)(l:List UInt8)(i:Nat)(hi:i<l.length):(part 5 (By l).toArray (i*1)).run Tryz.prog w = .ok (.int .u8 (l[i].toNat:Int)) w:=by
 have hagg:(isAgg 5).run Tryz.prog w = .ok false w:=by
  unfold isAgg
  rw [aG,run_underlying Tryz.underlying5 w]
  rfl
 have hc:(By l)[i]?=some (.int .u8 (l[i].toNat:Int)):=by simp [By,List.getElem?_eq_getElem hi]
 unfold part
 simp [aG,hagg,hc,aH]
theorem one_eq(d:Nat)(x y:UInt8)(w:World):(cC (d+1) 5 (.int .u8 (x.toNat:Int)) (.int .u8 (y.toNat:Int))).run Tryz.prog w = .ok (decide (x=y)) w:=by
 simp [cC,run_underlying Tryz.underlying5]
 by_cases h:x=y
 ·simp [h]
 ·have h2:¬x.toNat=y.toNat:=λe=>h (UInt8.toNat.inj e)
  simp [h]
  intro e
  exact h2 (by omega)
theorem equalIn_bytes(d n t:Nat)(l m:List UInt8)(ht:Tryz.prog.underlying t=some (.array n 5))(hl:l.length=n)(hm:m.length=n)(w:World) :
  (cC (d+2) t (.agg (By l).toArray) (.agg (By m).toArray)).run Tryz.prog w = .ok (decide (l=m)) w:=by
 obtain⟨i0,hi0,hz0,hz1,hz2⟩:=info_parts info8
 have hI:∀(I:List Nat),(∀i∈I,i<n)->(forIn I ((none:Option Bool),()) λi _=>do
   let a <-part 5 (By l).toArray (i*1)
   let b <-part 5 (By m).toArray (i*1)
   let r <-cC (d+1) 5 a b
   if (!r)=true then pure (ForInStep.done (some false,())) else pure (ForInStep.yield (none,()))).run Tryz.prog w = .ok (if ∀i∈I,l[i]! = m[i]! then(none,()) else(some false,())) w:=by
  intro I
  induction I with
  | nil=>intro _;simp [aH]
  | cons i I ih =>
   intro h
   have hi:i<l.length:=by have:=h i (by simp);omega
   have hj:i<m.length:=by have:=h i (by simp);omega
   have hp:=part_at w l i hi;have hq:=part_at w m i hj;have he:=one_eq d l[i] m[i] w;have e1:l[i]! = l[i]:=getElem!_pos l i hi;have e2:m[i]! = m[i]:=getElem!_pos m i hj
   by_cases hx:l[i]=m[i]
   ·rw [show decide (l[i]=m[i])=true by simp [hx]] at he
    simp only [tL,aG,hp,hq,aD,he,Bool.not_true,l5,if_false,aH];rw [ih (λj hj=>h j (by simp [hj]))]
    congr 1
    by_cases ha:∀i∈I,l[i]! = m[i]!
    ·have hb:∀j∈i::I,l[j]! = m[j]!:=by
      intro j hj
      rcases List.mem_cons.mp hj with rfl|hj
      ·rw [e1,e2,hx]
      ·exact ha j hj
     rw [if_pos ha,if_pos hb]
    ·rw [if_neg ha,if_neg (λhb=>ha λj hj=>hb j (aJ _ hj))]
   ·rw [show decide (l[i]=m[i])=false by simp [hx]] at he
    simp only [tL,aG,hp,hq,aD,he,Bool.not_false,if_true,aH];rw [if_neg (λhb=>hx (by have:=hb i (List.mem_cons_self ..);rw [e1,e2] at this;exact this))]
 rw [cC];simp only [aG,run_underlying ht,aD,sizeOf,typeInfo,run_program,hi0,hz1,aH,Std.Legacy.Range.forIn_eq_forIn_range']
 rw [hI _ (λi hi=>by
  have:=iF.1 hi
  simp [eQ] at this
  omega)]
 by_cases hlm:l=m
 ·subst hlm
  simp [aH]
 ·have hne:¬ ∀i∈List.range' 0 n 1,l[i]! = m[i]!:=λha=>hlm (by
   apply List.ext_getElem (by rw [hl,hm])
   intro i h1 h2
   have:=ha i (iF.2 (by omega))
   rwa [getElem!_pos l i h1,getElem!_pos m i h2] at this)
  have hs:eQ [:n]=n:=by simp [eQ]
  rw [hs,if_neg hne,show decide (l=m)=false by simp [hlm]]
  rfl
theorem equal32(l m:List UInt8)(hl:l.length=32)(hm:m.length=32)(w:World):(cC 10000 45 (.agg (By l).toArray) (.agg (By m).toArray)).run Tryz.prog w = .ok (decide (l=m)) w:=equalIn_bytes 9998 32 45 l m Tryz.underlying45 hl hm w
end Go.Proofs.YtlhlkofpjhpaoaaGreatDoor
namespace Go.Proofs.YtlhlkofpjhpaoaaGreatDoor
open Go.RowKit Go.IntWalk
def plainB:Op->Bool
  | .move _ | .assign _ | .pick .. | .alloc _ | .box .. | .build .. | .load .. | .store .. | .binOp .. | .unOp .. | .convert .. | .fieldAddr .. | .field .. | .indexAddr .. | .index .. | .extract .. | .slice .. | .makeInterface ..=>true
  | _=>false
def multiB:Op->Bool
  | .call c=>match c.callee with | .builtin .len=>false|_=>true
  | o=>!plainB o
theorem plain_of{o:Op}(h:multiB o=true):plainB o=false:=by
 cases o<;>first|rfl|exact absurd h (by simp [multiB,plainB])
section
variable{P:Program}
theorem run_v{s:Sem Value}{w w':World}{n:Next}(h:(do pure (tK (<-s)):Sem Next).run P w = .ok n w'):∃v,n = .value v:=by
 rw [aG] at h
 cases hs:s.run P w with
 | ok v w1 =>
  rw [hs] at h;simp only [aD,aH] at h
  injection h with h1 h2
  exact⟨v,h1.symm⟩
 | halt x w1 =>
  rw [hs] at h
  cases h
theorem run_u{s:Sem Unit}{w w':World}{n:Next}(h:(do s;pure Next.skip:Sem Next).run P w = .ok n w'):n = .skip:=by
 rw [aG] at h
 cases hs:s.run P w with
 | ok v w1 =>
  rw [hs] at h;simp only [aD,aH] at h
  injection h with h1 h2
  exact h1.symm
 | halt x w1 =>
  rw [hs] at h
  cases h
theorem plain_ok{ρ:Operand->Value}{o:Oper}(hp:plainB o.op=true){w w':World}{n:Next}(h:(execOp ρ o).run P w = .ok n w'):(∃v,n = .value v)\/n = .skip:=by
  obtain⟨dst,op,ty,pos,af,gd⟩:=o
  cases op<;>first
    | (cases hp;done)
    | exact .inl (run_v h)
    | exact .inr (run_u h)
    | (refine .inl ?_
       unfold execOp at h
       simp only [aH] at h
       injection h with h1 h2
       exact⟨_,h1.symm⟩)
    | (refine .inl ?_
       unfold execOp at h
       exact run_v (s:=do pure (if <-asBool _ then _ else _)) (by simpa using h))
end
section
variable{P:Program}{ops:Array Oper}{md:cT}{Q:Exit->Act->World->Prop}{C0:World->Prop}
def uponB(P:Program)(w:World)(V:Value->Prop):Result Next->Prop
  | .ok (.value u) w'=>w'=w/\V u
  | .ok .skip w'=>w'=w/\V undef
  | .ok (.enter f args) w'=>w'=w/\Calls P f args w (λe w''=>∃v,e = .returned v/\V v/\Below w.heap.size w w'')
  | _=>False
def atB(P:Program)(o:Oper)(a:Act)(w:World)(V:Value->Prop):Prop:=uponB P w V ((execOp a.eval o).run P w)
def quietB(P:Program)(o:Oper)(a:Act)(C0:World->Prop)(next:Act->Prop):Prop :=
  (∃v,(∀w,C0 w->atB P o a w (· = v))/\next (a.put o.dst v))\/(multiB o.op=true/\∃V,(∀w,C0 w->atB P o a w V)/\∀v,V v->next (a.put o.dst v))
def wpB(P:Program)(ops:Array Oper)(C0:World->Prop)(Q:Act->Prop):List Oper->Act->Prop
  | [],a=>Q a
  | o::rest,a=>if aO o (yielded ops a.tmps) then quietB P o a C0 (wpB P ops C0 Q rest) else wpB P ops C0 Q rest (a.put o.dst undef)
theorem wpB_nil{Q:Act->Prop}{a:Act}(h:Q a):wpB P ops C0 Q [] a:=h
theorem quietB_mono{Q Q':Act->Prop}(h:∀a,Q a->Q' a){o:Oper}{a:Act}(hh:quietB P o a C0 Q):quietB P o a C0 Q':=by
 rcases hh with⟨v,h1,h2⟩|⟨hp,V,h1,h2⟩
 ·exact .inl ⟨v,h1,h _ h2⟩
 ·exact .inr ⟨hp,V,h1,λv hv=>h _ (h2 v hv)⟩
theorem wpB_mono{Q Q':Act->Prop}(h:∀a,Q a->Q' a):∀(l:List Oper) (a:Act),wpB P ops C0 Q l a->wpB P ops C0 Q' l a
 | [],a,hh=>h a hh
 | o::l,a,hh=>by
  unfold wpB at hh ⊢
  split
  ·rename_i hw
   simp only [hw,if_true] at hh;exact quietB_mono (wpB_mono h l) hh
  ·rename_i hw
   simp only [hw] at hh;exact wpB_mono h l _ (by simpa using hh)
def YieldsB(P:Program)(ops:Array Oper)(C0:World->Prop)(o:Oper)(V:Value->Prop)(a:Act):Prop :=
  (aO o (yielded ops a.tmps)=true/\∀w,C0 w->atB P o a w V)\/(aO o (yielded ops a.tmps)=false/\V undef)
theorem YieldsB.of_same{o:Oper}{V:Value->Prop}{a a':Act}(hy:YieldsB P ops C0 o V a)(he:execOp a'.eval o=execOp a.eval o)
 (hw:aO o (yielded ops a'.tmps)=aO o (yielded ops a.tmps)):YieldsB P ops C0 o V a':=by
 unfold YieldsB atB at *
 rw [he,hw];exact hy
theorem YieldsB.any{o:Oper}{V:Value->Prop}{a:Act}(hy:YieldsB P ops C0 o V a){w:World}(hC:C0 w):∃v,V v:=by
 rcases hy with⟨_,h⟩|⟨_,h⟩
 ·have h3:=h w hC
  unfold atB at h3
  generalize (execOp a.eval o).run P w=r at *
  cases r with
  | ok n w' =>
   cases n<;>simp only [uponB] at h3
   case value u=>exact⟨u,h3.2⟩
   case skip=>exact⟨_,h3.2⟩
   case enter f args =>
    obtain⟨e,w1,fr,⟨v,_,hv,_⟩,_⟩:=h3.2 [];exact⟨v,hv⟩
  | halt x w'=>simp only [uponB] at h3
 ·exact⟨_,h⟩
theorem YieldsB.wpOp{i:Nat}{o:Oper}{V:Value->Prop}{a:Act}(hi:ops[i]?=some o)(hy:YieldsB P ops C0 o V a)
 {K:Act->World->Prop}{w:World}(hC:C0 w)(h:∀v w',V v->Below w.heap.size w w'->K (a.put o.dst v) w'):wpOp P ops Q i K a w:=by
 unfold Go.wpOp
 simp only [hi]
 rcases hy with⟨hw,hv⟩|⟨hw,hv⟩
 ·simp only [hw,if_true]
  refine .inl ?_;have h3:=hv w hC
  unfold atB at h3
  unfold iU
  generalize (execOp a.eval o).run P w=r at *
  cases r with
  | ok n w' =>
   cases n<;>simp only [uponB] at h3<;>simp only [fT]
   case value u =>
    obtain⟨e1,e2⟩:=h3;rw [e1];exact h _ _ e2 (Below.refl _ _)
   case skip =>
    obtain⟨e1,e2⟩:=h3;rw [e1];exact h _ _ e2 (Below.refl _ _)
   case enter f args =>
    obtain⟨e1,hc⟩:=h3;rw [e1]
    exact hc.mono λe w'' ⟨v,he,hv,hw''⟩=>by subst he;exact h _ _ hv hw''
  | halt x w'=>simp only [uponB] at h3
 ·simp only [hw,l5,if_false];exact h _ _ hv (Below.refl _ _)
theorem wpOp_putB{j:Nat}{oi oj:Oper}{V:Value->Prop}(hj:ops[j]?=some oj)(hap:oi.apart ops oj=true)
 (hsi:∀cs b,oi.op ≠ .select cs b)(hsj:∀cs b,oj.op ≠ .select cs b)(hne:∃v,V v)(hpl:plainB oj.op=true\/∃v,∀u,V u->u=v)
 (hQ:∀c a d v w,Q (.panic c) (a.put d v) w->Q (.panic c) a w){K:Act->World->Prop}{a:Act}{w:World}
 (hy:YieldsB P ops C0 oi V a)(h:∀v,V v->wpOp P ops Q j K (a.put oi.dst v) w) :
  wpOp P ops Q j (λa' w'=>YieldsB P ops C0 oi V a'/\∀v,V v->K (a'.put oi.dst v) w') a w:=by
 obtain⟨h1,h2,h3⟩:=Oper.apart_spec hap
 have keep:∀(a:Act),YieldsB P ops C0 oi V a->∀u,YieldsB P ops C0 oi V (a.put oj.dst u):=λa hy u =>
  hy.of_same (execOp_put oi hsi a oj.dst u h3) (wanted_put oi a oj.dst u h3)
 have keepD:∀d,YieldsB P ops C0 oi V { a with defers:=d::a.defers }:=λd=>hy.of_same rfl rfl;obtain⟨v0,hv0⟩:=hne
 unfold wpOp at *
 simp only [hj] at *;have hwt:∀v,aO oj (yielded ops (a.put oi.dst v).tmps)=aO oj (yielded ops a.tmps):=λv=>wanted_put oj a oi.dst v h1
 split
 ·rename_i hw
  by_cases hasks:oj.asks P a w/\LetsOut Q
  ·exact .inr hasks
  have hl:∀v,V v->oj.wp P (a.put oi.dst v) w K Q:=λv hv=>by
   have h5:=h v hv;rw [hwt v] at h5;simp only [hw,if_true] at h5
   rcases h5 with h5|⟨h5,h6⟩
   ·exact h5
   ·refine absurd ⟨?_,h6⟩ hasks
    unfold Oper.asks at *
    rw [execOp_put oj hsj a oi.dst v h1] at h5;exact h5
  refine .inl ?_
  unfold iU at *
  have hl2:∀v,V v->oj.upon P (a.put oi.dst v) K Q ((execOp a.eval oj).run P w):=λv hv=>by
   have h5:=hl v hv;rw [execOp_put oj hsj a oi.dst v h1] at h5;exact h5
  have hpn:=λn w'=>plain_ok (P:=P) (ρ:=a.eval) (o:=oj) (w:=w) (w':=w') (n:=n);generalize (execOp a.eval oj).run P w=r at *
  cases r with
  | ok n w' =>
   cases n
   case value u=>exact⟨keep a hy u,λv hv=>by rw [<-iQ a v u h2];exact hl2 v hv⟩
   case skip=>exact⟨keep a hy _,λv hv=>by rw [<-iQ a v undef h2];exact hl2 v hv⟩
   all_goals
    rcases hpl with hpl|⟨vv,hvv⟩
    ·rcases hpn _ _ hpl rfl with⟨v,hv⟩|hv<;>cases hv
   case enter.inr f args =>
    have h5:=hl2 v0 hv0;simp only [fT] at h5 ⊢;refine Calls.mono h5 λe w'' he=>?_
    cases e with
    | returned u=>exact⟨keep a hy u,λv hv=>by rw [hvv v hv,<-hvv v0 hv0,<-iQ a v0 u h2];exact he⟩
    | panicked c=>exact hQ _ _ _ _ _ he
    | outgrown=>exact he
   case row.inr row args =>
    have h5:=hl2 v0 hv0;simp only [fT] at h5 ⊢;exact Rows.mono h5 λu w'' he=>⟨keep a hy u,λv hv=>by rw [hvv v hv,<-hvv v0 hv0,<-iQ a v0 u h2];exact he⟩
   case defer.inr d =>
    refine⟨keep _ (keepD d) _,λv hv=>?_⟩;have h5:=hl2 v hv;simp only [fT] at h5;rw [<-iQ _ v undef h2,<-Act.put_defers];exact h5
   all_goals
    have h5:=hl2 v0 hv0;simp only [fT] at h5
  | halt x w' =>
   have h5:=hl2 v0 hv0
   cases x<;>simp only [fT] at h5 ⊢
   case panic u=>exact hQ _ _ _ _ _ h5
 ·rename_i hw
  refine⟨keep a hy _,λv hv=>?_⟩;have h5:=h v hv;rw [hwt v] at h5;simp only [hw] at h5;rw [<-iQ a v undef h2]
  simpa using h5
def waitsT(md:cT)(ops:Array Oper):Nat->Nat->Nat->Bool
  | 0,_,_=>false
  | f+1,j,i=>match ops[j]? with
    | none=>false
    | some oj=>oj.after.any λe=>cL md e&&(e.on==i||waitsT md ops f e.on i)
def Closed(md:cT)(ops:Array Oper)(listed:Array Bool):Prop :=
  ∀j oj,ops[j]?=some oj->listed.getD j false=true->∀e∈oj.after,cL md e=true->listed.getD e.on false=true
theorem Closed.waits{listed:Array Bool}(hc:Closed md ops listed):∀(f j i:Nat) (oj:Oper),ops[j]?=some oj->(∀e∈oj.after,cL md e=true->listed.getD e.on false=true) ->
  waitsT md ops f j i=true->listed.getD i false=true
 | 0,_,_,_,_,_,h=>by cases h
 | f+1,j,i,oj,hj,hl,h=>by
  unfold waitsT at h
  rw [hj] at h;obtain⟨e,he,hb⟩:=cX.1 h;simp only [aN,dF,beq_iff_eq] at hb;obtain⟨hb1,hb2⟩:=hb;have h1:=hl e he hb1
  rcases hb2 with hb2|hb2
  ·rw [<-hb2];exact h1
  ·cases ho:ops[e.on]? with
   | none =>
    cases f with
    | zero=>cases hb2
    | succ f=>unfold waitsT at hb2;rw [ho] at hb2;cases hb2
   | some oe=>exact Closed.waits hc f e.on i oe ho (hc e.on oe ho h1) hb2
theorem Closed.set{listed:Array Bool}(hc:Closed md ops listed){i:Nat}(hi:i∈aV md ops listed):Closed md ops (listed.setIfInBounds i true):=by
 obtain⟨_,oi,hoi,hall⟩:=mem_ready.1 hi
 intro j oj hj hl e he hb
 by_cases hij:i=j
 ·subst hij
  obtain rfl:oj=oi:=cR (hj.symm.trans hoi);exact getD_set_true (hall e he hb)
 ·rw [getD_set_ne false hij] at hl
  exact getD_set_true (hc j oj hj hl e he hb)
theorem Closed.none(n:Nat):Closed md ops (aX n false):=λj _ _ hl=>by
 rw [getD_replicate_false] at hl
 cases hl
def wpAnyU(P:Program)(md:cT)(ops:Array Oper)(C0:World->Prop)(Q:Exit->Act->World->Prop)(n m:Nat):Nat->World->Array Bool->Act->Prop
  | 0,w0,listed,a=>(∀j∈aV md ops listed,∀i,i<n->waitsT md ops ops.size j i=true)/\∀w,Below w0.heap.size w0 w->wpAny P md ops Q m listed a w
  | fuel+1,w0,listed,a =>
    aV md ops listed≠[] /\
    ∀i∈aV md ops listed,∀w,Below w0.heap.size w0 w->wpOp P ops Q i (λa' w'=>C0 w'/\wpAnyU P md ops C0 Q n m fuel w' (listed.setIfInBounds i true) a') a w
theorem wpAnyU_mono{n m fuel:Nat}{w0 w1:World}{listed:Array Bool}{a:Act}(hb:Below w0.heap.size w0 w1)(h:wpAnyU P md ops C0 Q n m fuel w0 listed a):wpAnyU P md ops C0 Q n m fuel w1 listed a:=by
 cases fuel with
 | zero=>exact⟨h.1,λw hw=>h.2 w (hb.trans (hw.mono hb.size))⟩
 | succ fuel=>exact⟨h.1,λi hi w hw=>h.2 i hi w (hb.trans (hw.mono hb.size))⟩
theorem wpAny_of_U{n m:Nat}:∀(fuel:Nat) (listed:Array Bool) (a:Act) (w:World),wpAnyU P md ops C0 Q n m fuel w listed a->wpAny P md ops Q (m+fuel) listed a w
 | 0,_,_,w,h=>h.2 w (Below.refl _ _)
 | fuel+1,_,_,w,h=>⟨λh0=>absurd h0 h.1,λi hi=>wpOp_mono (λa' w' h'=>wpAny_of_U fuel _ a' w' h'.2) (h.2 i hi w (Below.refl _ _))⟩
theorem getD_ready{i:Nat}{listed:Array Bool}(hi:i∈aV md ops listed):listed.getD i false=false:=getD_both (mem_ready.1 hi).1
theorem wpAnyU_first{n m i F:Nat}{oi:Oper}{V:Value->Prop}(hcl:∀w w',C0 w->Below w.heap.size w w'->C0 w')(hin:i<n)(hi:ops[i]?=some oi)(hsel:∀(j:Nat) (o:Oper) cs b,ops[j]?=some o->o.op ≠ .select cs b)
 (hQ:∀c a d v w,Q (.panic c) (a.put d v) w->Q (.panic c) a w) :
  ∀(fuel:Nat) (w0:World) (listed:Array Bool) (a:Act),C0 w0->Closed md ops listed ->
   (∀j oj,ops[j]?=some oj->j≠i->listed.getD j true=false->(∀e∈oj.after,cL md e=true->e.on≠i)->oi.apart ops oj=true) ->
   ((∃v,∀u,V u->u=v)\/∀j oj,ops[j]?=some oj->j≠i->listed.getD j true=false->plainB oj.op=true\/waitsT md ops F j i=true) ->
   i∈aV md ops listed->YieldsB P ops C0 oi V a ->
   (∀v,V v->wpAnyU P md ops C0 Q n m fuel w0 (listed.setIfInBounds i true) (a.put oi.dst v))->wpAnyU P md ops C0 Q n m (fuel+1) w0 listed a:=by
 intro fuel
 induction fuel with
 | zero =>
  intro w0 listed a hC hcs _ _ hr hy H
  refine⟨λh=>(by rw [h] at hr;cases hr),λj hj w hw=>?_⟩
  by_cases hji:j=i
  ·subst hji;exact hy.wpOp hi (hcl w0 w hC hw) λv w' hv hw'=>⟨hcl w w' (hcl w0 w hC hw) hw',wpAnyU_mono (hw.trans (hw'.mono hw.size)) (H v hv)⟩
  ·obtain⟨v,hv⟩:=hy.any hC
   have h1:=(H v hv).1 j (ready_mono hj hji) i hin;obtain⟨_,oj,hoj,hall⟩:=mem_ready.1 hj;have h6:=hcs.waits _ j i oj hoj hall h1;rw [getD_ready hr] at h6
   cases h6
 | succ fuel ih =>
  intro w0 listed a hC hcs hfree hpl hr hy H
  refine⟨λh=>(by rw [h] at hr;cases hr),λj hj w hw=>?_⟩
  by_cases hji:j=i
  ·subst hji;exact hy.wpOp hi (hcl w0 w hC hw) λv w' hv hw'=>⟨hcl w w' (hcl w0 w hC hw) hw',wpAnyU_mono (hw.trans (hw'.mono hw.size)) (H v hv)⟩
  ·obtain⟨hjun,oj,hoj,hall⟩:=mem_ready.1 hj
   have hnot:∀e∈oj.after,cL md e=true->e.on≠i:=λe he hb heq=>by
    have h1:=hall e he hb;rw [heq,getD_ready hr] at h1
    cases h1
   have hpj:plainB oj.op=true\/∃v,∀u,V u->u=v:=by
    rcases hpl with hpl|hpl
    ·exact .inr hpl
    ·rcases hpl j oj hoj hji hjun with h5|h5
     ·exact .inl h5
     ·have h6:=hcs.waits F j i oj hoj hall h5
      rw [getD_ready hr] at h6
      cases h6
   have h2:=wpOp_putB hoj (hfree j oj hoj hji hjun hnot) (λcs b=>hsel i oi cs b hi) (λcs b=>hsel j oj cs b hoj) (hy.any hC) hpj hQ hy
    (λv hv=>(H v hv).2 j (ready_mono hj hji) w hw)
   have hun':∀k,(listed.setIfInBounds j true).getD k true=false->listed.getD k true=false:=λk hun=>by
    by_cases hjk:j=k
    ·subst hjk;exact hjun
    ·rw [getD_set_ne true hjk] at hun;exact hun
   refine wpOp_mono (λa' w' h3=>?_) h2;obtain⟨hy',h4⟩:=h3;obtain⟨v0,hv0⟩:=hy.any hC;have hC':=(h4 v0 hv0).1;refine⟨hC',ih w' (listed.setIfInBounds j true) a' hC' (hcs.set hj) (λk ok hk hki hun hno=>hfree k ok hk hki (hun' k hun) hno) (hpl.imp id λhpl k ok hk hki hun=>hpl k ok hk hki (hun' k hun)) (ready_mono hr (Ne.symm hji)) hy' λv hv=>?_⟩;rw [Array.setIfInBounds_comm _ _ hji];exact(h4 v hv).2
def marks:Nat->Nat->Array Bool->Array Bool
  | 0,_,listed=>listed
  | n+1,k,listed=>marks n (k+1) (listed.setIfInBounds k true)
def setFree(md:cT)(ops:Array Oper)(listed:Array Bool)(k:Nat):Bool :=
  match ops[k]? with
  | none=>true
  | some ok=>plainB ok.op||(mF ops.size).all λj=>j==k||listed.getD j true||waitsT md ops ops.size j k||match ops[j]? with
    | some oj=>plainB oj.op
    | none=>true
theorem setFree_spec{listed:Array Bool}{k:Nat}{ok:Oper}(hk:ops[k]?=some ok)(hp:plainB ok.op=false)(h:setFree md ops listed k=true)(j:Nat)(oj:Oper)(hj:ops[j]?=some oj)(hne:j≠k)
 (hun:listed.getD j true=false):plainB oj.op=true\/waitsT md ops ops.size j k=true:=by
 unfold setFree at h
 simp only [hk,hp,Bool.false_or,cA,jK] at h;have h1:=h j (a7.1 hj).1;simp only [hj,dF,beq_iff_eq,hne,false_or,hun,l5] at h1;exact h1.symm
def headB(md:cT)(ops:Array Oper):Nat->Nat->Array Bool->Bool
  | 0,_,_=>true
  | fuel+1,k,listed=>(aV md ops listed).contains k&&Region.free md ops listed k&&setFree md ops listed k&&headB md ops fuel (k+1) (listed.setIfInBounds k true)
def forcedB(md:cT)(ops:Array Oper):Nat->Nat->Array Bool->Bool
  | 0,_,listed=>(aV md ops listed).isEmpty
  | fuel+1,k,listed=>decide (aV md ops listed=[k])&&forcedB md ops fuel (k+1) (listed.setIfInBounds k true)
def sinksB(md:cT)(ops:Array Oper)(n:Nat)(listed:Array Bool):Bool :=
  (aV md ops listed).all λj=>(mF n).all λi=>waitsT md ops ops.size j i
theorem wpAnyU_head{n m:Nat}(hcl:∀w w',C0 w->Below w.heap.size w w'->C0 w')(hs:j8 ops=true)(hQ:∀c a d v w,Q (.panic c) (a.put d v) w->Q (.panic c) a w)(fuel:Nat)(w0:World)(hC:C0 w0) :
  ∀(l:List Oper) (k:Nat) (listed:Array Bool) (a:Act),Closed md ops listed->k+l.length<=n->(∀j,j<l.length->l[j]?=ops[k+j]?)->headB md ops l.length k listed=true ->
  wpB P ops C0 (λa'=>wpAnyU P md ops C0 Q n m fuel w0 (marks l.length k listed) a') l a->wpAnyU P md ops C0 Q n m (fuel+l.length) w0 listed a
 | [],_,_,_,_,_,_,_,h=>h
 | o::l,k,listed,a,hcs,hn,hl,hB,h=>by
  have h0:ops[k]?=some o:=by simpa using (hl 0 (by simp)).symm
  simp only [bD] at hn;simp only [bD,headB,aN] at hB;obtain⟨⟨⟨hr,hf⟩,hsf⟩,hB'⟩:=hB
  have hr':k∈aV md ops listed:=by simpa using hr
  have hy:∃V,YieldsB P ops C0 o V a/\((∃v,∀u,V u->u=v)\/plainB o.op=false)/\∀v,V v->wpB P ops C0 (λa'=>wpAnyU P md ops C0 Q n m fuel w0 (marks (l.length+1) k listed) a') l (a.put o.dst v):=by
   by_cases hw:aO o (yielded ops a.tmps)=true
   ·simp only [wpB,hw,if_true,bD] at h
    rcases h with⟨v,h1,h2⟩|⟨hp,V,h1,h2⟩
    ·exact⟨(· = v),.inl ⟨hw,h1⟩,.inl ⟨v,λ_ hu=>hu⟩,λu hu=>by rw [hu];exact h2⟩
    ·exact⟨V,.inl ⟨hw,h1⟩,.inr (plain_of hp),h2⟩
   ·simp only [wpB,hw,bD] at h
    exact⟨(· = undef),.inr ⟨by simpa using hw,rfl⟩,.inl ⟨undef,λ_ hu=>hu⟩,λu hu=>by rw [hu];simpa using h⟩
  obtain⟨V,hy,hV,hK⟩:=hy;rw [bD,<-bZ]
  exact wpAnyU_first hcl (by omega) h0 (Region.noSelect_spec hs) hQ (fuel+l.length) w0 listed a hC hcs (Region.free_spec h0 hf) (hV.imp id λhp=>setFree_spec h0 hp hsf) hr' hy λv hv =>
   wpAnyU_head hcl hs hQ fuel w0 hC l (k+1) _ _ (hcs.set hr') (by omega) (λj hj=>by have:=hl (j+1) (by simpa using hj);simpa [bZ,lY 1 j] using this) hB' (hK v hv)
theorem wpAny_forced:∀(l:List Oper) (k:Nat) (listed:Array Bool) (a:Act) (w:World),(∀j,j<l.length->l[j]?=ops[k+j]?)->forcedB md ops l.length k listed=true ->
  wpList P ops Q l a w->wpAny P md ops Q l.length listed a w
 | [],_,_,_,_,_,hB,h=>⟨by simpa [forcedB] using hB,h⟩
 | o::l,k,listed,a,w,hl,hB,h=>by
  have h0:ops[k]?=some o:=by simpa using (hl 0 (by simp)).symm
  simp only [bD,forcedB,aN,decide_eq_true_eq] at hB;obtain⟨hr,hB'⟩:=hB;refine⟨λe=>(by rw [hr] at e;cases e),λi hi=>?_⟩;rw [hr,List.mem_singleton] at hi;subst hi
  have hl':∀j,j<l.length->l[j]?=ops[i+1+j]?:=λj hj=>by have:=hl (j+1) (by simpa using hj);simpa [bZ,lY 1 j] using this
  unfold wpOp
  simp only [h0]
  unfold wpList at h
  split
  ·rename_i hw
   simp only [hw,if_true] at h;exact h.imp (Oper.wp_mono λa' w' h'=>wpAny_forced l (i+1) _ a' w' hl' hB' h') id
  ·rename_i hw
   simp only [hw] at h;exact wpAny_forced l (i+1) _ _ _ hl' hB' (by simpa using h)
def tailB(ops:Array Oper)(n:Nat)(k:Nat)(m:Nat):Bool :=
  j8 ops&&headB .any ops n 0 (aX ops.size false)&&decide (ops.size=m+k+n) &&
    sinksB .any ops (k+n) (marks k n (marks n 0 (aX ops.size false)))&&forcedB .any ops m (k+n) (marks k n (marks n 0 (aX ops.size false)))
theorem wp_region_B{id:Nat}{a:Act}{w:World}{L T:List Oper}(C0:World->Prop)(hm:P.follows .mixedOrders=true)(hB:tailB (L++T).toArray L.length 0 T.length=true)
 (hcl:∀w w',C0 w->Below w.heap.size w w'->C0 w')(hC:C0 w.drew)(hQ:∀c a d v w,Q (.panic c) (a.put d v) w->Q (.panic c) a w)
 (h:wpB P (L++T).toArray C0 (λa'=>∀w',C0 w'->wpList P (L++T).toArray Q T a' w') L a):(nH id (L++T).toArray true).wp P Q a w:=by
 simp only [tailB,aN,decide_eq_true_eq,aZ,eX,marks] at hB;obtain⟨⟨⟨⟨hs,hh⟩,hz⟩,hsk⟩,hf⟩:=hB;refine wp_region_any hm ?_
 have hG:wpAnyU P .any (L++T).toArray C0 Q L.length T.length (0+L.length) w.drew (aX (L++T).toArray.size false) a:=by
  refine wpAnyU_head hcl hs hQ 0 w.drew hC L 0 _ a (Closed.none _) (by omega) (λj hj=>by simp [List.getElem?_append_left hj]) hh ?_;refine wpB_mono (λa' h'=>⟨λj hj i hi=>?_,λw' hw'=>?_⟩) L a h
  ·have h1:=cA.1 hsk j hj
   exact cA.1 h1 i (jK.2 hi)
  ·exact wpAny_forced T L.length _ a' w' (λj _=>by simp [List.getElem?_append_right]) hf (h' w' (hcl _ _ hC hw'))
 have h2:=wpAny_of_U (0+L.length) _ a w.drew hG;rw [aZ,<-hz] at h2;exact h2
theorem wpAnyU_new{n m ia base fuel ty:Nat}{zs:Array Value}{w0:World}{listed:Array Bool}{a:Act}{oa:Oper}(ho:ops[ia]?=some oa)(hg:oa.guard=none)
 (hrun:∀(a:Act) w,(execOp a.eval oa).run P w = .ok (.value (.pointer (some ⟨w.heap.size,0,none⟩))) (w.alloc (.cells zs ty)))
 (hcl:∀w w',C0 w->Below w.heap.size w w'->C0 w')(hb:∀w,C0 w->base<=w.heap.size)(hC:C0 w0)
 (h:∀w,Below w0.heap.size w0 w->C0 w->base<=w.heap.size->wpAnyU P md ops C0 Q n m fuel (w.alloc (.cells zs ty)) (listed.setIfInBounds ia true) (a.put oa.dst (.pointer (some ⟨w.heap.size,0,none⟩)))) :
  ∀w,Below w0.heap.size w0 w->wpOp P ops Q ia (λa' w'=>C0 w'/\wpAnyU P md ops C0 Q n m fuel w' (listed.setIfInBounds ia true) a') a w:=by
 intro w hw
 unfold wpOp
 simp only [ho];rw [if_pos (by simp [aO,hg])];refine .inl ?_
 unfold iU
 rw [hrun];have hC1:=hcl w0 w hC hw;exact⟨hcl w _ hC1 ((Below.refl w.heap.size w).alloc (aF _) (.cells zs ty)),h w hw hC1 (hb w hC1)⟩
theorem Blk.later{w w':World}{g t:Nat}{cs:Array Value}(h:Blk w g t cs)(hb:Below w.heap.size w w'):Blk w' g t cs:=h.below hb h.lt
end
section
variable{P:Program}{ops:Array Oper}{C0:World->Prop}{Q:Act->Prop}{a:Act}{o:Oper}{rest:List Oper}
theorem wpB_step(h:∀K:Act->Prop,(∀a,wpB P ops C0 Q rest a->K a)->if aO o (yielded ops a.tmps) then ∃v,(∀w,C0 w->uponB P w (· = v) ((execOp a.eval o).run P w))/\K (a.put o.dst v) else K (a.put o.dst undef)):wpB P ops C0 Q (o::rest) a:=by
 have h1:=h _ (λ_ h=>h)
 unfold wpB
 split
 ·rename_i hw
  rw [if_pos hw] at h1;exact .inl h1
 ·rename_i hw
  rw [if_neg hw] at h1;exact h1
theorem b_want(hg:aO o (yielded ops a.tmps)=true){v:Value}(h:∀w,C0 w->atB P o a w (· = v))(hk:wpB P ops C0 Q rest (a.put o.dst v)):wpB P ops C0 Q (o::rest) a :=
 wpB_step λK hK=>by
  rw [if_pos hg];exact⟨v,h,hK _ hk⟩
theorem b_val{v:Value}(hg:aO o (yielded ops a.tmps)=true)(h:∀w,C0 w->(execOp a.eval o).run P w = .ok (.value v) w)(hk:wpB P ops C0 Q rest (a.put o.dst v)):wpB P ops C0 Q (o::rest) a :=
 b_want hg (λw hw=>by
  unfold atB
  rw [h w hw]
  exact⟨rfl,rfl⟩) hk
theorem b_eq{t t':TypeId}{x y:Operand}{q:Bool}(xs ys:Array Value)(hg:aO o (yielded ops a.tmps)=true)(ho:o.op = .binOp .eql t x y t')(hx:a.eval x = .agg xs)(hy:a.eval y = .agg ys)
 (hd:P.eqGuardType P.depth t=false)(he:∀w,(cC 10000 t (.agg xs) (.agg ys)).run P w = .ok q w)(hk:wpB P ops C0 Q rest (a.put o.dst (.bool q))):wpB P ops C0 Q (o::rest) a :=
 b_val hg (λw _=>by
  unfold execOp
  simp only [ho,hx,hy,aG,run_eqGuard_agg (hm:=hd),aD,binOp,Op.equal,Op.maxDepth,he,aH]) hk
theorem b_call{f:FuncId}{args:Array Value}(V:Value->Prop)(hg:aO o (yielded ops a.tmps)=true)(hp:multiB o.op=true)
 (hc:∀w,C0 w->Calls P f args w (λe w'=>∃v,e = .returned v/\V v/\Below w.heap.size w w'))(he:∀w,(execOp a.eval o).run P w = .ok (.enter f args) w)(hk:∀v,V v->wpB P ops C0 Q rest (a.put o.dst v)):wpB P ops C0 Q (o::rest) a:=by
 unfold wpB
 rw [if_pos hg];refine .inr ⟨hp,V,λw hw=>?_,hk⟩
 unfold atB
 rw [he];exact⟨rfl,hc w hw⟩
theorem b_call1{f:FuncId}{args:Array Value}{v:Value}(hg:aO o (yielded ops a.tmps)=true)
 (hc:∀w,C0 w->Calls P f args w (λe w'=>e = .returned v/\Below w.heap.size w w'))(he:∀w,(execOp a.eval o).run P w = .ok (.enter f args) w)(hk:wpB P ops C0 Q rest (a.put o.dst v)):wpB P ops C0 Q (o::rest) a :=
 b_want hg (λw hw=>by
  unfold atB
  rw [he]
  exact⟨rfl,(hc w hw).mono λe w' ⟨h1,h2⟩=>⟨v,h1,rfl,h2⟩⟩) hk
theorem b_mid(hg:aO o (yielded ops a.tmps)=true)(ty:TypeId)(x:Operand)(ho:o.op = .load ty x)(b off:Nat)(hx:a.eval x = .pointer (some ⟨b,off,none⟩))(cs:List Value)(d:TypeDesc)
 (hc:∀w,C0 w->w.rangeAt b off cs)(hu:P.underlying ty=some d)(hd:d.isRow=true)(hi:(P.info? ty).map (·.size)=some cs.length)
 (hk:wpB P ops C0 Q rest (a.put o.dst (.agg cs.toArray))):wpB P ops C0 Q (o::rest) a :=
 b_want hg (λw hw=>by
  unfold atB execOp
  simp only [ho,hx,Instr.loadAt,iH,aG,aH,aD,run_loadVar_mid w b off ty cs d (hc w hw) hu hd hi]
  exact⟨rfl,rfl⟩) hk
end
theorem Blk.range{w:World}{g t:Nat}{l:List Value}(h:Blk w g t l.toArray):w.rangeAt g 0 l:=λj v hv=>by
 rw [aZ,h.cell j]
 simpa using hv
section
variable{P:Program}{Q:Exit->Act->World->Prop}{id:Nat}{a:Act}{w:World}{l:List Oper}
theorem region_B(n:Nat)(C0:World->Prop)(hn:n<=l.length)(hm:P.follows .mixedOrders=true)(hB:tailB l.toArray n 0 (l.drop n).length=true)
 (hcl:∀w w',C0 w->Below w.heap.size w w'->C0 w')(hC:C0 w.drew)(hQ:∀c a d v w,Q (.panic c) (a.put d v) w->Q (.panic c) a w)
 (h:wpB P l.toArray C0 (λa'=>∀w',C0 w'->wpList P l.toArray Q (l.drop n) a' w') (l.take n) a):(nH id l.toArray true).wp P Q a w:=by
 have e:l=l.take n++l.drop n:=(cW n l).symm
 have hL:(l.take n).length=n:=by rw [List.length_take];omega
 generalize l.take n=L at *;generalize l.drop n=T at *;subst e;exact wp_region_B C0 hm (by rw [hL];exact hB) hcl hC hQ h
end
section
variable{P:Program}{Q:Exit->Act->World->Prop}{id:Nat}{a:Act}{w:World}{l:List Oper}
def Up(w w':World):Prop:=Below w.heap.size w w'
theorem Up.refl(w:World):Up w w:=Below.refl _ _
theorem Up.drew(w:World):Up w w.drew:=(Below.refl _ _).drew
theorem Up.step{w w1 w2:World}(h:Up w w1)(k:Below w1.heap.size w1 w2):Up w w2:=Below.trans h (k.mono h.size)
theorem Up.blk{w w1:World}{g t:Nat}{cs:Array Value}(h:Up w w1)(k:Blk w g t cs):Blk w1 g t cs:=k.later h
theorem Up.alloc{w w1:World}(h:Up w w1)(o:Obj):Up w (w1.alloc o):=h.step ((Below.refl _ _).alloc (aF _) _)
theorem below_up{w W W':World}(h:Below w.heap.size w W)(k:Up W W'):Below w.heap.size w W':=Below.trans h (Below.mono k h.size)
theorem wp_at{P:Program}{c:Code}{Q:Exit->Act->World->Prop}{a:Act}{w0:World}(F:World->Prop)(h0:F w0)(h:∀W,F W->c.wp P Q a W):c.wp P Q a w0:=h w0 h0
theorem wpList_of_B{ops:Array Oper}{T:List Oper}:∀(L:List Oper) (a:Act) (w w0:World),Up w0 w->wpB P ops (Up w0) (λa'=>∀w',Up w0 w'->wpList P ops Q T a' w') L a->wpList P ops Q (L++T) a w
 | [],a,w,w0,hw,h=>h w hw
 | o::L,a,w,w0,hw,h=>by
  have key:∀V:Value->Prop,atB P o a w V->(∀v w',V v->Below w.heap.size w w'->wpList P ops Q (L++T) (a.put o.dst v) w')->o.wp P a w (wpList P ops Q (L++T)) Q:=λV h3 hk=>by
   unfold atB at h3
   unfold iU
   generalize (execOp a.eval o).run P w=r at *
   cases r with
   | ok n w' =>
    cases n<;>simp only [uponB] at h3<;>simp only [fT]
    case value u =>
     obtain⟨e1,e2⟩:=h3;rw [e1];exact hk _ _ e2 (Below.refl _ _)
    case skip =>
     obtain⟨e1,e2⟩:=h3;rw [e1];exact hk _ _ e2 (Below.refl _ _)
    case enter f args =>
     obtain⟨e1,hc⟩:=h3;rw [e1]
     exact hc.mono λe w'' ⟨v,he,hv,hw''⟩=>by subst he;exact hk _ _ hv hw''
   | halt x w'=>simp only [uponB] at h3
  show wpList P ops Q (o::(L++T)) a w
  unfold wpB at h
  unfold wpList
  split
  ·rename_i hwt
   rw [if_pos hwt] at h;refine .inl ?_
   rcases h with⟨v,h1,h2⟩|⟨_,V,h1,h2⟩
   ·exact key (· = v) (h1 w hw) λu w' hu hw'=>by rw [hu];exact wpList_of_B L _ w' w0 (hw.step hw') h2
   ·exact key V (h1 w hw) λu w' hu hw'=>wpList_of_B L _ w' w0 (hw.step hw') (h2 u hu)
  ·rename_i hwt
   rw [if_neg hwt] at h;exact wpList_of_B L _ w w0 hw h
theorem reg_q(hm:P.follows .mixedOrders=true)(hB:tailB l.toArray l.length 0 0=true)(hQ:∀c a d v w,Q (.panic c) (a.put d v) w->Q (.panic c) a w)
 (h:wpB P l.toArray (Up w) (λa'=>∀w',Up w w'->Q .normal a' w') l a):(nH id l.toArray true).wp P Q a w :=
 region_B (l:=l) l.length (Up w) (aF _) hm (by rw [List.drop_length];exact hB) (λ_ _ h k=>h.step k) (Up.drew w) hQ (by rw [List.drop_length,List.take_length];exact h)
theorem reg_qF(h:wpB P l.toArray (Up w) (λa'=>∀w',Up w w'->Q .normal a' w') l a):(nH id l.toArray false).wp P Q a w:=by
 refine wp_region_lit ?_;have h1:=wpList_of_B (Q:=Q) (T:=[]) l a w w (Up.refl w) h
 rwa [bT] at h1
theorem reg_tailF(n:Nat)(h:wpB P l.toArray (Up w) (λa'=>∀w',Up w w'->wpList P l.toArray Q (l.drop n) a' w') (l.take n) a):(nH id l.toArray false).wp P Q a w:=by
 refine wp_region_lit ?_;have h1:=wpList_of_B (Q:=Q) (T:=l.drop n) (l.take n) a w w (Up.refl w) h
 rwa [cW] at h1
theorem up_row{w w1:World}{g:Nat}(h:Up w w1)(hg:w.heap.size<=g)(cs:Array Value):Up w (w1.setRow g cs):=below_setRow h hg _
end
theorem foldl_put{α:Type}(V A O Z:List α)(m k:Nat)(hm:m+k=A.length)(hl:O.length=V.length) :
  (V.zipIdx k).foldl (λ(cs:Array α) (p:α×Nat)=>cs.setIfInBounds (m+p.2) p.1) (A++(O++Z)).toArray=(A++(V++Z)).toArray:=by
 induction V generalizing A O k with
 | nil =>
  obtain rfl:O=[]:=List.eq_nil_of_length_eq_zero hl
  rfl
 | cons c V ih =>
  obtain⟨o,O,rfl⟩:∃o O',O=o::O':=by
   cases O with
   | nil=>simp at hl
   | cons o O=>exact⟨o,O,rfl⟩
  rw [List.zipIdx_cons,List.foldl_cons]
  have e:((A++(o::O++Z)).toArray.setIfInBounds (m+k) c)=(A++[c]++(O++Z)).toArray:=by
   rw [hm]
   simp
  rw [e,ih (A++[c]) O (k+1) (by simp;omega) (by simpa using hl)]
  simp
theorem fill_put(place:Nat->Option (Nat×Nat))(i n:Nat)(A O Z V:List Value)(rest:List (Nat×Value))(hp:place i=some (A.length,n))(hV:V.length=n)(hO:O.length=n) :
  jW place (A++(O++Z)).toArray ((i,.agg V.toArray)::rest)=jW place (A++(V++Z)).toArray rest:=by
 rw [jW];simp only [hp];rw [if_neg (by simp [oG,hV,hO])]
 congr 1
 have h:=foldl_put V A O Z A.length 0 rfl (by rw [hV,hO]);rw [<-h]
 simp [oG,Array.zipIdx,List.mapIdx_eq_zipIdx_map]
theorem run_box_agg{P:Program}(ty:TypeId)(cs:Array Value)(w:World):(Instr.box ty (.agg cs)).run P w = .ok (.pointer (some ⟨w.heap.size,0,none⟩)) (w.alloc (.cells cs ty)):=by
 simp [Instr.box,newVar,newRow,oG]
theorem run_alloc0{P:Program}{ty:TypeId}{zs:Array Value}(h:(P.info? ty).bind (λi=>i.zero.map (·.cells))=some zs)(old:Value)(w:World) :
  (Instr.alloc ty true old).run P w = .ok (.pointer (some ⟨w.heap.size,0,none⟩)) (w.alloc (.cells zs ty)):=by
 cases hi:P.info? ty with
 | none=>simp [hi] at h
 | some i =>
  cases hz:i.zero with
  | none=>simp [hi,hz] at h
  | some z =>
   simp only [hi,Option.bind_some,hz,Option.map_some] at h
   injection h with h
   subst h
   simp [Instr.alloc,zeroValue,typeInfo,hi,hz,newVar,newRow]
theorem exec_alloc{P:Program}{o:Oper}{ty:TypeId}{zs:Array Value}(ho:o.op = .alloc ty)(h:(P.info? ty).bind (λi=>i.zero.map (·.cells))=some zs)(a:Act)(w:World) :
  (execOp a.eval o).run P w = .ok (.value (.pointer (some ⟨w.heap.size,0,none⟩))) (w.alloc (.cells zs ty)):=by
 obtain⟨dst,op,t,pos,af,gd⟩:=o;simp only at ho;subst ho
 unfold execOp
 simp only [aG,run_alloc0 h,aD,aH]
section
variable{P:Program}{ops:Array Oper}{rest:List Oper}{o:Oper}{a:Act}{w:World}{Q:Exit->Act->World->Prop}
theorem wpl_alloc{ty:TypeId}{zs:Array Value}(hg:o.guard=none)(ho:o.op = .alloc ty)(hz:(P.info? ty).bind (λi=>i.zero.map (·.cells))=some zs)
 (h:wpList P ops Q rest (a.put o.dst (.pointer (some ⟨w.heap.size,0,none⟩))) (w.alloc (.cells zs ty))):wpList P ops Q (o::rest) a w :=
 wpList_plain hg λ_ hK=>by
  unfold iU
  rw [exec_alloc ho hz];exact hK _ _ h
theorem wpl_box{ty:TypeId}{x:Operand}(cs:Array Value)(hg:o.guard=none)(ho:o.op = .box ty x)(hx:a.eval x = .agg cs)
 (h:wpList P ops Q rest (a.put o.dst (.pointer (some ⟨w.heap.size,0,none⟩))) (w.alloc (.cells cs ty))):wpList P ops Q (o::rest) a w :=
 wpList_plain hg λ_ hK=>by
  unfold iU execOp
  simp only [ho,hx,aG,run_box_agg,aD,aH];exact hK _ _ h
theorem wpl_nil(h:Q .normal a w):wpList P ops Q [] a w:=h
end
section
variable{md:cT}{ops:Array Oper}
def edgeTo(md:cT)(o:Oper)(i:Nat):Bool:=o.after.any λe=>cL md e&&e.on==i
theorem waitsT_edge{f j i:Nat}{o:Oper}(hj:ops[j]?=some o)(h:edgeTo md o i=true):waitsT md ops (f+1) j i=true:=by
 unfold waitsT
 rw [hj]
 unfold edgeTo at h
 obtain⟨e,he,hb⟩:=cX.1 h;simp only [aN,beq_iff_eq] at hb;exact cX.2 ⟨e,he,by simp [hb.1,hb.2]⟩
theorem waitsT_via{f j m i:Nat}{o:Oper}(hj:ops[j]?=some o)(h:edgeTo md o m=true)(hm:waitsT md ops f m i=true):waitsT md ops (f+1) j i=true:=by
 unfold waitsT
 rw [hj]
 unfold edgeTo at h
 obtain⟨e,he,hb⟩:=cX.1 h;simp only [aN,beq_iff_eq] at hb;exact cX.2 ⟨e,he,by simp [hb.1,hb.2,hm]⟩
theorem waitsT_mono:∀{f g j i:Nat},f<=g->waitsT md ops f j i=true->waitsT md ops g j i=true
 | 0,_,_,_,_,h=>by cases h
 | f+1,0,_,_,hle,_=>absurd hle (by omega)
 | f+1,g+1,j,i,hle,h=>by
  unfold waitsT at h ⊢
  cases ho:ops[j]? with
  | none=>rw [ho] at h;cases h
  | some o =>
   rw [ho] at h;obtain⟨e,he,hb⟩:=cX.1 h;refine cX.2 ⟨e,he,?_⟩;simp only [aN,dF,beq_iff_eq] at hb ⊢;exact⟨hb.1,hb.2.imp id (waitsT_mono (by omega))⟩
def linkTo(md:cT)(o:Oper)(i:Nat):Bool:=o.after.any λe=>(match e.ground with
  | .chain=>true
  | _=>false)&&(cL md e&&e.on==i)
theorem edge_of_link{o:Oper}{i:Nat}(h:linkTo md o i=true):edgeTo md o i=true:=by
 unfold linkTo at h
 obtain⟨e,he,hb⟩:=cX.1 h;simp only [aN] at hb;exact cX.2 ⟨e,he,by simp only [aN];exact hb.2⟩
def chainB(md:cT):List Oper->Nat->Option Nat->Bool
  | [],_,_=>true
  | o::l,k,prev=>if plainB o.op then chainB md l (k+1) (match prev with
      | none=>none
      | some i=>if linkTo md o i then some k else some i)
    else(match prev with
    | none=>true
    | some i=>edgeTo md o i)&&chainB md l (k+1) (some k)
def CallAt(ops:Array Oper)(i:Nat):Prop:=∃o,ops[i]?=some o/\plainB o.op=false
def WaitsAll(md:cT)(ops:Array Oper)(p:Nat):Prop:=∀i,i<p->CallAt ops i->waitsT md ops (p-i) p i=true
theorem waitsAll_edge{p k:Nat}{o:Oper}(hk:ops[k]?=some o)(he:edgeTo md o p=true)(hp:p<k)(hW:WaitsAll md ops p)(hall:∀i,i<k->CallAt ops i->i<=p):WaitsAll md ops k:=by
 intro i hi hc
 by_cases hip:i=p
 ·subst hip
  exact waitsT_mono (f:=1) (by omega) (waitsT_edge hk he)
 ·have h1:=hall i hi hc
  exact waitsT_mono (by omega) (waitsT_via hk he (hW i (by omega) hc))
theorem chain_all:∀(l:List Oper) (k:Nat) (prev:Option Nat),(∀j,j<l.length->l[j]?=ops[k+j]?)->chainB md l k prev=true ->
  (∀p,prev=some p->p<k/\WaitsAll md ops p)->(∀i,i<k->CallAt ops i->∃p,prev=some p/\i<=p) ->
  ∀j,k<=j->j<k+l.length->CallAt ops j->WaitsAll md ops j
 | [],k,_,_,_,_,_,j,h1,h2,_=>absurd h2 (by simp;omega)
 | x::l,k,prev,hl,hB,hp,hq,j,h1,h2,hj=>by
  have h0:ops[k]?=some x:=by simpa using (hl 0 (by simp)).symm
  have hl':∀j,j<l.length->l[j]?=ops[k+1+j]?:=λj hj=>by have:=hl (j+1) (by simpa using hj);simpa [bZ,lY 1 j] using this
  simp only [bD] at h2
  unfold chainB at hB
  by_cases hx:plainB x.op=true
  ·rw [if_pos hx] at hB
   have hno:¬CallAt ops k:=by
    rintro⟨o',ho',hpo⟩
    rw [h0] at ho'
    cases ho'
    rw [hx] at hpo
    cases hpo
   have hjk:j≠k:=by
    rintro rfl
    exact hno hj
   have hbel:∀i,i<k+1->CallAt ops i->i<k:=λi hi hc=>by
    by_cases hik:i=k
    ·subst hik
     exact absurd hc hno
    ·omega
   cases prev with
   | none=>exact chain_all l (k+1) none hl' hB (λp h=>by cases h) (λi hi hc=>hq i (hbel i hi hc) hc) j (by omega) (by omega) hj
   | some p =>
    simp only at hB;obtain⟨hpk,hWp⟩:=hp p rfl
    have hall:∀i,i<k->CallAt ops i->i<=p:=λi hi hc=>by
     obtain⟨p',e,h⟩:=hq i hi hc
     cases e
     exact h
    by_cases hlk:linkTo md x p=true
    ·rw [if_pos hlk] at hB
     refine chain_all l (k+1) (some k) hl' hB (λp' h=>?_) (λi hi _=>⟨k,rfl,by omega⟩) j (by omega) (by omega) hj
     cases h
     exact⟨by omega,waitsAll_edge h0 (edge_of_link hlk) hpk hWp hall⟩
    ·rw [if_neg hlk] at hB
     refine chain_all l (k+1) (some p) hl' hB (λp' h=>?_) (λi hi hc=>⟨p,rfl,hall i (hbel i hi hc) hc⟩) j (by omega) (by omega) hj
     cases h
     exact⟨by omega,hWp⟩
  ·rw [if_neg hx] at hB
   simp only [aN] at hB
   have hWk:WaitsAll md ops k:=by
    cases prev with
    | none =>
     intro i hi hc
     obtain⟨p,e,_⟩:=hq i hi hc
     cases e
    | some p =>
     obtain⟨hpk,hWp⟩:=hp p rfl;refine waitsAll_edge h0 hB.1 hpk hWp (λi hi hc=>?_);obtain⟨p',e,h⟩:=hq i hi hc
     cases e
     exact h
   by_cases hjk:j=k
   ·subst hjk
    exact hWk
   ·refine chain_all l (k+1) (some k) hl' hB.2 (λp' h=>?_) (λi hi _=>⟨k,rfl,by omega⟩) j (by omega) (by omega) hj
    cases h
    exact⟨by omega,hWk⟩
theorem chain_waits(hB:chainB md ops.toList 0 none=true)(j:Nat)(o:Oper)(hj:ops[j]?=some o)(hpl:plainB o.op=false)(i:Nat)(hij:i<j)(hi:CallAt ops i):waitsT md ops (j-i) j i=true :=
 chain_all ops.toList 0 none (λj _=>by simp) hB (λp h=>by cases h) (λi hi=>absurd hi (by omega)) j (by omega) (by simpa using (a7.1 hj).1) ⟨o,hj,hpl⟩ i hij hi
def othersB(md:cT)(ops:Array Oper)(o:Oper)(k:Nat):List Oper->Bool
  | []=>true
  | x::l=>(edgeTo md x k||o.apart ops x)&&othersB md ops o k l
def headC(md:cT)(ops:Array Oper):Nat->List Oper->Nat->Bool
  | 0,_,_=>true
  | _+1,[],_=>false
  | n+1,o::l,k=>o.after.all (λe=>!Region.binds md e||decide (e.on<k))&&othersB md ops o k l&&headC md ops n l (k+1)
def Inv(ops:Array Oper)(k:Nat)(listed:Array Bool):Prop:=∀j,j<ops.size->listed[j]?=some (decide (j<k))
theorem Inv.set{k:Nat}{listed:Array Bool}(h:Inv ops k listed):Inv ops (k+1) (listed.setIfInBounds k true):=by
 intro j hj
 rw [Array.getElem?_setIfInBounds]
 by_cases hjk:k=j
 ·subst hjk
  have h1:=h k hj;have hlt:=(a7.1 h1).1;rw [if_pos rfl,if_pos hlt]
  simp
 ·rw [if_neg hjk,h j hj]
  congr 1
  simp only [decide_eq_decide]
  omega
theorem Inv.start:Inv ops 0 (aX ops.size false):=by
 intro j hj
 simp [hj]
theorem Inv.marks{listed:Array Bool}:∀(n:Nat) {k:Nat} {listed:Array Bool},Inv ops k listed->Inv ops (k+n) (marks n k listed)
 | 0,_,_,h=>h
 | n+1,k,_,h=>by
  have:=Inv.marks (listed:=listed) n h.set
  rwa [show k+1+n=k+(n+1) by omega] at this
theorem Inv.in_{k:Nat}{listed:Array Bool}(h:Inv ops k listed){j:Nat}(hj:j<ops.size)(hk:j<k)(d:Bool):listed.getD j d=true:=by
 have h1:=h j hj;rw [bL,h1]
 simp [hk]
theorem Inv.out{k:Nat}{listed:Array Bool}(h:Inv ops k listed){j:Nat}(hj:j<ops.size)(hk:k<=j)(d:Bool):listed.getD j d=false:=by
 have h1:=h j hj;rw [bL,h1]
 simp
 omega
theorem others_spec{o:Oper}{k:Nat}:∀{l:List Oper},othersB md ops o k l=true->∀x∈l,edgeTo md x k=true\/o.apart ops x=true
 | [],_,_,hx=>absurd hx (by simp)
 | y::l,h,x,hx=>by
  simp only [othersB,aN,dF] at h
  rcases List.mem_cons.1 hx with rfl|hx
  ·exact h.1
  ·exact others_spec h.2 x hx
theorem headB_of(hch:chainB md ops.toList 0 none=true):∀(n:Nat) (l:List Oper) (k:Nat) (listed:Array Bool),Inv ops k listed->l=ops.toList.drop k->headC md ops n l k=true->headB md ops n k listed=true
 | 0,_,_,_,_,_,_=>rfl
 | n+1,[],_,_,_,_,h=>by cases h
 | n+1,o::l,k,listed,hI,hl,h=>by
  simp only [headC,aN] at h;obtain⟨⟨hr,ho⟩,hn⟩:=h
  have hk:k<ops.size:=by
   have h1:=congrArg List.length hl;simp only [bD,dC,Array.length_toList] at h1
   omega
  have h2:ops.toList.drop k=ops.toList[k]'(by simpa using hk)::ops.toList.drop (k+1):=List.drop_eq_getElem_cons (by simpa using hk);rw [<-hl] at h2
  injection h2 with h3 h4
  have hko:ops[k]?=some o:=by
   rw [b7 hk,h3]
   simp
  unfold headB
  simp only [aN];refine⟨⟨⟨?_,?_⟩,?_⟩,headB_of hch n l (k+1) _ hI.set h4 hn⟩
  ·rw [List.contains_iff_mem]
   refine mem_ready.2 ⟨by rw [bL,hI k hk];simp,o,hko,λe he hb=>?_⟩;have h5:=Array.all_eq_true'.1 hr e he;simp only [hb,Bool.not_true,Bool.false_or,decide_eq_true_eq] at h5;exact hI.in_ (by omega) h5 false
  ·unfold Region.free
   simp only [hko];rw [cA]
   intro j hj
   have hj':j<ops.size:=by simpa using hj
   simp only [dF,beq_iff_eq]
   by_cases hjk:j=k
   ·exact .inl (.inl hjk)
   ·by_cases hlt:j<k
    ·exact .inl (.inr (hI.in_ hj' hlt true))
    ·right
     have hx:ops[j]?=some ops[j]:=b7 hj';rw [hx]
     have hm:ops[j]∈l:=by
      rw [h4];rw [List.mem_iff_getElem?];exact⟨j-(k+1),by rw [qQ,show k+1+(j-(k+1))=j by omega];simp [hj']⟩
     rcases others_spec ho _ hm with h6|h6
     ·simp only [dF]
      exact .inl h6
     ·simp only [dF]
      exact .inr h6
  ·unfold setFree
   simp only [hko,dF]
   by_cases hp:plainB o.op=true
   ·exact .inl hp
   ·right
    rw [cA]
    intro j hj
    have hj':j<ops.size:=by simpa using hj
    simp only [dF,beq_iff_eq]
    by_cases hjk:j=k
    ·exact .inl (.inl (.inl hjk))
    ·by_cases hlt:j<k
     ·exact .inl (.inl (.inr (hI.in_ hj' hlt true)))
     ·have hx:ops[j]?=some ops[j]:=b7 hj'
      by_cases hpj:plainB ops[j].op=true
      ·right
       rw [hx];exact hpj
      ·left
       right
       exact waitsT_mono (by omega) (chain_waits hch j _ hx (by simpa using hpj) k (by omega) ⟨o,hko,by simpa using hp⟩)
def sinksC(md:cT)(ops:Array Oper)(N:Nat):Bool:=match ops[N]? with
  | none=>true
  | some o=>(mF N).all λi=>edgeTo md o i||waitsT md ops (min 4 ops.size) N i
def tailC(ops:Array Oper)(n k m:Nat):Bool :=
  j8 ops&&headC .any ops n ops.toList 0&&chainB .any ops.toList 0 none&&decide (ops.size=m+k+n)&&sinksC .any ops (k+n) &&
    forcedB .any ops m (k+n) (marks k n (marks n 0 (aX ops.size false)))
theorem tail_ok{n k m:Nat}(h:tailC ops n k m=true):tailB ops n k m=true:=by
 simp only [tailC,aN,decide_eq_true_eq] at h;obtain⟨⟨⟨⟨⟨h1,h2⟩,h3⟩,h4⟩,h5⟩,h6⟩:=h
 have hI1:Inv ops n (marks n 0 (aX ops.size false)):=by
  have:=Inv.marks (listed:=#[]) n (Inv.start (ops:=ops))
  rwa [aZ] at this
 have hI2:Inv ops (k+n) (marks k n (marks n 0 (aX ops.size false))):=by
  have:=Inv.marks (listed:=#[]) k hI1
  rwa [lY n k] at this
 have hr:∀j∈aV .any ops (marks k n (marks n 0 (aX ops.size false))),j=k+n:=by
  intro j hj
  cases m with
  | zero =>
   simp only [forcedB,List.isEmpty_iff] at h6;rw [h6] at hj
   cases hj
  | succ m =>
   simp only [forcedB,aN,decide_eq_true_eq] at h6;rw [h6.1] at hj
   simpa using hj
 simp only [tailB,aN,decide_eq_true_eq];refine⟨⟨⟨⟨h1,headB_of h3 n ops.toList 0 _ Inv.start rfl h2⟩,h4⟩,?_⟩,h6⟩
 unfold sinksB
 rw [cA]
 intro j hj
 have hjk:=hr j hj;subst hjk;obtain⟨_,o,ho,_⟩:=mem_ready.1 hj
 unfold sinksC at h5
 rw [ho] at h5;simp only [cA,jK] at h5 ⊢
 intro i hi
 have hz:0<ops.size:=dP (Nat.zero_le _) (a7.1 ho).1;obtain⟨f,hf⟩:∃f,ops.size=f+1:=⟨ops.size-1,by omega⟩;have h7:=h5 i hi;simp only [dF] at h7
 rcases h7 with h7|h7
 ·rw [hf]
  exact waitsT_edge ho h7
 ·exact waitsT_mono (Nat.min_le_right _ _) h7
end
def Own(f:FuncId):Prop:=∀(args:Array Value) (w:World),(callFunc f args).run Tryz.prog w = .ok (.enter f args) w
theorem run_call_fn{a:Act}{o:Oper}{f:FuncId}{xs:Array Operand}{ats:Array TypeId}(hf:Own f)(ho:o.op = .call { callee:=.value (.func f),args:=xs,argTypes:=ats })(w:World) :
  (execOp a.eval o).run Tryz.prog w = .ok (.enter f (xs.map a.eval)) w:=by
 obtain⟨dst,op,ty,pos,af,gd⟩:=o;simp only at ho;subst ho;have h:=hf (xs.map a.eval) w
 go_simp
theorem map_eval{a:Act}{xs:Array Operand}{args:Array Value}(h:xs.toList.map a.eval=args.toList):xs.map a.eval=args:=by
 apply Array.toList_inj.1
 rw [Array.toList_map,h]
section
variable{ops:Array Oper}{C0:World->Prop}{Q:Act->Prop}{a:Act}{o:Oper}{rest:List Oper}
theorem b_one{f:FuncId}{xs:Array Operand}{ats:Array TypeId}{args:Array Value}{v:Value}(hg:aO o (yielded ops a.tmps)=true)
 (hf:Own f)(hc:∀w,Calls Tryz.prog f args w (λe w'=>e = .returned v/\Below w.heap.size w w'))
 (ho:o.op = .call { callee:=.value (.func f),args:=xs,argTypes:=ats })(hx:xs.toList.map a.eval=args.toList)(hk:wpB Tryz.prog ops C0 Q rest (a.put o.dst v)):wpB Tryz.prog ops C0 Q (o::rest) a :=
 b_call1 (f:=f) (args:=args) hg (λw _=>hc w) (λw=>by rw [run_call_fn hf ho,map_eval hx]) hk
end
theorem b_assign{P:Program}{ops:Array Oper}{C0:World->Prop}{Q:Act->Prop}{a:Act}{o:Oper}{rest:List Oper}{x:Operand}(hg:aO o (yielded ops a.tmps)=true)(ho:o.op = .assign x)(hk:wpB P ops C0 Q rest (a.put o.dst (a.eval x))):wpB P ops C0 Q (o::rest) a :=
 b_val hg (λw _=>by
  unfold execOp
  simp only [ho,aH]) hk
def stillG:Op->Bool
  | .buildSlice .. | .makeSlice .. | .sliceToArrayPointer .. | .makeFunc .. | .nilCheck _=>true
  | .call c=>match c.callee with | .builtin .len=>true|_=>false
  | o=>plainB o
def multiG:Op->Bool
  | .alloc _ | .box ..=>true
  | o=>multiB o
section
variable{P:Program}
theorem run_pureV{y:Value}{w w':World}{n:Next}(h:(pure (tK y):Sem Next).run P w = .ok n w'):∃v,n = .value v:=by
 rw [aH] at h
 injection h with h1 h2
 exact⟨_,h1.symm⟩
theorem run_panic_no{w w':World}{n:Next}(h:(runtimePanic .nilDeref:Sem Next).run P w = .ok n w'):False:=by
 simp [runtimePanic,goPanic] at h
theorem bind_ok{α β:Type}{s:Sem α}{f:α->Sem β}{n:β}{w w':World}(h:(s >>= f).run P w = .ok n w'):∃a w1,(f a).run P w1 = .ok n w':=by
 rw [aG] at h
 cases hs:s.run P w with
 | ok v w1 =>
  rw [hs] at h;exact⟨v,w1,h⟩
 | halt x w1 =>
  rw [hs] at h
  cases h
theorem nil_ok{ρ:Operand->Value}{o:Oper}{x:Operand}(ho:o.op = .nilCheck x){w w':World}{n:Next}(h:(execOp ρ o).run P w = .ok n w'):∃v,n = .value v:=by
 unfold execOp at h
 rw [ho] at h
 dsimp only at h
 split at h
 ·exact(run_panic_no h).elim
 ·exact(run_panic_no h).elim
 ·exact(run_panic_no h).elim
 ·split at h
  ·exact(run_panic_no h).elim
  ·obtain⟨_,_,h⟩:=bind_ok h
   obtain⟨_,_,h⟩:=bind_ok h
   split at h
   ·obtain⟨_,_,h⟩:=bind_ok h
    exact run_pureV h
   ·exact run_pureV h
  ·exact run_pureV h
 ·exact run_pureV h
theorem still_ok{ρ:Operand->Value}{o:Oper}(hp:stillG o.op=true){w w':World}{n:Next}(h:(execOp ρ o).run P w = .ok n w'):(∃v,n = .value v)\/n = .skip:=by
 by_cases hb:plainB o.op=true
 ·exact plain_ok hb h
 obtain⟨dst,op,ty,pos,af,gd⟩:=o
 cases op<;>first
  | (exfalso;exact hb hp)
  | exact .inl (run_v h)
  | exact .inl (nil_ok rfl h)
  | skip
 next c =>
  obtain⟨callee,args,ats⟩:=c
  cases callee with
  | builtin b =>
   cases b<;>first
    | (cases hp;done)
    | skip
   unfold execOp at h
   simp only [resolve,invoke,builtin,aG,aH,aD] at h;refine .inl ?_
   revert h
   generalize Sem.run P _ w=r
   intro h
   cases r with
   | ok v w1 =>
    simp only [aD] at h
    injection h with h1 h2
    exact⟨v,h1.symm⟩
   | halt x w1=>simp [Result.andThen] at h
  | _=>cases hp
end
class RelOk (Rel:World->World->Prop):Prop where
  below:∀w w',Below w.heap.size w w'->Rel w w'
def Bel(w w':World):Prop:=Below w.heap.size w w'
instance:RelOk Bel:=⟨λ_ _ h=>h⟩
def uponG(P:Program)(Rel:World->World->Prop)(w:World)(V:Value->World->Prop):Result Next->Prop
  | .ok (.value u) w'=>Rel w w'/\V u w'
  | .ok .skip w'=>Rel w w'/\V undef w'
  | .ok (.enter f args) w'=>w'=w/\Calls P f args w (λe w''=>∃v,e = .returned v/\Rel w w''/\V v w'')
  | _=>False
def Pers(Rel:World->World->Prop)(p:World->Prop):Prop:=∀w w',p w->Rel w w'->p w'
abbrev Facts:=Nat->World->Prop
def upF(F:Facts)(k:Nat)(p:World->Prop):Facts:=λj=>if j=k then p else F j
theorem upF_same(F:Facts)(k:Nat)(p:World->Prop):upF F k p k=p:=if_pos rfl
theorem upF_ne{F:Facts}{k j:Nat}{p:World->Prop}(h:j≠k):upF F k p j=F j:=if_neg h
def stepG(P:Program)(Rel:World->World->Prop)(C0:World->Prop)(F:Facts)(o:Oper)(a:Act)(next:(World->Prop)->Act->Prop):Prop :=
  ∃V:Value->World->Prop,(∀v,Pers Rel (V v))/\((∃v,∀u w,V u w->u=v)\/multiG o.op=true) /\
    (∀w,C0 w->(∀e∈o.after,cL .any e=true->F e.on w)->uponG P Rel w V ((execOp a.eval o).run P w)) /\
    ∀v w,C0 w->(∀k,F k w)->V v w->next (V v) (a.put o.dst v)
def wpG(P:Program)(Rel:World->World->Prop)(ops:Array Oper)(C0:World->Prop)(Q:Facts->Act->Prop):List (Nat×Oper)->Facts->Act->Prop
  | [],F,a=>Q F a
  | x::l,F,a=>if aO x.2 (yielded ops a.tmps) then stepG P Rel C0 F x.2 a (λp a'=>wpG P Rel ops C0 Q l (upF F x.1 p) a') else wpG P Rel ops C0 Q l (upF F x.1 λ_=>True) (a.put x.2.dst undef)
section
variable{P:Program}{Rel:World->World->Prop}{ops:Array Oper}{C0:World->Prop}{Q:Facts->Act->Prop}
theorem wpG_mono(hQ:∀F F' a,(∀k w,F' k w->F k w)->Q F a->Q F' a):∀(l:List (Nat×Oper)) (F F':Facts) (a:Act),(∀k w,F' k w->F k w)->wpG P Rel ops C0 Q l F a->wpG P Rel ops C0 Q l F' a
 | [],F,F',a,h,hh=>hQ F F' a h hh
 | x::l,F,F',a,h,hh=>by
  have hup:∀p,∀k w,upF F' x.1 p k w->upF F x.1 p k w:=λp k w h'=>by
   by_cases e:k=x.1
   ·subst e
    rwa [upF_same] at h' ⊢
   ·rw [upF_ne e] at h' ⊢
    exact h k w h'
  unfold wpG at hh ⊢
  split
  ·rename_i hw
   rw [if_pos hw] at hh;obtain⟨V,h1,h2,h3,h4⟩:=hh;exact⟨V,h1,h2,λw hw he=>h3 w hw λe hm hb=>h _ _ (he e hm hb),λv w hw hF hV=>wpG_mono hQ l _ _ _ (hup _) (h4 v w hw (λk=>h k w (hF k)) hV)⟩
  ·rename_i hw
   rw [if_neg hw] at hh;exact wpG_mono hQ l _ _ _ (hup _) hh
structure GoodF(Rel:World->World->Prop)(C0:World->Prop)(F:Facts)(w:World):Prop where
  pers:∀k,Pers Rel (F k)
  cls:C0 w
  all:∀k,F k w
theorem GoodF.up{F:Facts}{w w':World}{k:Nat}{p:World->Prop}(h:GoodF Rel C0 F w)(hp:Pers Rel p)(hC:C0 w')(hF:∀k,F k w')(hpw:p w'):GoodF Rel C0 (upF F k p) w':=by
 refine⟨λj=>?_,hC,λj=>?_⟩
 ·by_cases e:j=k
  ·subst e
   rw [upF_same];exact hp
  ·rw [upF_ne e]
   exact h.pers j
 ·by_cases e:j=k
  ·subst e
   rw [upF_same];exact hpw
  ·rw [upF_ne e]
   exact hF j
def Unl(l:List (Nat×Oper))(F:Facts):Prop:=∀x∈l,∀w,F x.1 w
theorem Unl.up{l:List (Nat×Oper)}{F:Facts}{k:Nat}{p:World->Prop}(h:Unl l F)(hk:k∉l.map (·.1)):Unl l (upF F k p):=λx hx w=>by
 have e:x.1≠k:=λe=>hk (bP.2 ⟨x,hx,e⟩);rw [upF_ne e];exact h x hx w
theorem uponG.any{w:World}{V:Value->World->Prop}{r:Result Next}(h:uponG P Rel w V r):∃v w',Rel w w'/\V v w':=by
 cases r with
 | ok n w' =>
  cases n<;>simp only [uponG] at h
  case value u=>exact⟨u,w',h⟩
  case skip=>exact⟨_,w',h⟩
  case enter f args =>
   obtain⟨e,w1,fr,⟨v,_,h1,h2⟩,_⟩:=h.2 [];exact⟨v,w1,h1,h2⟩
 | halt x w'=>simp only [uponG] at h
theorem wpG_cons{x:Nat×Oper}{l l':List (Nat×Oper)}{F:Facts}{a:Act}{w0:World}(hG:GoodF Rel C0 F w0)(hU:Unl l F)(hx:x.1∉l.map (·.1))
 (h:∀F a w,GoodF Rel C0 F w->Unl l F->wpG P Rel ops C0 Q l F a->wpG P Rel ops C0 Q l' F a)(hh:wpG P Rel ops C0 Q (x::l) F a):wpG P Rel ops C0 Q (x::l') F a:=by
 unfold wpG at hh ⊢
 split
 ·rename_i hw
  rw [if_pos hw] at hh;obtain⟨V,h1,h2,h3,h4⟩:=hh;exact⟨V,h1,h2,h3,λv w hw hF hV=>h _ _ w (hG.up (h1 v) hw hF hV) (hU.up hx) (h4 v w hw hF hV)⟩
 ·rename_i hw
  rw [if_neg hw] at hh;exact h _ _ w0 (hG.up (λ_ _ _ _=>trivial) hG.cls hG.all trivial) (hU.up hx) hh
structure PairG(ops:Array Oper)(x y:Nat×Oper):Prop where
  ne:x.1≠y.1
  apart:x.2.apart ops y.2=true
  noY:∀e∈y.2.after,cL .any e=true->e.on≠x.1
  noX:∀e∈x.2.after,cL .any e=true->e.on≠y.1
  kind:stillG y.2.op=true\/multiG x.2.op=false
  selX:∀cs b,x.2.op ≠ .select cs b
  selY:∀cs b,y.2.op ≠ .select cs b
theorem swapG(hcl:∀w w',C0 w->Rel w w'->C0 w')(hQ:∀F F' a,(∀k w,F' k w->F k w)->Q F a->Q F' a){x y:Nat×Oper}{l:List (Nat×Oper)}{F:Facts}{a:Act}{w0:World}(hp:PairG ops x y)(hG:GoodF Rel C0 F w0)(hj:∀w,F y.1 w)
 (h:wpG P Rel ops C0 Q (x::y::l) F a):wpG P Rel ops C0 Q (y::x::l) F a:=by
 obtain⟨i,oi⟩:=x;obtain⟨j,oj⟩:=y;obtain⟨hne,hap,hed,hed2,hkd,hsi,hsj⟩:=hp;obtain⟨h1,h2,h3⟩:=Oper.apart_spec hap
 dsimp only at *
 have hwj:∀v,aO oj (yielded ops (a.put oi.dst v).tmps)=aO oj (yielded ops a.tmps):=λv=>wanted_put oj a oi.dst v h1;have hwi:∀v,aO oi (yielded ops (a.put oj.dst v).tmps)=aO oi (yielded ops a.tmps):=λv=>wanted_put oi a oj.dst v h3;have hcomm:∀v u,(a.put oi.dst v).put oj.dst u=(a.put oj.dst u).put oi.dst v:=λv u=>iQ a v u h2
 have hupc:∀(p q:World->Prop),upF (upF F i p) j q=upF (upF F j q) i p:=λp q=>by
  funext k
  by_cases e:k=i
  ·subst e
   rw [upF_same,upF_ne hne,upF_same]
  ·by_cases e2:k=j
   ·subst e2
    rw [upF_same,upF_ne e,upF_same]
   ·rw [upF_ne e2,upF_ne e,upF_ne e,upF_ne e2]
 by_cases wi:aO oi (yielded ops a.tmps)=true
 ·unfold wpG at h
  rw [if_pos wi] at h;obtain⟨Vx,pX,kX,yX,nX⟩:=h
  by_cases wj:aO oj (yielded ops a.tmps)=true
  ·obtain⟨v0,w1,hb1,hV1⟩:=(yX w0 hG.cls (λe _ _=>hG.all e.on)).any
   have hC1:=hcl _ _ hG.cls hb1;have hF1:∀k,F k w1:=λk=>hG.pers k _ _ (hG.all k) hb1
   have key:∀v,(∃w,C0 w/\(∀k,F k w)/\Vx v w)->stepG P Rel C0 (upF F i (Vx v)) oj (a.put oi.dst v) (λp a'=>wpG P Rel ops C0 Q l (upF (upF F i (Vx v)) j p) a'):=by
    rintro v ⟨w,hw,hF,hV⟩
    have h5:=nX v w hw hF hV
    unfold wpG at h5
    rwa [hwj,if_pos wj] at h5
   have key':∀v,∃V:Value->World->Prop,(∃w,C0 w/\(∀k,F k w)/\Vx v w)->(∀v,Pers Rel (V v))/\((∃v,∀u w,V u w->u=v)\/multiG oj.op=true) /\
     (∀w,C0 w->(∀e∈oj.after,cL .any e=true->upF F i (Vx v) e.on w)->uponG P Rel w V ((execOp (a.put oi.dst v).eval oj).run P w)) /\
     ∀u w,C0 w->(∀k,upF F i (Vx v) k w)->V u w->wpG P Rel ops C0 Q l (upF (upF F i (Vx v)) j (V u)) ((a.put oi.dst v).put oj.dst u):=λv=>by
    by_cases hv:∃w,C0 w/\(∀k,F k w)/\Vx v w
    ·obtain⟨V,hV⟩:=key v hv
     exact⟨V,λ_=>hV⟩
    ·exact⟨λ_ _=>True,λh=>absurd h hv⟩
   clear key;obtain⟨Vy,hy⟩:=Classical.axiomOfChoice key';clear key';have hv0:∃w,C0 w/\(∀k,F k w)/\Vx v0 w:=⟨w1,hC1,hF1,hV1⟩
   unfold wpG
   rw [if_pos wj];refine⟨λu w=>∀v,(∃w,C0 w/\(∀k,F k w)/\Vx v w)->Vy v u w,λu w w' h hb v hv=>(hy v hv).1 u w w' (h v hv) hb,?_,?_,?_⟩
   ·rcases(hy v0 hv0).2.1 with⟨u0,hu⟩|hm
    ·exact .inl ⟨u0,λu w h=>hu u w (h v0 hv0)⟩
    ·exact .inr hm
   ·intro w hw hpre
    have hr:∀v,(∃w,C0 w/\(∀k,F k w)/\Vx v w)->uponG P Rel w (Vy v) ((execOp a.eval oj).run P w):=λv hv=>by
     have h5:=(hy v hv).2.2.1 w hw (λe he hb=>by rw [upF_ne (hed e he hb)];exact hpre e he hb)
     rwa [execOp_put oj hsj a oi.dst v h1] at h5
    have hst:=λn w'=>still_ok (P:=P) (ρ:=a.eval) (o:=oj) (w:=w) (w':=w') (n:=n);generalize (execOp a.eval oj).run P w=r at *
    cases r with
    | ok n w' =>
     cases n
     case value u=>exact⟨(hr v0 hv0).1,λv hv=>(hr v hv).2⟩
     case skip=>exact⟨(hr v0 hv0).1,λv hv=>(hr v hv).2⟩
     case enter f args =>
      rcases hkd with hkd|hkd
      ·rcases hst _ _ hkd rfl with⟨v,hv⟩|hv<;>cases hv
      ·rcases kX with⟨vv,hvv⟩|hm
       ·obtain⟨e1,hc⟩:=hr v0 hv0
        refine⟨e1,hc.mono λe w'' ⟨u,he,hb,hV⟩=>⟨u,he,hb,λv hv=>?_⟩⟩;obtain⟨w3,_,_,hv3⟩:=hv;have e2:v=v0:=(hvv _ _ hv3).trans (hvv _ _ hV1).symm;rw [e2];exact hV
       ·rw [hkd] at hm
        cases hm
     all_goals exact absurd (hr v0 hv0) (by simp [uponG])
    | halt x w'=>exact absurd (hr v0 hv0) (by simp [uponG])
   ·intro u w hw hF hVu
    unfold wpG
    rw [hwi,if_pos wi];refine⟨Vx,pX,kX,?_,?_⟩
    ·intro w2 hw2 hpre
     rw [execOp_put oi hsi a oj.dst u h3];exact yX w2 hw2 (λe he hb=>by have h5:=hpre e he hb;rwa [upF_ne (hed2 e he hb)] at h5)
    ·intro v w2 hw2 hF2 hV2
     have hFw2:∀k,F k w2:=λk=>by
      by_cases e:k=j
      ·subst e
       exact hj w2
      ·have h5:=hF2 k
       rwa [upF_ne e] at h5
     have hv:∃w,C0 w/\(∀k,F k w)/\Vx v w:=⟨w2,hw2,hFw2,hV2⟩
     have hVy:Vy v u w2:=by
      have h5:=hF2 j;rw [upF_same] at h5;exact h5 v hv
     have h6:=(hy v hv).2.2.2 u w2 hw2 (λk=>by
      by_cases e:k=i
      ·subst e
       rw [upF_same];exact hV2
      ·rw [upF_ne e]
       exact hFw2 k) hVy
     rw [hcomm,hupc] at h6;refine wpG_mono hQ l _ _ _ (λk w h7=>?_) h6
     by_cases e:k=i
     ·subst e
      rwa [upF_same] at h7 ⊢
     ·rw [upF_ne e] at h7 ⊢
      by_cases e2:k=j
      ·subst e2
       rw [upF_same] at h7 ⊢;exact h7 v hv
      ·rwa [upF_ne e2] at h7 ⊢
  ·unfold wpG
   rw [if_neg wj]
   unfold wpG
   rw [hwi,if_pos wi];refine⟨Vx,pX,kX,?_,?_⟩
   ·intro w2 hw2 hpre
    rw [execOp_put oi hsi a oj.dst undef h3];exact yX w2 hw2 (λe he hb=>by have h5:=hpre e he hb;rwa [upF_ne (hed2 e he hb)] at h5)
   ·intro v w2 hw2 hF2 hV2
    have h5:=nX v w2 hw2 (λk=>by
     by_cases e:k=j
     ·subst e
      exact hj w2
     ·have h5:=hF2 k
      rwa [upF_ne e] at h5) hV2
    unfold wpG at h5
    rw [hwj,if_neg wj,hcomm,hupc] at h5;exact h5
 ·unfold wpG at h
  rw [if_neg wi] at h
  unfold wpG at h
  by_cases wj:aO oj (yielded ops a.tmps)=true
  ·rw [hwj,if_pos wj] at h
   obtain⟨Vy,pY,kY,yY,nY⟩:=h
   unfold wpG
   rw [if_pos wj];refine⟨Vy,pY,kY,?_,?_⟩
   ·intro w hw hpre
    have h5:=yY w hw (λe he hb=>by rw [upF_ne (hed e he hb)];exact hpre e he hb)
    rwa [execOp_put oj hsj a oi.dst undef h1] at h5
   ·intro u w hw hF hV
    have h5:=nY u w hw (λk=>by
     by_cases e:k=i
     ·subst e
      rw [upF_same]
      trivial
     ·rw [upF_ne e]
      exact hF k) hV
    unfold wpG
    rw [hwi,if_neg wi];rw [hcomm,hupc] at h5;exact h5
  ·rw [hwj,if_neg wj] at h
   unfold wpG
   rw [if_neg wj]
   unfold wpG
   rw [hwi,if_neg wi];rw [hcomm,hupc] at h;exact h
theorem frontG(hcl:∀w w',C0 w->Rel w w'->C0 w')(hQ:∀F F' a,(∀k w,F' k w->F k w)->Q F a->Q F' a)(y:Nat×Oper)(l2:List (Nat×Oper)):∀(l1:List (Nat×Oper)) (F:Facts) (a:Act) (w0:World),(∀x∈l1,PairG ops x y)->((l1++y::l2).map (·.1)).Nodup ->
  GoodF Rel C0 F w0->Unl (l1++y::l2) F->wpG P Rel ops C0 Q (l1++y::l2) F a->wpG P Rel ops C0 Q (y::(l1++l2)) F a
 | [],F,a,w0,_,_,_,_,h=>h
 | x::l1,F,a,w0,hp,hnd,hG,hU,h=>by
  have hnd2:x.1∉(l1++y::l2).map (·.1)/\((l1++y::l2).map (·.1)).Nodup:=by
   simpa [List.nodup_cons] using hnd
  have h':wpG P Rel ops C0 Q (x::(y::(l1++l2))) F a :=
   wpG_cons (l:=l1++y::l2) hG (λz hz=>hU z (aJ _ hz)) hnd2.1
    (λF a w hG hU h=>frontG hcl hQ y l2 l1 F a w (λz hz=>hp z (aJ _ hz)) hnd2.2 hG hU h) h
  exact swapG hcl hQ (hp x (by simp)) hG (hU y (by simp)) h'
end
section
variable{ops:Array Oper}{C0:World->Prop}{Q:Act->Prop}{a:Act}{o:Oper}{rest:List Oper}
theorem b_oneC{f:FuncId}{xs:Array Operand}{ats:Array TypeId}{args:Array Value}{v:Value}(hg:aO o (yielded ops a.tmps)=true)
 (hf:Own f)(hc:∀w,C0 w->Calls Tryz.prog f args w (λe w'=>e = .returned v/\Below w.heap.size w w'))
 (ho:o.op = .call { callee:=.value (.func f),args:=xs,argTypes:=ats })(hx:xs.toList.map a.eval=args.toList)(hk:wpB Tryz.prog ops C0 Q rest (a.put o.dst v)):wpB Tryz.prog ops C0 Q (o::rest) a :=
 b_call1 (f:=f) (args:=args) hg hc (λw=>by rw [run_call_fn hf ho,map_eval hx]) hk
end
section
variable{ops:Array Oper}{C0:World->Prop}{Q:Act->Prop}{a:Act}{o:Oper}{rest:List Oper}
theorem b_callV{f:FuncId}{xs:Array Operand}{ats:Array TypeId}{args:Array Value}(V:Value->Prop)(hg:aO o (yielded ops a.tmps)=true)
 (hf:Own f)(hc:∀w,C0 w->Calls Tryz.prog f args w (λe w'=>∃v,e = .returned v/\V v/\Below w.heap.size w w'))
 (ho:o.op = .call { callee:=.value (.func f),args:=xs,argTypes:=ats })(hx:xs.toList.map a.eval=args.toList)(hk:∀v,V v->wpB Tryz.prog ops C0 Q rest (a.put o.dst v)):wpB Tryz.prog ops C0 Q (o::rest) a :=
 b_call (f:=f) (args:=args) V hg (by rw [ho];rfl) hc (λw=>by rw [run_call_fn hf ho,map_eval hx]) hk
end
def look:List (Nat×Value)->Nat->Option Value
  | [],_=>none
  | (k,v)::r,j=>match bN k j with
    | true=>some v
    | false=>look r j
theorem look_cons(k j:Nat)(v:Value)(r:List (Nat×Value)):look ((k,v)::r) j=if k=j then some v else look r j:=by
 show(match bN k j with|true=>some v|false=>look r j)=_
 by_cases h:k=j
 ·subst h
  rw [if_pos rfl,Nat.beq_refl]
 ·rw [if_neg h]
  cases e:bN k j with
  | true=>exact absurd (Nat.eq_of_beq_eq_true e) h
  | false=>rfl
def ev(E:List (Nat×Value)):Operand->Option Value
  | .tmp t=>look E t
  | .const v=>some v
  | .global g=>some (.pointer (some ⟨g,0,none⟩))
  | .func f=>some (.func (.func f) #[] #[])
def Sub:List (Nat×Value)->List (Nat×Value)->Prop
  | [],_=>True
  | p::r,E=>look E p.1=some p.2/\Sub r E
structure Fr(N:Nat)(E:List (Nat×Value))(a:Act):Prop where
  size:a.tmps.size=N
  defers:a.defers=[]
  get:∀k v,look E k=some v->a.eval (.tmp k)=v
section
variable{N:Nat}{E E':List (Nat×Value)}{a:Act}
theorem Fr.eval(h:Fr N E a){x:Operand}{v:Value}(hx:ev E x=some v):a.eval x=v:=by
 cases x with
 | tmp t=>exact h.get t v hx
 | const u=>exact cR hx
 | global g=>exact cR hx
 | func f=>exact cR hx
theorem Fr.put(h:Fr N E a){k:Nat}(hk:aQ k N=true)(v:Value):Fr N ((k,v)::E) (a.put (some k) v):=by
 have hk:k<N:=by simpa using hk
 refine⟨by simp [pC,h.size],h.defers,λj u hj=>?_⟩;rw [look_cons] at hj
 have hs:k<a.tmps.size:=by rw [h.size];exact hk
 by_cases e:k=j
 ·subst e
  rw [if_pos rfl] at hj
  cases hj
  simp [pC,sE,hs]
 ·rw [if_neg e] at hj
  have h1:=h.get j u hj;simp only [pC,sE,bL] at h1 ⊢;rw [Array.getElem?_setIfInBounds_ne (by omega)];exact h1
theorem Fr.sub(h:Fr N E a)(hs:Sub E' E):Fr N E' a:=by
 refine⟨h.size,h.defers,?_⟩
 induction E' with
 | nil=>intro k v hk;cases hk
 | cons p r ih =>
  intro k v hk
  obtain⟨j,u⟩:=p;rw [look_cons] at hk
  by_cases e:j=k
  ·subst e
   rw [if_pos rfl] at hk
   cases hk
   exact h.get _ _ hs.1
  ·rw [if_neg e] at hk
   exact ih hs.2 k v hk
theorem Fr.start{args:Array Value}{n:Nat}(h:args.size+n=N)(E:List (Nat×Value))(hE:∀k v,look E k=some v->args[k]?=some v) :
  Fr N E { tmps:=args++aX n undef,defers:=[] }:=by
 refine⟨by simp [h],rfl,λk v hk=>?_⟩;have h1:=hE k v hk;have h2:=(a7.1 h1).1;simp only [sE,bL];rw [Array.getElem?_append_left h2,h1]
 rfl
end
def cF(P:Program)(c:Code)(Q:Exit->Act->World->Prop)(N:Nat)(E:List (Nat×Value))(w:World):Prop:=∀a,Fr N E a->c.wp P Q a w
def bF(P:Program)(ops:Array Oper)(C0:World->Prop)(Q:Act->Prop)(l:List Oper)(N:Nat)(E:List (Nat×Value)):Prop:=∀a,Fr N E a->wpB P ops C0 Q l a
def lF(P:Program)(ops:Array Oper)(Q:Exit->Act->World->Prop)(l:List Oper)(N:Nat)(E:List (Nat×Value))(w:World):Prop:=∀a,Fr N E a->wpList P ops Q l a w
def kF(K:Act->World->Prop)(N:Nat)(E:List (Nat×Value))(w:World):Prop:=∀a,Fr N E a->K a w
section
variable{P:Program}{Q:Exit->Act->World->Prop}{N:Nat}{E E':List (Nat×Value)}{w:World}
theorem c_seq{x y:Code}(h:∀K:Act->World->Prop,(∀E' w',cF P y Q N E' w'->kF K N E' w')->cF P x (Exit.then K Q) N E w):cF P (.seq x y) Q N E w:=λa ha =>
 wp_seq_k λK hK=>h K (λ_ _ h' a' ha'=>hK _ _ (h' a' ha')) a ha
theorem c_ret(h:kF (Q .ret) N E w):cF P .ret Q N E w:=λa ha=>wp_ret (h a ha)
theorem least{σ:Type}(m:σ->Nat)(p:σ->Prop):(∃s,p s)->∃s,p s/\∀s',p s'->m s<=m s':=by
 rintro⟨s,hs⟩
 have key:∀n s,m s<=n->p s->∃s,p s/\∀s',p s'->m s<=m s':=by
  intro n
  induction n with
  | zero=>exact λs hn hs=>⟨s,hs,λs' _=>by omega⟩
  | succ n ih =>
   intro s hn hs
   by_cases h:∃s',p s'/\m s'<m s
   ·obtain⟨s',h1,h2⟩:=h
    exact ih s' (by omega) h1
   ·exact⟨s,hs,λs' h1=>by
     by_cases h2:m s'<m s
     ·exact absurd ⟨s',h1,h2⟩ h
     ·omega⟩
 exact key (m s) s (aF _) hs
open Classical in
theorem c_loop{σ:Type}{c:Code}(m:σ->Nat)(F:σ->List (Nat×Value))(R:σ->World->Prop)
 (round:∀s w,R s w->cF P c (Exit.then (λa' w'=>∃s',R s' w'/\Fr N (F s') a'/\m s'<m s) Q) N (F s) w)(s0:σ)(h0:R s0 w):cF P (.loop c) Q N (F s0) w:=λa ha=>by
 let T:Act->World->σ->Prop:=λa w s=>R s w/\Fr N (F s) a
 let μ:Act->World->Nat:=λa w=>if h:∃s,T a w s then m (oC (least m (T a w) h)) else 0
 have hμ:∀a w (h:∃s,T a w s),∃s,T a w s/\(∀s',T a w s'->m s<=m s')/\μ a w=m s:=λa w h=>by
  refine⟨oC (least m (T a w) h),(rL (least m (T a w) h)).1,(rL (least m (T a w) h)).2,?_⟩
  show(if h:∃s,T a w s then m (oC (least m (T a w) h)) else 0)=_
  rw [dif_pos h]
 refine wp_loop (λa w=>∃s,T a w s) μ ⟨s0,h0,ha⟩ λa w hI=>?_;obtain⟨s,hs,_,e⟩:=hμ a w hI;refine wp_mono (round s w hs.1 a hs.2) λx a' w' hx=>?_
 cases x with
 | normal =>
  obtain⟨s',h1,h2,h3⟩:=hx;have hI':∃s,T a' w' s:=⟨s',h1,h2⟩;obtain⟨s2,hs2,hm2,e2⟩:=hμ a' w' hI';refine⟨hI',?_⟩;rw [e,e2];exact dP (hm2 s' ⟨h1,h2⟩) h3
 | exit _=>exact hx
 | goto _=>exact hx
 | ret=>exact hx
 | panic _=>exact hx
 | outgrown=>exact hx
end
section
variable{P:Program}{Q:Exit->Act->World->Prop}{N:Nat}{E:List (Nat×Value)}{w:World}{id:Nat}{l:List Oper}
theorem c_qF(h:bF P l.toArray (Up w) (λa'=>∀w',Up w w'->Q .normal a' w') l N E):cF P (.region id l.toArray false) Q N E w:=λa ha=>reg_qF (h a ha)
theorem c_tF(n:Nat)(h:bF P l.toArray (Up w) (λa'=>∀w',Up w w'->wpList P l.toArray Q (l.drop n) a' w') (l.take n) N E):cF P (.region id l.toArray false) Q N E w:=λa ha=>reg_tailF n (h a ha)
theorem c_lit(h:lF P l.toArray Q l N E w):cF P (.region id l.toArray false) Q N E w:=λa ha=>wp_region_lit (h a ha)
end
section
variable{P:Program}{ops:Array Oper}{C0:World->Prop}{Q:Act->Prop}{N:Nat}{E:List (Nat×Value)}{o:Oper}{rest:List Oper}{k:Nat}
theorem f_val(v:Value)(hg:o.guard=none)(hd:o.dst=some k)(hk:aQ k N=true)(h:∀a,Fr N E a->∀w,C0 w->(execOp a.eval o).run P w = .ok (.value v) w)(hn:bF P ops C0 Q rest N ((k,v)::E)) :
  bF P ops C0 Q (o::rest) N E:=λa ha=>b_val (by simp [aO,hg]) (h a ha) (by rw [hd];exact hn _ (ha.put hk v))
theorem f_move{x:Operand}(v:Value)(hg:o.guard=none)(hd:o.dst=some k)(hk:aQ k N=true)(ho:o.op = .move x)(hx:ev E x=some v)(hn:bF P ops C0 Q rest N ((k,v)::E)):bF P ops C0 Q (o::rest) N E :=
 f_val v hg hd hk (λa ha w _=>by
  have h1:=ha.eval hx
  unfold execOp
  simp only [ho,h1,aH]) hn
theorem f_assign{x:Operand}(v:Value)(hg:o.guard=none)(hd:o.dst=some k)(hk:aQ k N=true)(ho:o.op = .assign x)(hx:ev E x=some v)(hn:bF P ops C0 Q rest N ((k,v)::E)):bF P ops C0 Q (o::rest) N E :=
 f_val v hg hd hk (λa ha w _=>by
  have h1:=ha.eval hx
  unfold execOp
  simp only [ho,h1,aH]) hn
end
theorem f_end{P:Program}{ops:Array Oper}{Q:Exit->Act->World->Prop}{N:Nat}{E:List (Nat×Value)}{w:World}(h:∀w',Up w w'->kF (Q .normal) N E w') :
  bF P ops (Up w) (λa'=>∀w',Up w w'->Q .normal a' w') [] N E:=λa ha=>wpB_nil λw' hw'=>h w' hw' a ha
section
variable{ops:Array Oper}{C0:World->Prop}{Q:Act->Prop}{N:Nat}{E:List (Nat×Value)}{o:Oper}{rest:List Oper}{k:Nat}
theorem f_call{f:FuncId}{xs:Array Operand}{ats:Array TypeId}(args:Array Value)(v:Value)(hg:o.guard=none)(hd:o.dst=some k)(hk:aQ k N=true)
 (hf:Own f)(hc:∀w,C0 w->Calls Tryz.prog f args w (λe w'=>e = .returned v/\Below w.heap.size w w'))
 (ho:o.op = .call { callee:=.value (.func f),args:=xs,argTypes:=ats })(hx:xs.toList.map (ev E)=args.toList.map some)(hn:bF Tryz.prog ops C0 Q rest N ((k,v)::E)):bF Tryz.prog ops C0 Q (o::rest) N E:=λa ha=>by
 refine b_oneC (v:=v) (args:=args) (by simp [aO,hg]) hf hc ho ?_ (by rw [hd];exact hn _ (ha.put hk v))
 have key:∀(l:List Operand) (m:List Value),l.map (ev E)=m.map some->l.map a.eval=m:=by
  intro l
  induction l with
  | nil=>intro m h;cases m with
   | nil=>rfl
   | cons=>cases h
  | cons y l ih=>intro m h;cases m with
   | nil=>cases h
   | cons u m =>
    simp only [List.map_cons,List.cons.injEq] at h ⊢;exact⟨ha.eval h.1,ih m h.2⟩
 exact key _ _ hx
end
end Go.Proofs.YtlhlkofpjhpaoaaGreatDoor
