import Derived.Test.YtdinohbahfdphaaGreatDoorRows
import Derived.WalkKit
import Derived.WalkSpells
import Derived.WalkLawsBesides
import Derived.Lib.Hide
import Derived.Laws.CopyOwn
import Derived.Deep.QuietTactic
import Derived.StillTail
import Derived.Deep.MidRow
import Derived.Laws.Bits64b
import Derived.Laws.BitsAllLaws
import Derived.Laws.Externs
import Derived.Maps.AppendAt
import Derived.Deep.OwnRows
import Derived.Great.BuildSlice
import Derived.Lib.SlBytesConst
import Derived.Laws.Tables
abbrev zy:=List (List UInt8)
abbrev zx:=Go.Exit->Go.Act->Go.World->Prop
abbrev zw:=Go.Act->Go.World->Prop
abbrev zv:=Go.World->Prop
abbrev zu:=List UInt8
abbrev zt:=Option Go.Addr
abbrev zr:=Array Go.Value
abbrev zq:=List Go.Value
abbrev zp:=Array Go.Oper
abbrev zo:=List Go.Oper
abbrev zn:=Array Bool
abbrev zm:=Nat->Prop
abbrev zk:=Nat->Nat
abbrev zj:=List Nat
abbrev zh:=Option Nat
abbrev zg:=Array Go.Operand
abbrev zf:=Array Go.TypeId
open Go renaming FuncId->yi
open Go renaming IntKind->yj
open Go renaming Oper->yk
open Go renaming Value->yl
open Go renaming Program->ym
open Go renaming TypeId->yn
open Go renaming Operand->yo
open Go renaming World->yp
set_option linter.defProp false
open Go.Proofs.Tryz
set_option maxRecDepth 20000
open Array renaming replicate->bB,getElem?_eq_some_iff->bD,length_toList->bG,getD_eq_getD_getElem?->bT,getElem?_eq_getElem->b8,toList_append->dE,any_eq_true'->dF,toArray_toList->eH,toList_map->jD,getElem?_setIfInBounds_ne->j5,getElem?_modify->pB,size_setIfInBounds->sY
open Bool renaming and_eq_true->aN,or_eq_true->dN,false_eq_true->jJ,not_true->tI
open Classical renaming choose->pK,choose_spec->sR
open Go.Act renaming put_comm->j6,put->nA,eval->oU
open Go.Addr renaming add_mid->cQ
open Go.Builtin renaming len_->nM
open Go.Code renaming region->oR
open Go.Extern.MathBitsCarry renaming m64->n8
open Go.Instr renaming sureAddr->fX,fill->jG,loadAt->jW,storeAt->mM
open Go.IntKind renaming wrap_u64->bH
open Go.Next renaming value->mB
open Go.Op renaming equalIn->cC
open Go.Oper renaming upon->fB,wp->fT
open Go.Region renaming wanted->aQ,ready->a9,binds->c7,Mode->dP,noSelect_spec->eN,noSelect->iA
open Go.Result renaming andThen_ok->aC
open Go.Sem renaming run_bind->aG,run_pure->aI
open Go.Value renaming cells->oA
open Go.World renaming size_alloc->dM
open Iff renaming rfl->iE
open List renaming length_append->aA,replicate->aB,mem_singleton->aD,mem_cons->aH,getElem?_eq_getElem->aJ,mem_cons_of_mem->aK,mem_cons_self->aM,getElem?_eq_some_iff->aP,mem_of_getElem?->aR,append_assoc->aT,length_take->aV,mem_map->aZ,length_cons->a6,map_cons->bA,append_nil->bC,eq_nil_of_length_eq_zero->bE,mem_append->bK,getElem?_append_right->bN,getElem?_cons_zero->bR,take_append_drop->b6,all_eq_true->b7,pairwise_cons->cH,nil_append->cR,length_drop->cU,getElem?_append_left->cW,ext_getElem->c8,map_set->dR,getElem?_take->dT,range->dV,set_cons_zero->fC,set_cons_succ->fD,nodup_cons->fV,map_toArray->fW,mem_range->iJ,map_nil->iK,drop_eq_nil_of_le->iU,mem_append_left->jA,mem_range'_1->jK,getElem?_cons_succ->kH,mem_append_right->lI,pairwise_append->lX,getElem?_drop->lY,getElem_of_mem->mK,pairwise_iff_getElem->nK,take_zero->qF,cons_append->qH,forIn_cons->uQ
open List.Pairwise renaming nil->pJ,cons->qV
open List.cons renaming injEq->fO
open Nat renaming le_of_ble_eq_true->aE,le_refl->aF,zero_le->aL,eq_of_beq_eq_true->aO,blt->aU,zero_add->aY,beq->bW,add_assoc->bZ,lt_of_lt_of_le->b9,add_zero->cD,lt_of_le_of_lt->dC,add_right_comm->dX,add_sub_cancel_left->fM,lt_irrefl->gG,and_two_pow_sub_one_eq_mod->iB,add_comm->iD,pow_mul->nP,ble->tH
open Option renaming map_some->bS
open Option.some renaming injEq->a8,inj->bQ
open Prod.mk renaming injEq->cK
open Std.Legacy.Range renaming size->fP
open UInt8 renaming ofNat->bP
namespace Go.Proofs.Q
def be8(v:Nat):zu:=[bP (v/72057594037927936),bP (v/281474976710656),bP (v/1099511627776),bP (v/4294967296),bP (v/16777216),bP (v/65536),bP (v/256),bP v]
def step(a:Nat)(x:UInt8):Nat:=(a*256+x.toNat)%18446744073709551616
def val(l:zu):Nat:=l.foldl step 0
def be8_len(v:Nat):(be8 v).length=8:=rfl
def val_snoc(l:zu)(x:UInt8):val (l++[x])=step (val l) x:=by simp [val]
def step_lt(a:Nat)(x:UInt8):step a x<18446744073709551616:=Nat.mod_lt _ (by omega)
def val_lt(l:zu):val l<18446744073709551616:=by
 rcases List.eq_nil_or_concat l with rfl|⟨l',x,rfl⟩
 .simp [val]
 .rw [List.concat_eq_append,val_snoc];exact step_lt _ _
def val_be8(v:Nat)(h:v<18446744073709551616):val (be8 v)=v:=by simp [val,be8,step];omega
def tk(l:zu)(f k:Nat):zu×zu×Nat :=
  if f=0 then(if l.length<k then([],l,10) else(l.take k,l.drop k,0)) else([],l,f)
def tk_fail{l:zu}{f k:Nat}(h:f≠0):tk l f k=([],l,f):=by simp [tk,h]
def tk_short{l:zu}{k:Nat}(h:l.length<k):tk l 0 k=([],l,10):=by simp [tk,h]
def tk_ok{l:zu}{k:Nat}(h:k<=l.length):tk l 0 k=(l.take k,l.drop k,0):=by simp only [tk,if_pos];rw [if_neg (by omega)]
def num(l:zu)(f:Nat):Nat×zu×Nat:=(val (tk l f 8).1,(tk l f 8).2)
def most(l:zu)(f lim:Nat):Nat×zu×Nat:=if lim<(num l f).1 then(0,(num l f).2.1,12) else num l f
def don(l:zu)(f:Nat):Nat:=if f=0 then(if l.length=0 then 0 else 11) else f
end Go.Proofs.Q
namespace Go.Proofs.Q
open Go.RowKit
def By(l:zu):zq:=l.map λx=>.int .u8 (x.toNat:Int)
def By_len(l:zu):(By l).length=l.length:=by simp [By]
def By_app(a b:zu):By (a++b)=By a++By b:=by simp [By]
def By_one(l:zu):∀u∈By l,u.oneCell'=true:=by intro u hu;obtain⟨x,_,rfl⟩:=aZ.1 hu;rfl
def By_at{l:zu}{j:Nat}{u:yl}(h:(By l)[j]?=some u):∃x,l[j]?=some x/\u = .int .u8 (x.toNat:Int):=by simp only [By,List.getElem?_map,Option.map_eq_some_iff] at h;obtain⟨x,hx,rfl⟩:=h;exact⟨x,hx,rfl⟩
def BV(w:yp)(lo hi:Nat)(A:zt)(l:zu):Prop :=
  0<l.length->∃ad,A=some ad/\lo<=ad.block/\ad.block<hi/\∀j x,l[j]?=some x->w.cell? (ad.add j)=some (.int .u8 (x.toNat:Int))
section
variable{w w':yp}{lo hi lo' hi':Nat}{A:zt}{l:zu}
def block_add(a:Addr)(n:Nat):(a.add n).block=a.block:=by unfold Addr.add;split<;>rfl
def add_add'(a:Addr)(i j:Nat):(a.add i).add j=a.add (i+j):=by unfold Addr.add;by_cases h1:i=0<;>by_cases h2:j=0<;>simp [h1,h2,bZ]
def BV.nil(w:yp)(lo hi:Nat)(A:zt):BV w lo hi A []:=λh=>absurd h (by simp)
def BV.more(h:BV w lo hi A l)(h1:lo'<=lo)(h2:hi<=hi'):BV w lo' hi' A l:=λhl=>by obtain⟨ad,e,ha,hb,hc⟩:=h hl;exact⟨ad,e,by omega,by omega,hc⟩
def BV.keep(h:BV w lo hi A l)(hk:∀k,lo<=k->k<hi->w'.heap[k]?=w.heap[k]?):BV w' lo hi A l:=λhl=>by obtain⟨ad,e,ha,hb,hc⟩:=h hl;exact⟨ad,e,ha,hb,λj x hx=>by rw [World.cell?_of_block (w:=w) (by rw [block_add];exact hk _ ha hb)];exact hc j x hx⟩
def BV.below(h:BV w lo hi A l){B:Nat}(hb:Below B w w')(hB:hi<=B):BV w' lo hi A l:=h.keep λk _ hk=>hb.block k (by omega)
def BV.grown(h:BV w lo hi A l){r:Nat}(hg:w.grownBy w' (some r))(hB:hi<=w.heap.size)(hr:r<lo\/hi<=r):BV w' lo hi A l :=
 h.keep λk h1 h2=>hg.block k (by omega) (λe=>by injection e with e;omega)
def BV.alloc(h:BV w lo hi A l)(o:Obj)(hB:hi<=w.heap.size):BV (w.alloc o) lo hi A l:=h.keep λk _ h2=>Below.heap_alloc w o k (by omega)
def BV.take(h:BV w lo hi A l)(k:Nat):BV w lo hi A (l.take k):=λhl=>by
 obtain⟨ad,e,ha,hb,hc⟩:=h (by simp at hl;omega);exact⟨ad,e,ha,hb,λj x hx=>hc j x (by
  rw [dT] at hx;split at hx
  .exact hx
  .cases hx)⟩
def BV.cut(h:BV w lo hi A l){k c:Nat}(hk:k<=l.length)(hc:l.length<=c):BV w lo hi (if c=k then A else A.map (·.add k)) (l.drop k):=λhl=>by simp only [cU] at hl;obtain⟨ad,rfl,ha,hb,hcell⟩:=h (by omega);rw [if_neg (by omega)];exact⟨ad.add k,rfl,by rw [block_add];exact ha,by rw [block_add];exact hb,λj x hx=>by rw [add_add'];exact hcell (k+j) x (by rw [<-hx,lY])⟩
end
def Blk(w:yp)(g t:Nat)(cs:zr):Prop:=w.heap[g]?=some (.cells cs t (0,0))
section
variable{w w':yp}{g t:Nat}{cs:zr}
def Blk.lt(h:Blk w g t cs):g<w.heap.size:=(bD.1 h).1
def Blk.cell(h:Blk w g t cs)(i:Nat):w.cell? ⟨g,i,none⟩=cs[i]?:=cell_of_row w g i cs t (0,0) h
def Blk.free(h:Blk w g t cs)(i:Nat):w.frozen? ⟨g,i,none⟩=false:=frozen_of_row w g i cs t h
def Blk.new(w:yp)(t:Nat)(cs:zr):Blk (w.alloc (.cells cs t)) w.heap.size t cs:=heap_alloc_new w _
def Blk.alloc(h:Blk w g t cs)(o:Obj):Blk (w.alloc o) g t cs:=(Below.heap_alloc w o g h.lt).trans h
def Blk.set(h:Blk w g t cs)(i:Nat)(u:yl):Blk (w.setCell ⟨g,i,none⟩ u) g t (cs.setIfInBounds i u):=by unfold Blk at h ⊢;simp [World.setCell,pB,h]
def Blk.far(h:Blk w g t cs){p:Addr}(hp:g≠p.block)(u:yl):Blk (w.setCell p u) g t cs:=(heap_setCell_other w p g u hp).trans h
def Blk.below{B:Nat}(h:Blk w g t cs)(hb:Below B w w')(hg:g<B):Blk w' g t cs:=(hb.block g hg).trans h
end
def SL(w:yp)(lo hi:Nat)(A:zt)(l:zu)(c:Nat):Prop :=
  l.length<=c/\c<=9223372036854775807/\(A=none->c=0)/\BV w lo hi A l
section
variable{w w':yp}{lo hi lo' hi' c:Nat}{A:zt}{l:zu}
def SL.more(h:SL w lo hi A l c)(h1:lo'<=lo)(h2:hi<=hi'):SL w lo' hi' A l c:=⟨h.1,h.2.1,h.2.2.1,h.2.2.2.more h1 h2⟩
def SL.below(h:SL w lo hi A l c){B:Nat}(hb:Below B w w')(hB:hi<=B):SL w' lo hi A l c:=⟨h.1,h.2.1,h.2.2.1,h.2.2.2.below hb hB⟩
def SL.alloc(h:SL w lo hi A l c)(o:Obj)(hB:hi<=w.heap.size):SL (w.alloc o) lo hi A l c:=⟨h.1,h.2.1,h.2.2.1,h.2.2.2.alloc o hB⟩
def SL.nil(w:yp)(lo hi:Nat):SL w lo hi none [] 0:=⟨by simp,by omega,λ_=>rfl,BV.nil _ _ _ _⟩
def SL.take(h:SL w lo hi A l c)(k:Nat):SL w lo hi A (l.take k) c:=⟨by have:=h.1;simp;omega,h.2.1,h.2.2.1,h.2.2.2.take k⟩
def SL.cut(h:SL w lo hi A l c){k:Nat}(hk:k<=l.length):SL w lo hi (if c=k then A else A.map (·.add k)) (l.drop k) (c-k):=by
 refine⟨by have:=h.1;simp;omega,by have:=h.2.1;omega,λhA=>?_,h.2.2.2.cut hk h.1⟩;split at hA
 .rw [h.2.2.1 hA];omega
 .cases A with
  | none=>rw [h.2.2.1 rfl];omega
  | some a=>cases hA
end
def SL.none_{w:yp}{lo hi c:Nat}{A:zt}{l:zu}(h:SL w lo hi A l c)(hA:A=none):l.length=0/\c=0:=by have:=h.2.2.1 hA;have:=h.1;omega
def SL.cells{w:yp}{lo hi c:Nat}{A:zt}{l:zu}(h:SL w lo hi A l c):∀ad,A=some ad->∀j u,(By l)[j]?=some u->w.cell? (ad.add j)=some u:=by
 intro ad hA j u hu;obtain⟨x,hx,rfl⟩:=By_at hu;have hl:0<l.length:=by have:=(aP.1 hx).1;omega
 obtain⟨ad',hA',_,_,hc⟩:=h.2.2.2 hl;rw [hA] at hA';injection hA' with hA';subst hA';exact hc j x hx
def Parts(w:yp)(hi:Nat)(A:zt)(ls:zy):Prop :=
  0<ls.length->∃ad,A=some ad/\ad.block<hi/\∀(i:Nat) l,ls[i]?=some l->∃A' c,w.cell? (ad.add i)=some (.slice A' l.length c)/\SL w 0 hi A' l c
def Parts.below{w w':yp}{hi B:Nat}{A:zt}{ls:zy}(h:Parts w hi A ls)(hb:Below B w w')(hB:hi<=B):Parts w' hi A ls:=λhl=>by obtain⟨ad,rfl,ha,hc⟩:=h hl;refine⟨ad,rfl,ha,λi l hi=>?_⟩;obtain⟨A',c,h1,h2⟩:=hc i l hi;exact⟨A',c,by rw [hb.cell (by rw [block_add];omega)];exact h1,h2.below hb hB⟩
theorem run_store_row{P:ym}(w:yp)(ty:yn)(g:Nat)(cs old:zr)(t:yn)(hg:w.heap[g]?=some (.cells old t (0,0)))
 (hi:(P.info? ty).map (·.size)=some cs.size)(hos:old.size=cs.size)(h1:∀v∈cs.toList,v.oneCell'=true) :
  (mM ty (.pointer (some ⟨g,0,none⟩)) (.agg cs)).run P w = .ok () (w.setRow g cs):=by
 have hst:=run_storeCells_at P g 0 t cs.toList 0 old w hg (by simp;omega) h1;have hd:old.toList.drop cs.toList.length=[]:=iU (by simp;omega);simp only [cD,aY,qF,cR] at hst;rw [hd,bC,eH] at hst
 cases hq:P.info? ty with
 | none=>simp [hq] at hi
 | some i =>
  have hs:i.size=cs.size:=by simpa [hq] using hi
  simp [mM,fX,storeVar,sizeOf,typeInfo,hq,hs,oA,aG,hst]
def wpList_store_row{P:ym}{ops:zp}{rest:zo}{o:yk}{a:Act}{w:yp}{Q:zx}(hgd:o.guard=none)(ty:yn)(p x:yo)(ho:o.op = .store ty p x)
 (g:Nat)(hp:a.eval p = .pointer (some ⟨g,0,none⟩))(cs:zr)(hx:a.eval x = .agg cs)(t:yn)(old:zr)(hg:w.heap[g]?=some (.cells old t (0,0)))
 (hi:(P.info? ty).map (·.size)=some cs.size)(hos:old.size=cs.size)(h1:∀v∈cs.toList,v.oneCell'=true)
 (h:wpList P ops Q rest (a.put o.dst (.tuple #[])) (w.setRow g cs)):wpList P ops Q (o::rest) a w :=
 wpList_plain hgd λ_ hK=>by unfold fT execOp;simp only [ho,hp,hx,aG,aI,aC,run_store_row w ty g cs old t hg hi hos h1];exact hK _ _ h
def Blk.row{w:yp}{g t:Nat}{cs:zr}(h:Blk w g t cs)(cs':zr):Blk (w.setRow g cs') g t cs':=setRow_heap w g cs cs' t _ h
def Blk.rowFar{w:yp}{g t:Nat}{cs:zr}(h:Blk w g t cs){g':Nat}(hne:g≠g')(cs':zr):Blk (w.setRow g' cs') g t cs:=by unfold Blk at h ⊢;rw [World.setRow];simp only [pB];rw [if_neg (by omega)];exact h
def Is(l:List Int):zq:=l.map (.int .i64)
def By_get{l:zu}{j:Nat}(h:j<l.length):(By l).toArray[j]?=some (.int .u8 ((l[j]!).toNat:Int)):=by simp [By,h]
def Blk.drew{w:yp}{g t:Nat}{cs:zr}(h:Blk w g t cs):Blk w.drew g t cs:=h
def blk3_0(w:yp)(t:Nat)(cs:zr)(o1 o2:Obj):Blk (((w.alloc (.cells cs t)).alloc o1).alloc o2) w.heap.size t cs:=((Blk.new w t cs).alloc o1).alloc o2
def blk3_1(w:yp)(t:Nat)(cs:zr)(o1 o2:Obj):Blk (((w.alloc o1).alloc (.cells cs t)).alloc o2) (w.heap.size+1) t cs:=by
 have h:=(Blk.new (w.alloc o1) t cs).alloc o2
 rwa [dM] at h
def blk3_2(w:yp)(t:Nat)(cs:zr)(o1 o2:Obj):Blk (((w.alloc o1).alloc o2).alloc (.cells cs t)) (w.heap.size+1+1) t cs:=by
 have h:=Blk.new ((w.alloc o1).alloc o2) t cs
 rwa [dM,dM] at h
def blk4_0(w:yp)(t:Nat)(cs:zr)(o1 o2 o3:Obj):Blk ((((w.alloc (.cells cs t)).alloc o1).alloc o2).alloc o3) w.heap.size t cs:=(((Blk.new w t cs).alloc o1).alloc o2).alloc o3
def blk4_1(w:yp)(t:Nat)(cs:zr)(o1 o2 o3:Obj):Blk ((((w.alloc o1).alloc (.cells cs t)).alloc o2).alloc o3) (w.heap.size+1) t cs:=by
 have h:=((Blk.new (w.alloc o1) t cs).alloc o2).alloc o3
 rwa [dM] at h
def blk4_2(w:yp)(t:Nat)(cs:zr)(o1 o2 o3:Obj):Blk ((((w.alloc o1).alloc o2).alloc (.cells cs t)).alloc o3) (w.heap.size+1+1) t cs:=by
 have h:=(Blk.new ((w.alloc o1).alloc o2) t cs).alloc o3
 rwa [dM,dM] at h
def blk4_3(w:yp)(t:Nat)(cs:zr)(o1 o2 o3:Obj):Blk ((((w.alloc o1).alloc o2).alloc o3).alloc (.cells cs t)) (w.heap.size+1+1+1) t cs:=by
 have h:=Blk.new (((w.alloc o1).alloc o2).alloc o3) t cs
 rwa [dM,dM,dM] at h
def below4(w:yp)(o1 o2 o3 o4:Obj):Below w.heap.size w ((((w.alloc o1).alloc o2).alloc o3).alloc o4) :=
 ((((Below.refl _ _).alloc (aF _) _).alloc (by simp) _).alloc (by simp;omega) _).alloc (by simp;omega) _
def z32:zr:=(By (aB 32 0)).toArray
def size_hash(cs:zr)(h:cs.size=32):(prog.info? 47).map (·.size)=some cs.size:=by rw [h];kernel_rfl
def By_set(l:zu)(k:Nat)(x:UInt8):(By l).toArray.setIfInBounds k (.int .u8 (x.toNat:Int))=(By (l.set k x)).toArray:=by simp [By,dR]
def len_by{l:zu}(h:l.length=32):(By l).toArray.size=32:=by rw [List.size_toArray,By_len,h]
def info8:(prog.info? 5).map (λi=>(i.zero,i.size,i.bytes))=some (some (.int .u8 0),1,1):=by kernel_rfl
def part_at(w:yp)(l:zu)(i:Nat)(hi:i<l.length):(part 5 (By l).toArray (i*1)).run prog w = .ok (.int .u8 (l[i].toNat:Int)) w:=by
 have hagg:(isAgg 5).run prog w = .ok false w:=by unfold isAgg;rw [aG,run_underlying underlying5 w];rfl
 have hc:(By l)[i]?=some (.int .u8 (l[i].toNat:Int)):=by simp [By,aJ hi]
 unfold part;simp [aG,hagg,hc,aI]
def one_eq(d:Nat)(x y:UInt8)(w:yp):(cC (d+1) 5 (.int .u8 (x.toNat:Int)) (.int .u8 (y.toNat:Int))).run prog w = .ok (decide (x=y)) w:=by
 simp [cC,run_underlying underlying5];by_cases h:x=y
 .simp [h]
 .have h2:¬x.toNat=y.toNat:=λe=>h (UInt8.toNat.inj e);simp [h];intro e;exact h2 (by omega)
def equalIn_bytes(d n t:Nat)(l m:zu)(ht:prog.underlying t=some (.array n 5))(hl:l.length=n)(hm:m.length=n)(w:yp) :
  (cC (d+2) t (.agg (By l).toArray) (.agg (By m).toArray)).run prog w = .ok (decide (l=m)) w:=by
 obtain⟨i0,hi0,hz0,hz1,hz2⟩:=info_parts info8
 have hI:∀(I:zj),(∀i∈I,i<n)->(forIn I ((none:Option Bool),()) λi _=>do
   let a <-part 5 (By l).toArray (i*1)
   let b <-part 5 (By m).toArray (i*1)
   let r <-cC (d+1) 5 a b
   if (!r)=true then pure (ForInStep.done (some false,())) else pure (ForInStep.yield (none,()))).run prog w = .ok (if ∀i∈I,l[i]! = m[i]! then(none,()) else(some false,())) w:=by
  intro I
  induction I with
  | nil=>intro _;simp [aI]
  | cons i I ih =>
   intro h
   have hi:i<l.length:=by have:=h i (by simp);omega
   have hj:i<m.length:=by have:=h i (by simp);omega
   have hp:=part_at w l i hi;have hq:=part_at w m i hj;have he:=one_eq d l[i] m[i] w;have e1:l[i]! = l[i]:=getElem!_pos l i hi;have e2:m[i]! = m[i]:=getElem!_pos m i hj
   by_cases hx:l[i]=m[i]
   .rw [show decide (l[i]=m[i])=true by simp [hx]] at he
    simp only [uQ,aG,hp,hq,aC,he,tI,jJ,if_false,aI];rw [ih (λj hj=>h j (by simp [hj]))];congr 1;by_cases ha:∀i∈I,l[i]! = m[i]!
    .have hb:∀j∈i::I,l[j]! = m[j]!:=by
      intro j hj;rcases List.mem_cons.mp hj with rfl|hj
      .rw [e1,e2,hx]
      .exact ha j hj
     rw [if_pos ha,if_pos hb]
    .rw [if_neg ha,if_neg (λhb=>ha λj hj=>hb j (aK _ hj))]
   .rw [show decide (l[i]=m[i])=false by simp [hx]] at he;simp only [uQ,aG,hp,hq,aC,he,Bool.not_false,if_true,aI];rw [if_neg (λhb=>hx (by have:=hb i (aM ..);rw [e1,e2] at this;exact this))]
 rw [cC];simp only [aG,run_underlying ht,aC,sizeOf,typeInfo,run_program,hi0,hz1,aI,Std.Legacy.Range.forIn_eq_forIn_range']
 rw [hI _ (λi hi=>by have:=jK.1 hi;simp [fP] at this;omega)]
 by_cases hlm:l=m
 .subst hlm;simp [aI]
 .have hne:¬ ∀i∈List.range' 0 n 1,l[i]! = m[i]!:=λha=>hlm (by
   apply c8 (by rw [hl,hm]);intro i h1 h2;have:=ha i (jK.2 (by omega))
   rwa [getElem!_pos l i h1,getElem!_pos m i h2] at this)
  have hs:fP [:n]=n:=by simp [fP]
  rw [hs,if_neg hne,show decide (l=m)=false by simp [hlm]];rfl
def equal32(l m:zu)(hl:l.length=32)(hm:m.length=32)(w:yp):(cC 10000 47 (.agg (By l).toArray) (.agg (By m).toArray)).run prog w = .ok (decide (l=m)) w:=equalIn_bytes 9998 32 47 l m underlying47 hl hm w
end Go.Proofs.Q
namespace Go.Proofs.Q
open Go.RowKit Go.IntWalk
def plainB:Op->Bool
  | .move _ | .assign _ | .pick .. | .alloc _ | .box .. | .build .. | .load .. | .store .. | .binOp .. | .unOp .. | .convert .. | .fieldAddr .. | .field .. | .indexAddr .. | .index .. | .extract .. | .slice .. | .makeInterface ..=>true
  | _=>false
def multiB:Op->Bool
  | .call c=>match c.callee with | .builtin .len=>false|_=>true
  | o=>!plainB o
def plain_of{o:Op}(h:multiB o=true):plainB o=false:=by cases o<;>first|rfl|exact absurd h (by simp [multiB,plainB])
section
variable{P:ym}
theorem run_v{s:Sem yl}{w w':yp}{n:Next}(h:(do pure (mB (<-s)):Sem Next).run P w = .ok n w'):∃v,n = .value v:=by
 rw [aG] at h;cases hs:s.run P w with
 | ok v w1 =>
  rw [hs] at h;simp only [aC,aI] at h
  injection h with h1 h2
  exact⟨v,h1.symm⟩
 | halt x w1 =>
  rw [hs] at h
  cases h
theorem run_u{s:Sem Unit}{w w':yp}{n:Next}(h:(do s;pure Next.skip:Sem Next).run P w = .ok n w'):n = .skip:=by
 rw [aG] at h;cases hs:s.run P w with
 | ok v w1 =>
  rw [hs] at h;simp only [aC,aI] at h
  injection h with h1 h2
  exact h1.symm
 | halt x w1 =>
  rw [hs] at h
  cases h
def plain_ok{ρ:yo->yl}{o:yk}(hp:plainB o.op=true){w w':yp}{n:Next}(h:(execOp ρ o).run P w = .ok n w'):(∃v,n = .value v)\/n = .skip:=by
  obtain⟨dst,op,ty,pos,af,gd⟩:=o;cases op<;>first
    | (cases hp;done)
    | exact .inl (run_v h)
    | exact .inr (run_u h)
    | (refine .inl ?_
       unfold execOp at h
       simp only [aI] at h
       injection h with h1 h2
       exact⟨_,h1.symm⟩)
    | (refine .inl ?_
       unfold execOp at h
       exact run_v (s:=do pure (if <-asBool _ then _ else _)) (by simpa using h))
end
section
variable{P:ym}{ops:zp}{md:dP}{Q:zx}{C0:zv}
def uponB(P:ym)(w:yp)(V:yl->Prop):Result Next->Prop
  | .ok (.value u) w'=>w'=w/\V u
  | .ok .skip w'=>w'=w/\V undef
  | .ok (.enter f args) w'=>w'=w/\Calls P f args w (λe w''=>∃v,e = .returned v/\V v/\Below w.heap.size w w'')
  | _=>False
def atB(P:ym)(o:yk)(a:Act)(w:yp)(V:yl->Prop):Prop:=uponB P w V ((execOp a.eval o).run P w)
def quietB(P:ym)(o:yk)(a:Act)(C0:zv)(next:Act->Prop):Prop :=
  (∃v,(∀w,C0 w->atB P o a w (· = v))/\next (a.put o.dst v))\/(multiB o.op=true/\∃V,(∀w,C0 w->atB P o a w V)/\∀v,V v->next (a.put o.dst v))
def wpB(P:ym)(ops:zp)(C0:zv)(Q:Act->Prop):zo->Act->Prop
  | [],a=>Q a
  | o::rest,a=>if aQ o (yielded ops a.tmps) then quietB P o a C0 (wpB P ops C0 Q rest) else wpB P ops C0 Q rest (a.put o.dst undef)
def wpB_nil{Q:Act->Prop}{a:Act}(h:Q a):wpB P ops C0 Q [] a:=h
def quietB_mono{Q Q':Act->Prop}(h:∀a,Q a->Q' a){o:yk}{a:Act}(hh:quietB P o a C0 Q):quietB P o a C0 Q':=by
 rcases hh with⟨v,h1,h2⟩|⟨hp,V,h1,h2⟩
 .exact .inl ⟨v,h1,h _ h2⟩
 .exact .inr ⟨hp,V,h1,λv hv=>h _ (h2 v hv)⟩
theorem wpB_mono{Q Q':Act->Prop}(h:∀a,Q a->Q' a):∀(l:zo) (a:Act),wpB P ops C0 Q l a->wpB P ops C0 Q' l a
 | [],a,hh=>h a hh
 | o::l,a,hh=>by
  unfold wpB at hh ⊢;split
  .rename_i hw;simp only [hw,if_true] at hh;exact quietB_mono (wpB_mono h l) hh
  .rename_i hw;simp only [hw] at hh;exact wpB_mono h l _ (by simpa using hh)
def YieldsB(P:ym)(ops:zp)(C0:zv)(o:yk)(V:yl->Prop)(a:Act):Prop :=
  (aQ o (yielded ops a.tmps)=true/\∀w,C0 w->atB P o a w V)\/(aQ o (yielded ops a.tmps)=false/\V undef)
def YieldsB.of_same{o:yk}{V:yl->Prop}{a a':Act}(hy:YieldsB P ops C0 o V a)(he:execOp a'.eval o=execOp a.eval o)
 (hw:aQ o (yielded ops a'.tmps)=aQ o (yielded ops a.tmps)):YieldsB P ops C0 o V a':=by
 unfold YieldsB atB at *
 rw [he,hw];exact hy
def YieldsB.any{o:yk}{V:yl->Prop}{a:Act}(hy:YieldsB P ops C0 o V a){w:yp}(hC:C0 w):∃v,V v:=by
 rcases hy with⟨_,h⟩|⟨_,h⟩
 .have h3:=h w hC
  unfold atB at h3;generalize (execOp a.eval o).run P w=r at *;cases r with
  | ok n w' =>
   cases n<;>simp only [uponB] at h3
   case value u=>exact⟨u,h3.2⟩
   case skip=>exact⟨_,h3.2⟩
   case enter f args =>
    obtain⟨e,w1,fr,⟨v,_,hv,_⟩,_⟩:=h3.2 [];exact⟨v,hv⟩
  | halt x w'=>simp only [uponB] at h3
 .exact⟨_,h⟩
def YieldsB.wpOp{i:Nat}{o:yk}{V:yl->Prop}{a:Act}(hi:ops[i]?=some o)(hy:YieldsB P ops C0 o V a)
 {K:zw}{w:yp}(hC:C0 w)(h:∀v w',V v->Below w.heap.size w w'->K (a.put o.dst v) w'):wpOp P ops Q i K a w:=by
 unfold Go.wpOp
 simp only [hi]
 rcases hy with⟨hw,hv⟩|⟨hw,hv⟩
 .simp only [hw,if_true]
  refine .inl ?_;have h3:=hv w hC;unfold atB at h3;unfold fT;generalize (execOp a.eval o).run P w=r at *;cases r with
  | ok n w' =>
   cases n<;>simp only [uponB] at h3<;>simp only [fB]
   case value u =>
    obtain⟨e1,e2⟩:=h3;rw [e1];exact h _ _ e2 (Below.refl _ _)
   case skip =>
    obtain⟨e1,e2⟩:=h3;rw [e1];exact h _ _ e2 (Below.refl _ _)
   case enter f args =>
    obtain⟨e1,hc⟩:=h3;rw [e1]
    exact hc.mono λe w'' ⟨v,he,hv,hw''⟩=>by subst he;exact h _ _ hv hw''
  | halt x w'=>simp only [uponB] at h3
 .simp only [hw,jJ,if_false];exact h _ _ hv (Below.refl _ _)
def wpOp_putB{j:Nat}{oi oj:yk}{V:yl->Prop}(hj:ops[j]?=some oj)(hap:oi.apart ops oj=true)
 (hsi:∀cs b,oi.op ≠ .select cs b)(hsj:∀cs b,oj.op ≠ .select cs b)(hne:∃v,V v)(hpl:plainB oj.op=true\/∃v,∀u,V u->u=v)
 (hQ:∀c a d v w,Q (.panic c) (a.put d v) w->Q (.panic c) a w){K:zw}{a:Act}{w:yp}
 (hy:YieldsB P ops C0 oi V a)(h:∀v,V v->wpOp P ops Q j K (a.put oi.dst v) w) :
  wpOp P ops Q j (λa' w'=>YieldsB P ops C0 oi V a'/\∀v,V v->K (a'.put oi.dst v) w') a w:=by
 obtain⟨h1,h2,h3⟩:=Oper.apart_spec hap
 have keep:∀(a:Act),YieldsB P ops C0 oi V a->∀u,YieldsB P ops C0 oi V (a.put oj.dst u):=λa hy u =>
  hy.of_same (execOp_put oi hsi a oj.dst u h3) (wanted_put oi a oj.dst u h3)
 have keepD:∀d,YieldsB P ops C0 oi V { a with defers:=d::a.defers }:=λd=>hy.of_same rfl rfl;obtain⟨v0,hv0⟩:=hne
 unfold wpOp at *
 simp only [hj] at *;have hwt:∀v,aQ oj (yielded ops (a.put oi.dst v).tmps)=aQ oj (yielded ops a.tmps):=λv=>wanted_put oj a oi.dst v h1
 split
 .rename_i hw
  by_cases hasks:oj.asks P a w/\LetsOut Q
  .exact .inr hasks
  have hl:∀v,V v->oj.wp P (a.put oi.dst v) w K Q:=λv hv=>by
   have h5:=h v hv;rw [hwt v] at h5;simp only [hw,if_true] at h5;rcases h5 with h5|⟨h5,h6⟩
   .exact h5
   .refine absurd ⟨?_,h6⟩ hasks;unfold Oper.asks at *;rw [execOp_put oj hsj a oi.dst v h1] at h5;exact h5
  refine .inl ?_;unfold fT at *;have hl2:∀v,V v->oj.upon P (a.put oi.dst v) K Q ((execOp a.eval oj).run P w):=λv hv=>by have h5:=hl v hv;rw [execOp_put oj hsj a oi.dst v h1] at h5;exact h5
  have hpn:=λn w'=>plain_ok (P:=P) (ρ:=a.eval) (o:=oj) (w:=w) (w':=w') (n:=n);generalize (execOp a.eval oj).run P w=r at *;cases r with
  | ok n w' =>
   cases n
   case value u=>exact⟨keep a hy u,λv hv=>by rw [<-j6 a v u h2];exact hl2 v hv⟩
   case skip=>exact⟨keep a hy _,λv hv=>by rw [<-j6 a v undef h2];exact hl2 v hv⟩
   all_goals
    rcases hpl with hpl|⟨vv,hvv⟩
    .rcases hpn _ _ hpl rfl with⟨v,hv⟩|hv<;>cases hv
   case enter.inr f args =>
    have h5:=hl2 v0 hv0;simp only [fB] at h5 ⊢;refine Calls.mono h5 λe w'' he=>?_
    cases e with
    | returned u=>exact⟨keep a hy u,λv hv=>by rw [hvv v hv,<-hvv v0 hv0,<-j6 a v0 u h2];exact he⟩
    | panicked c=>exact hQ _ _ _ _ _ he
    | outgrown=>exact he
   case row.inr row args =>
    have h5:=hl2 v0 hv0;simp only [fB] at h5 ⊢;exact Rows.mono h5 λu w'' he=>⟨keep a hy u,λv hv=>by rw [hvv v hv,<-hvv v0 hv0,<-j6 a v0 u h2];exact he⟩
   case defer.inr d =>
    refine⟨keep _ (keepD d) _,λv hv=>?_⟩;have h5:=hl2 v hv;simp only [fB] at h5;rw [<-j6 _ v undef h2,<-Act.put_defers];exact h5
   all_goals
    have h5:=hl2 v0 hv0;simp only [fB] at h5
  | halt x w' =>
   have h5:=hl2 v0 hv0
   cases x<;>simp only [fB] at h5 ⊢
   case panic u=>exact hQ _ _ _ _ _ h5
 .rename_i hw;refine⟨keep a hy _,λv hv=>?_⟩;have h5:=h v hv;rw [hwt v] at h5;simp only [hw] at h5;rw [<-j6 a v undef h2];simpa using h5
def waitsT(md:dP)(ops:zp):Nat->Nat->Nat->Bool
  | 0,_,_=>false
  | f+1,j,i=>match ops[j]? with
    | none=>false
    | some oj=>oj.after.any λe=>c7 md e&&(e.on==i||waitsT md ops f e.on i)
def Closed(md:dP)(ops:zp)(listed:zn):Prop :=
  ∀j oj,ops[j]?=some oj->listed.getD j false=true->∀e∈oj.after,c7 md e=true->listed.getD e.on false=true
theorem Closed.waits{listed:zn}(hc:Closed md ops listed):∀(f j i:Nat) (oj:yk),ops[j]?=some oj->(∀e∈oj.after,c7 md e=true->listed.getD e.on false=true) ->
  waitsT md ops f j i=true->listed.getD i false=true
 | 0,_,_,_,_,_,h=>by cases h
 | f+1,j,i,oj,hj,hl,h=>by
  unfold waitsT at h;rw [hj] at h;obtain⟨e,he,hb⟩:=dF.1 h;simp only [aN,dN,beq_iff_eq] at hb;obtain⟨hb1,hb2⟩:=hb;have h1:=hl e he hb1;rcases hb2 with hb2|hb2
  .rw [<-hb2];exact h1
  .cases ho:ops[e.on]? with
   | none =>
    cases f with
    | zero=>cases hb2
    | succ f=>unfold waitsT at hb2;rw [ho] at hb2;cases hb2
   | some oe=>exact Closed.waits hc f e.on i oe ho (hc e.on oe ho h1) hb2
def Closed.set{listed:zn}(hc:Closed md ops listed){i:Nat}(hi:i∈a9 md ops listed):Closed md ops (listed.setIfInBounds i true):=by
 obtain⟨_,oi,hoi,hall⟩:=mem_ready.1 hi;intro j oj hj hl e he hb;by_cases hij:i=j
 .subst hij;obtain rfl:oj=oi:=bQ (hj.symm.trans hoi);exact getD_set_true (hall e he hb)
 .rw [getD_set_ne false hij] at hl;exact getD_set_true (hc j oj hj hl e he hb)
def Closed.none(n:Nat):Closed md ops (bB n false):=λj _ _ hl=>by rw [getD_replicate_false] at hl;cases hl
def wpAnyU(P:ym)(md:dP)(ops:zp)(C0:zv)(Q:zx)(n m:Nat):Nat->yp->zn->Act->Prop
  | 0,w0,listed,a=>(∀j∈a9 md ops listed,∀i,i<n->waitsT md ops ops.size j i=true)/\∀w,Below w0.heap.size w0 w->wpAny P md ops Q m listed a w
  | fuel+1,w0,listed,a =>
    a9 md ops listed≠[] /\
    ∀i∈a9 md ops listed,∀w,Below w0.heap.size w0 w->wpOp P ops Q i (λa' w'=>C0 w'/\wpAnyU P md ops C0 Q n m fuel w' (listed.setIfInBounds i true) a') a w
theorem wpAnyU_mono{n m fuel:Nat}{w0 w1:yp}{listed:zn}{a:Act}(hb:Below w0.heap.size w0 w1)(h:wpAnyU P md ops C0 Q n m fuel w0 listed a):wpAnyU P md ops C0 Q n m fuel w1 listed a:=by
 cases fuel with
 | zero=>exact⟨h.1,λw hw=>h.2 w (hb.trans (hw.mono hb.size))⟩
 | succ fuel=>exact⟨h.1,λi hi w hw=>h.2 i hi w (hb.trans (hw.mono hb.size))⟩
theorem wpAny_of_U{n m:Nat}:∀(fuel:Nat) (listed:zn) (a:Act) (w:yp),wpAnyU P md ops C0 Q n m fuel w listed a->wpAny P md ops Q (m+fuel) listed a w
 | 0,_,_,w,h=>h.2 w (Below.refl _ _)
 | fuel+1,_,_,w,h=>⟨λh0=>absurd h0 h.1,λi hi=>wpOp_mono (λa' w' h'=>wpAny_of_U fuel _ a' w' h'.2) (h.2 i hi w (Below.refl _ _))⟩
def getD_ready{i:Nat}{listed:zn}(hi:i∈a9 md ops listed):listed.getD i false=false:=getD_both (mem_ready.1 hi).1
theorem wpAnyU_first{n m i F:Nat}{oi:yk}{V:yl->Prop}(hcl:∀w w',C0 w->Below w.heap.size w w'->C0 w')(hin:i<n)(hi:ops[i]?=some oi)(hsel:∀(j:Nat) (o:yk) cs b,ops[j]?=some o->o.op ≠ .select cs b)
 (hQ:∀c a d v w,Q (.panic c) (a.put d v) w->Q (.panic c) a w) :
  ∀(fuel:Nat) (w0:yp) (listed:zn) (a:Act),C0 w0->Closed md ops listed ->
   (∀j oj,ops[j]?=some oj->j≠i->listed.getD j true=false->(∀e∈oj.after,c7 md e=true->e.on≠i)->oi.apart ops oj=true) ->
   ((∃v,∀u,V u->u=v)\/∀j oj,ops[j]?=some oj->j≠i->listed.getD j true=false->plainB oj.op=true\/waitsT md ops F j i=true) ->
   i∈a9 md ops listed->YieldsB P ops C0 oi V a ->
   (∀v,V v->wpAnyU P md ops C0 Q n m fuel w0 (listed.setIfInBounds i true) (a.put oi.dst v))->wpAnyU P md ops C0 Q n m (fuel+1) w0 listed a:=by
 intro fuel
 induction fuel with
 | zero =>
  intro w0 listed a hC hcs _ _ hr hy H
  refine⟨λh=>(by rw [h] at hr;cases hr),λj hj w hw=>?_⟩
  by_cases hji:j=i
  .subst hji;exact hy.wpOp hi (hcl w0 w hC hw) λv w' hv hw'=>⟨hcl w w' (hcl w0 w hC hw) hw',wpAnyU_mono (hw.trans (hw'.mono hw.size)) (H v hv)⟩
  .obtain⟨v,hv⟩:=hy.any hC;have h1:=(H v hv).1 j (ready_mono hj hji) i hin;obtain⟨_,oj,hoj,hall⟩:=mem_ready.1 hj;have h6:=hcs.waits _ j i oj hoj hall h1;rw [getD_ready hr] at h6;cases h6
 | succ fuel ih =>
  intro w0 listed a hC hcs hfree hpl hr hy H
  refine⟨λh=>(by rw [h] at hr;cases hr),λj hj w hw=>?_⟩
  by_cases hji:j=i
  .subst hji;exact hy.wpOp hi (hcl w0 w hC hw) λv w' hv hw'=>⟨hcl w w' (hcl w0 w hC hw) hw',wpAnyU_mono (hw.trans (hw'.mono hw.size)) (H v hv)⟩
  .obtain⟨hjun,oj,hoj,hall⟩:=mem_ready.1 hj
   have hnot:∀e∈oj.after,c7 md e=true->e.on≠i:=λe he hb heq=>by have h1:=hall e he hb;rw [heq,getD_ready hr] at h1;cases h1
   have hpj:plainB oj.op=true\/∃v,∀u,V u->u=v:=by
    rcases hpl with hpl|hpl
    .exact .inr hpl
    .rcases hpl j oj hoj hji hjun with h5|h5
     .exact .inl h5
     .have h6:=hcs.waits F j i oj hoj hall h5;rw [getD_ready hr] at h6;cases h6
   have h2:=wpOp_putB hoj (hfree j oj hoj hji hjun hnot) (λcs b=>hsel i oi cs b hi) (λcs b=>hsel j oj cs b hoj) (hy.any hC) hpj hQ hy
    (λv hv=>(H v hv).2 j (ready_mono hj hji) w hw)
   have hun':∀k,(listed.setIfInBounds j true).getD k true=false->listed.getD k true=false:=λk hun=>by
    by_cases hjk:j=k
    .subst hjk;exact hjun
    .rw [getD_set_ne true hjk] at hun;exact hun
   refine wpOp_mono (λa' w' h3=>?_) h2;obtain⟨hy',h4⟩:=h3;obtain⟨v0,hv0⟩:=hy.any hC;have hC':=(h4 v0 hv0).1;refine⟨hC',ih w' (listed.setIfInBounds j true) a' hC' (hcs.set hj) (λk ok hk hki hun hno=>hfree k ok hk hki (hun' k hun) hno) (hpl.imp id λhpl k ok hk hki hun=>hpl k ok hk hki (hun' k hun)) (ready_mono hr (Ne.symm hji)) hy' λv hv=>?_⟩;rw [Array.setIfInBounds_comm _ _ hji];exact(h4 v hv).2
def marks:Nat->Nat->zn->zn
  | 0,_,listed=>listed
  | n+1,k,listed=>marks n (k+1) (listed.setIfInBounds k true)
def setFree(md:dP)(ops:zp)(listed:zn)(k:Nat):Bool :=
  match ops[k]? with
  | none=>true
  | some ok=>plainB ok.op||(dV ops.size).all λj=>j==k||listed.getD j true||waitsT md ops ops.size j k||match ops[j]? with
    | some oj=>plainB oj.op
    | none=>true
def setFree_spec{listed:zn}{k:Nat}{ok:yk}(hk:ops[k]?=some ok)(hp:plainB ok.op=false)(h:setFree md ops listed k=true)(j:Nat)(oj:yk)(hj:ops[j]?=some oj)(hne:j≠k)
 (hun:listed.getD j true=false):plainB oj.op=true\/waitsT md ops ops.size j k=true:=by
 unfold setFree at h
 simp only [hk,hp,Bool.false_or,b7,iJ] at h;have h1:=h j (bD.1 hj).1;simp only [hj,dN,beq_iff_eq,hne,false_or,hun,jJ] at h1;exact h1.symm
def headB(md:dP)(ops:zp):Nat->Nat->zn->Bool
  | 0,_,_=>true
  | fuel+1,k,listed=>(a9 md ops listed).contains k&&Region.free md ops listed k&&setFree md ops listed k&&headB md ops fuel (k+1) (listed.setIfInBounds k true)
def forcedB(md:dP)(ops:zp):Nat->Nat->zn->Bool
  | 0,_,listed=>(a9 md ops listed).isEmpty
  | fuel+1,k,listed=>decide (a9 md ops listed=[k])&&forcedB md ops fuel (k+1) (listed.setIfInBounds k true)
def sinksB(md:dP)(ops:zp)(n:Nat)(listed:zn):Bool :=
  (a9 md ops listed).all λj=>(dV n).all λi=>waitsT md ops ops.size j i
theorem wpAnyU_head{n m:Nat}(hcl:∀w w',C0 w->Below w.heap.size w w'->C0 w')(hs:iA ops=true)(hQ:∀c a d v w,Q (.panic c) (a.put d v) w->Q (.panic c) a w)(fuel:Nat)(w0:yp)(hC:C0 w0) :
  ∀(l:zo) (k:Nat) (listed:zn) (a:Act),Closed md ops listed->k+l.length<=n->(∀j,j<l.length->l[j]?=ops[k+j]?)->headB md ops l.length k listed=true ->
  wpB P ops C0 (λa'=>wpAnyU P md ops C0 Q n m fuel w0 (marks l.length k listed) a') l a->wpAnyU P md ops C0 Q n m (fuel+l.length) w0 listed a
 | [],_,_,_,_,_,_,_,h=>h
 | o::l,k,listed,a,hcs,hn,hl,hB,h=>by
  have h0:ops[k]?=some o:=by simpa using (hl 0 (by simp)).symm
  simp only [a6] at hn;simp only [a6,headB,aN] at hB;obtain⟨⟨⟨hr,hf⟩,hsf⟩,hB'⟩:=hB;have hr':k∈a9 md ops listed:=by simpa using hr
  have hy:∃V,YieldsB P ops C0 o V a/\((∃v,∀u,V u->u=v)\/plainB o.op=false)/\∀v,V v->wpB P ops C0 (λa'=>wpAnyU P md ops C0 Q n m fuel w0 (marks (l.length+1) k listed) a') l (a.put o.dst v):=by
   by_cases hw:aQ o (yielded ops a.tmps)=true
   .simp only [wpB,hw,if_true,a6] at h
    rcases h with⟨v,h1,h2⟩|⟨hp,V,h1,h2⟩
    .exact⟨(· = v),.inl ⟨hw,h1⟩,.inl ⟨v,λ_ hu=>hu⟩,λu hu=>by rw [hu];exact h2⟩
    .exact⟨V,.inl ⟨hw,h1⟩,.inr (plain_of hp),h2⟩
   .simp only [wpB,hw,a6] at h;exact⟨(· = undef),.inr ⟨by simpa using hw,rfl⟩,.inl ⟨undef,λ_ hu=>hu⟩,λu hu=>by rw [hu];simpa using h⟩
  obtain⟨V,hy,hV,hK⟩:=hy;rw [a6,<-bZ];exact wpAnyU_first hcl (by omega) h0 (eN hs) hQ (fuel+l.length) w0 listed a hC hcs (Region.free_spec h0 hf) (hV.imp id λhp=>setFree_spec h0 hp hsf) hr' hy λv hv =>
   wpAnyU_head hcl hs hQ fuel w0 hC l (k+1) _ _ (hcs.set hr') (by omega) (λj hj=>by have:=hl (j+1) (by simpa using hj);simpa [bZ,iD 1 j] using this) hB' (hK v hv)
theorem wpAny_forced:∀(l:zo) (k:Nat) (listed:zn) (a:Act) (w:yp),(∀j,j<l.length->l[j]?=ops[k+j]?)->forcedB md ops l.length k listed=true ->
  wpList P ops Q l a w->wpAny P md ops Q l.length listed a w
 | [],_,_,_,_,_,hB,h=>⟨by simpa [forcedB] using hB,h⟩
 | o::l,k,listed,a,w,hl,hB,h=>by
  have h0:ops[k]?=some o:=by simpa using (hl 0 (by simp)).symm
  simp only [a6,forcedB,aN,decide_eq_true_eq] at hB;obtain⟨hr,hB'⟩:=hB;refine⟨λe=>(by rw [hr] at e;cases e),λi hi=>?_⟩;rw [hr,aD] at hi;subst hi;have hl':∀j,j<l.length->l[j]?=ops[i+1+j]?:=λj hj=>by have:=hl (j+1) (by simpa using hj);simpa [bZ,iD 1 j] using this
  unfold wpOp;simp only [h0];unfold wpList at h;split
  .rename_i hw;simp only [hw,if_true] at h;exact h.imp (Oper.wp_mono λa' w' h'=>wpAny_forced l (i+1) _ a' w' hl' hB' h') id
  .rename_i hw;simp only [hw] at h;exact wpAny_forced l (i+1) _ _ _ hl' hB' (by simpa using h)
def tailB(ops:zp)(n:Nat)(k:Nat)(m:Nat):Bool :=
  iA ops&&headB .any ops n 0 (bB ops.size false)&&decide (ops.size=m+k+n) &&
    sinksB .any ops (k+n) (marks k n (marks n 0 (bB ops.size false)))&&forcedB .any ops m (k+n) (marks k n (marks n 0 (bB ops.size false)))
def wp_region_B{id:Nat}{a:Act}{w:yp}{L T:zo}(C0:zv)(hm:P.follows .mixedOrders=true)(hB:tailB (L++T).toArray L.length 0 T.length=true)
 (hcl:∀w w',C0 w->Below w.heap.size w w'->C0 w')(hC:C0 w.drew)(hQ:∀c a d v w,Q (.panic c) (a.put d v) w->Q (.panic c) a w)
 (h:wpB P (L++T).toArray C0 (λa'=>∀w',C0 w'->wpList P (L++T).toArray Q T a' w') L a):(oR id (L++T).toArray true).wp P Q a w:=by
 simp only [tailB,aN,decide_eq_true_eq,aY,cD,marks] at hB;obtain⟨⟨⟨⟨hs,hh⟩,hz⟩,hsk⟩,hf⟩:=hB;refine wp_region_any hm ?_
 have hG:wpAnyU P .any (L++T).toArray C0 Q L.length T.length (0+L.length) w.drew (bB (L++T).toArray.size false) a:=by
  refine wpAnyU_head hcl hs hQ 0 w.drew hC L 0 _ a (Closed.none _) (by omega) (λj hj=>by simp [cW hj]) hh ?_;refine wpB_mono (λa' h'=>⟨λj hj i hi=>?_,λw' hw'=>?_⟩) L a h
  .have h1:=b7.1 hsk j hj;exact b7.1 h1 i (iJ.2 hi)
  .exact wpAny_forced T L.length _ a' w' (λj _=>by simp [bN]) hf (h' w' (hcl _ _ hC hw'))
 have h2:=wpAny_of_U (0+L.length) _ a w.drew hG;rw [aY,<-hz] at h2;exact h2
def wpAnyU_new{n m ia base fuel ty:Nat}{zs:zr}{w0:yp}{listed:zn}{a:Act}{oa:yk}(ho:ops[ia]?=some oa)(hg:oa.guard=none)
 (hrun:∀(a:Act) w,(execOp a.eval oa).run P w = .ok (.value (.pointer (some ⟨w.heap.size,0,none⟩))) (w.alloc (.cells zs ty)))
 (hcl:∀w w',C0 w->Below w.heap.size w w'->C0 w')(hb:∀w,C0 w->base<=w.heap.size)(hC:C0 w0)
 (h:∀w,Below w0.heap.size w0 w->C0 w->base<=w.heap.size->wpAnyU P md ops C0 Q n m fuel (w.alloc (.cells zs ty)) (listed.setIfInBounds ia true) (a.put oa.dst (.pointer (some ⟨w.heap.size,0,none⟩)))) :
  ∀w,Below w0.heap.size w0 w->wpOp P ops Q ia (λa' w'=>C0 w'/\wpAnyU P md ops C0 Q n m fuel w' (listed.setIfInBounds ia true) a') a w:=by
 intro w hw
 unfold wpOp
 simp only [ho];rw [if_pos (by simp [aQ,hg])];refine .inl ?_
 unfold fT
 rw [hrun];have hC1:=hcl w0 w hC hw;exact⟨hcl w _ hC1 ((Below.refl w.heap.size w).alloc (aF _) (.cells zs ty)),h w hw hC1 (hb w hC1)⟩
def Blk.later{w w':yp}{g t:Nat}{cs:zr}(h:Blk w g t cs)(hb:Below w.heap.size w w'):Blk w' g t cs:=h.below hb h.lt
end
section
variable{P:ym}{ops:zp}{C0:zv}{Q:Act->Prop}{a:Act}{o:yk}{rest:zo}
def wpB_step(h:∀K:Act->Prop,(∀a,wpB P ops C0 Q rest a->K a)->if aQ o (yielded ops a.tmps) then ∃v,(∀w,C0 w->uponB P w (· = v) ((execOp a.eval o).run P w))/\K (a.put o.dst v) else K (a.put o.dst undef)):wpB P ops C0 Q (o::rest) a:=by
 have h1:=h _ (λ_ h=>h);unfold wpB;split
 .rename_i hw;rw [if_pos hw] at h1;exact .inl h1
 .rename_i hw;rw [if_neg hw] at h1;exact h1
def b_want(hg:aQ o (yielded ops a.tmps)=true){v:yl}(h:∀w,C0 w->atB P o a w (· = v))(hk:wpB P ops C0 Q rest (a.put o.dst v)):wpB P ops C0 Q (o::rest) a :=
 wpB_step λK hK=>by rw [if_pos hg];exact⟨v,h,hK _ hk⟩
def b_val{v:yl}(hg:aQ o (yielded ops a.tmps)=true)(h:∀w,C0 w->(execOp a.eval o).run P w = .ok (.value v) w)(hk:wpB P ops C0 Q rest (a.put o.dst v)):wpB P ops C0 Q (o::rest) a :=
 b_want hg (λw hw=>by unfold atB;rw [h w hw];exact⟨rfl,rfl⟩) hk
def b_eq{t t':yn}{x y:yo}{q:Bool}(xs ys:zr)(hg:aQ o (yielded ops a.tmps)=true)(ho:o.op = .binOp .eql t x y t')(hx:a.eval x = .agg xs)(hy:a.eval y = .agg ys)
 (hd:P.eqGuardType P.depth t=false)(he:∀w,(cC 10000 t (.agg xs) (.agg ys)).run P w = .ok q w)(hk:wpB P ops C0 Q rest (a.put o.dst (.bool q))):wpB P ops C0 Q (o::rest) a :=
 b_val hg (λw _=>by unfold execOp;simp only [ho,hx,hy,aG,run_eqGuard_agg (hm:=hd),aC,binOp,Op.equal,Op.maxDepth,he,aI]) hk
def b_call{f:yi}{args:zr}(V:yl->Prop)(hg:aQ o (yielded ops a.tmps)=true)(hp:multiB o.op=true)
 (hc:∀w,C0 w->Calls P f args w (λe w'=>∃v,e = .returned v/\V v/\Below w.heap.size w w'))(he:∀w,(execOp a.eval o).run P w = .ok (.enter f args) w)(hk:∀v,V v->wpB P ops C0 Q rest (a.put o.dst v)):wpB P ops C0 Q (o::rest) a:=by
 unfold wpB
 rw [if_pos hg];refine .inr ⟨hp,V,λw hw=>?_,hk⟩
 unfold atB
 rw [he];exact⟨rfl,hc w hw⟩
def b_call1{f:yi}{args:zr}{v:yl}(hg:aQ o (yielded ops a.tmps)=true)
 (hc:∀w,C0 w->Calls P f args w (λe w'=>e = .returned v/\Below w.heap.size w w'))(he:∀w,(execOp a.eval o).run P w = .ok (.enter f args) w)(hk:wpB P ops C0 Q rest (a.put o.dst v)):wpB P ops C0 Q (o::rest) a :=
 b_want hg (λw hw=>by unfold atB;rw [he];exact⟨rfl,(hc w hw).mono λe w' ⟨h1,h2⟩=>⟨v,h1,rfl,h2⟩⟩) hk
def b_mid(hg:aQ o (yielded ops a.tmps)=true)(ty:yn)(x:yo)(ho:o.op = .load ty x)(b off:Nat)(hx:a.eval x = .pointer (some ⟨b,off,none⟩))(cs:zq)(d:TypeDesc)
 (hc:∀w,C0 w->w.rangeAt b off cs)(hu:P.underlying ty=some d)(hd:d.isRow=true)(hi:(P.info? ty).map (·.size)=some cs.length)
 (hk:wpB P ops C0 Q rest (a.put o.dst (.agg cs.toArray))):wpB P ops C0 Q (o::rest) a :=
 b_want hg (λw hw=>by unfold atB execOp;simp only [ho,hx,jW,fX,aG,aI,aC,run_loadVar_mid w b off ty cs d (hc w hw) hu hd hi];exact⟨rfl,rfl⟩) hk
end
def Blk.range{w:yp}{g t:Nat}{l:zq}(h:Blk w g t l.toArray):w.rangeAt g 0 l:=λj v hv=>by rw [aY,h.cell j];simpa using hv
section
variable{P:ym}{Q:zx}{id:Nat}{a:Act}{w:yp}{l:zo}
def region_B(n:Nat)(C0:zv)(hn:n<=l.length)(hm:P.follows .mixedOrders=true)(hB:tailB l.toArray n 0 (l.drop n).length=true)
 (hcl:∀w w',C0 w->Below w.heap.size w w'->C0 w')(hC:C0 w.drew)(hQ:∀c a d v w,Q (.panic c) (a.put d v) w->Q (.panic c) a w)
 (h:wpB P l.toArray C0 (λa'=>∀w',C0 w'->wpList P l.toArray Q (l.drop n) a' w') (l.take n) a):(oR id l.toArray true).wp P Q a w:=by
 have e:l=l.take n++l.drop n:=(b6 n l).symm
 have hL:(l.take n).length=n:=by rw [aV];omega
 generalize l.take n=L at *;generalize l.drop n=T at *;subst e;exact wp_region_B C0 hm (by rw [hL];exact hB) hcl hC hQ h
end
section
variable{P:ym}{Q:zx}{id:Nat}{a:Act}{w:yp}{l:zo}
def Up(w w':yp):Prop:=Below w.heap.size w w'
def Up.refl(w:yp):Up w w:=Below.refl _ _
def Up.drew(w:yp):Up w w.drew:=(Below.refl _ _).drew
def Up.step{w w1 w2:yp}(h:Up w w1)(k:Below w1.heap.size w1 w2):Up w w2:=Below.trans h (k.mono h.size)
def Up.blk{w w1:yp}{g t:Nat}{cs:zr}(h:Up w w1)(k:Blk w g t cs):Blk w1 g t cs:=k.later h
def Up.alloc{w w1:yp}(h:Up w w1)(o:Obj):Up w (w1.alloc o):=h.step ((Below.refl _ _).alloc (aF _) _)
def below_up{w W W':yp}(h:Below w.heap.size w W)(k:Up W W'):Below w.heap.size w W':=Below.trans h (Below.mono k h.size)
def wp_at{P:ym}{c:Code}{Q:zx}{a:Act}{w0:yp}(F:zv)(h0:F w0)(h:∀W,F W->c.wp P Q a W):c.wp P Q a w0:=h w0 h0
theorem wpList_of_B{ops:zp}{T:zo}:∀(L:zo) (a:Act) (w w0:yp),Up w0 w->wpB P ops (Up w0) (λa'=>∀w',Up w0 w'->wpList P ops Q T a' w') L a->wpList P ops Q (L++T) a w
 | [],a,w,w0,hw,h=>h w hw
 | o::L,a,w,w0,hw,h=>by
  have key:∀V:yl->Prop,atB P o a w V->(∀v w',V v->Below w.heap.size w w'->wpList P ops Q (L++T) (a.put o.dst v) w')->o.wp P a w (wpList P ops Q (L++T)) Q:=λV h3 hk=>by
   unfold atB at h3;unfold fT;generalize (execOp a.eval o).run P w=r at *;cases r with
   | ok n w' =>
    cases n<;>simp only [uponB] at h3<;>simp only [fB]
    case value u =>
     obtain⟨e1,e2⟩:=h3;rw [e1];exact hk _ _ e2 (Below.refl _ _)
    case skip =>
     obtain⟨e1,e2⟩:=h3;rw [e1];exact hk _ _ e2 (Below.refl _ _)
    case enter f args =>
     obtain⟨e1,hc⟩:=h3;rw [e1]
     exact hc.mono λe w'' ⟨v,he,hv,hw''⟩=>by subst he;exact hk _ _ hv hw''
   | halt x w'=>simp only [uponB] at h3
  show wpList P ops Q (o::(L++T)) a w;unfold wpB at h;unfold wpList;split
  .rename_i hwt
   rw [if_pos hwt] at h;refine .inl ?_;rcases h with⟨v,h1,h2⟩|⟨_,V,h1,h2⟩
   .exact key (· = v) (h1 w hw) λu w' hu hw'=>by rw [hu];exact wpList_of_B L _ w' w0 (hw.step hw') h2
   .exact key V (h1 w hw) λu w' hu hw'=>wpList_of_B L _ w' w0 (hw.step hw') (h2 u hu)
  .rename_i hwt;rw [if_neg hwt] at h;exact wpList_of_B L _ w w0 hw h
def reg_q(hm:P.follows .mixedOrders=true)(hB:tailB l.toArray l.length 0 0=true)(hQ:∀c a d v w,Q (.panic c) (a.put d v) w->Q (.panic c) a w)
 (h:wpB P l.toArray (Up w) (λa'=>∀w',Up w w'->Q .normal a' w') l a):(oR id l.toArray true).wp P Q a w :=
 region_B (l:=l) l.length (Up w) (aF _) hm (by rw [List.drop_length];exact hB) (λ_ _ h k=>h.step k) (Up.drew w) hQ (by rw [List.drop_length,List.take_length];exact h)
def reg_qF(h:wpB P l.toArray (Up w) (λa'=>∀w',Up w w'->Q .normal a' w') l a):(oR id l.toArray false).wp P Q a w:=by
 refine wp_region_lit ?_;have h1:=wpList_of_B (Q:=Q) (T:=[]) l a w w (Up.refl w) h
 rwa [bC] at h1
def reg_tailF(n:Nat)(h:wpB P l.toArray (Up w) (λa'=>∀w',Up w w'->wpList P l.toArray Q (l.drop n) a' w') (l.take n) a):(oR id l.toArray false).wp P Q a w:=by
 refine wp_region_lit ?_;have h1:=wpList_of_B (Q:=Q) (T:=l.drop n) (l.take n) a w w (Up.refl w) h
 rwa [b6] at h1
def up_row{w w1:yp}{g:Nat}(h:Up w w1)(hg:w.heap.size<=g)(cs:zr):Up w (w1.setRow g cs):=below_setRow h hg _
end
theorem foldl_put{α:Type}(V A O Z:List α)(m k:Nat)(hm:m+k=A.length)(hl:O.length=V.length) :
  (V.zipIdx k).foldl (λ(cs:Array α) (p:α×Nat)=>cs.setIfInBounds (m+p.2) p.1) (A++(O++Z)).toArray=(A++(V++Z)).toArray:=by
 induction V generalizing A O k with
 | nil =>
  obtain rfl:O=[]:=bE hl
  rfl
 | cons c V ih =>
  obtain⟨o,O,rfl⟩:∃o O',O=o::O':=by
   cases O with
   | nil=>simp at hl
   | cons o O=>exact⟨o,O,rfl⟩
  rw [List.zipIdx_cons,List.foldl_cons]
  have e:((A++(o::O++Z)).toArray.setIfInBounds (m+k) c)=(A++[c]++(O++Z)).toArray:=by rw [hm];simp
  rw [e,ih (A++[c]) O (k+1) (by simp;omega) (by simpa using hl)]
  simp
def fill_put(place:Nat->Option (Nat×Nat))(i n:Nat)(A O Z V:zq)(rest:List (Nat×yl))(hp:place i=some (A.length,n))(hV:V.length=n)(hO:O.length=n) :
  jG place (A++(O++Z)).toArray ((i,.agg V.toArray)::rest)=jG place (A++(V++Z)).toArray rest:=by
 rw [jG];simp only [hp];rw [if_neg (by simp [oA,hV,hO])]
 congr 1
 have h:=foldl_put V A O Z A.length 0 rfl (by rw [hV,hO]);rw [<-h]
 simp [oA,Array.zipIdx,List.mapIdx_eq_zipIdx_map]
def run_box_agg{P:ym}(ty:yn)(cs:zr)(w:yp):(Instr.box ty (.agg cs)).run P w = .ok (.pointer (some ⟨w.heap.size,0,none⟩)) (w.alloc (.cells cs ty)):=by simp [Instr.box,newVar,newRow,oA]
theorem run_alloc0{P:ym}{ty:yn}{zs:zr}(h:(P.info? ty).bind (λi=>i.zero.map (·.cells))=some zs)(old:yl)(w:yp) :
  (Instr.alloc ty true old).run P w = .ok (.pointer (some ⟨w.heap.size,0,none⟩)) (w.alloc (.cells zs ty)):=by
 cases hi:P.info? ty with
 | none=>simp [hi] at h
 | some i =>
  cases hz:i.zero with
  | none=>simp [hi,hz] at h
  | some z =>
   simp only [hi,Option.bind_some,hz,bS] at h
   injection h with h
   subst h
   simp [Instr.alloc,zeroValue,typeInfo,hi,hz,newVar,newRow]
def exec_alloc{P:ym}{o:yk}{ty:yn}{zs:zr}(ho:o.op = .alloc ty)(h:(P.info? ty).bind (λi=>i.zero.map (·.cells))=some zs)(a:Act)(w:yp) :
  (execOp a.eval o).run P w = .ok (.value (.pointer (some ⟨w.heap.size,0,none⟩))) (w.alloc (.cells zs ty)):=by
 obtain⟨dst,op,t,pos,af,gd⟩:=o;simp only at ho;subst ho
 unfold execOp
 simp only [aG,run_alloc0 h,aC,aI]
section
variable{P:ym}{ops:zp}{rest:zo}{o:yk}{a:Act}{w:yp}{Q:zx}
def wpl_alloc{ty:yn}{zs:zr}(hg:o.guard=none)(ho:o.op = .alloc ty)(hz:(P.info? ty).bind (λi=>i.zero.map (·.cells))=some zs)
 (h:wpList P ops Q rest (a.put o.dst (.pointer (some ⟨w.heap.size,0,none⟩))) (w.alloc (.cells zs ty))):wpList P ops Q (o::rest) a w :=
 wpList_plain hg λ_ hK=>by unfold fT;rw [exec_alloc ho hz];exact hK _ _ h
def wpl_box{ty:yn}{x:yo}(cs:zr)(hg:o.guard=none)(ho:o.op = .box ty x)(hx:a.eval x = .agg cs)
 (h:wpList P ops Q rest (a.put o.dst (.pointer (some ⟨w.heap.size,0,none⟩))) (w.alloc (.cells cs ty))):wpList P ops Q (o::rest) a w :=
 wpList_plain hg λ_ hK=>by unfold fT execOp;simp only [ho,hx,aG,run_box_agg,aC,aI];exact hK _ _ h
def wpl_nil(h:Q .normal a w):wpList P ops Q [] a w:=h
end
section
variable{md:dP}{ops:zp}
def edgeTo(md:dP)(o:yk)(i:Nat):Bool:=o.after.any λe=>c7 md e&&e.on==i
def waitsT_edge{f j i:Nat}{o:yk}(hj:ops[j]?=some o)(h:edgeTo md o i=true):waitsT md ops (f+1) j i=true:=by unfold waitsT;rw [hj];unfold edgeTo at h;obtain⟨e,he,hb⟩:=dF.1 h;simp only [aN,beq_iff_eq] at hb;exact dF.2 ⟨e,he,by simp [hb.1,hb.2]⟩
def waitsT_via{f j m i:Nat}{o:yk}(hj:ops[j]?=some o)(h:edgeTo md o m=true)(hm:waitsT md ops f m i=true):waitsT md ops (f+1) j i=true:=by unfold waitsT;rw [hj];unfold edgeTo at h;obtain⟨e,he,hb⟩:=dF.1 h;simp only [aN,beq_iff_eq] at hb;exact dF.2 ⟨e,he,by simp [hb.1,hb.2,hm]⟩
theorem waitsT_mono:∀{f g j i:Nat},f<=g->waitsT md ops f j i=true->waitsT md ops g j i=true
 | 0,_,_,_,_,h=>by cases h
 | f+1,0,_,_,hle,_=>absurd hle (by omega)
 | f+1,g+1,j,i,hle,h=>by
  unfold waitsT at h ⊢;cases ho:ops[j]? with
  | none=>rw [ho] at h;cases h
  | some o =>
   rw [ho] at h;obtain⟨e,he,hb⟩:=dF.1 h;refine dF.2 ⟨e,he,?_⟩;simp only [aN,dN,beq_iff_eq] at hb ⊢;exact⟨hb.1,hb.2.imp id (waitsT_mono (by omega))⟩
def linkTo(md:dP)(o:yk)(i:Nat):Bool:=o.after.any λe=>(match e.ground with
  | .chain=>true
  | _=>false)&&(c7 md e&&e.on==i)
def edge_of_link{o:yk}{i:Nat}(h:linkTo md o i=true):edgeTo md o i=true:=by unfold linkTo at h;obtain⟨e,he,hb⟩:=dF.1 h;simp only [aN] at hb;exact dF.2 ⟨e,he,by simp only [aN];exact hb.2⟩
def chainB(md:dP):zo->Nat->zh->Bool
  | [],_,_=>true
  | o::l,k,prev=>if plainB o.op then chainB md l (k+1) (match prev with
      | none=>none
      | some i=>if linkTo md o i then some k else some i)
    else(match prev with
    | none=>true
    | some i=>edgeTo md o i)&&chainB md l (k+1) (some k)
def CallAt(ops:zp)(i:Nat):Prop:=∃o,ops[i]?=some o/\plainB o.op=false
def WaitsAll(md:dP)(ops:zp)(p:Nat):Prop:=∀i,i<p->CallAt ops i->waitsT md ops (p-i) p i=true
def waitsAll_edge{p k:Nat}{o:yk}(hk:ops[k]?=some o)(he:edgeTo md o p=true)(hp:p<k)(hW:WaitsAll md ops p)(hall:∀i,i<k->CallAt ops i->i<=p):WaitsAll md ops k:=by
 intro i hi hc;by_cases hip:i=p
 .subst hip;exact waitsT_mono (f:=1) (by omega) (waitsT_edge hk he)
 .have h1:=hall i hi hc;exact waitsT_mono (by omega) (waitsT_via hk he (hW i (by omega) hc))
theorem chain_all:∀(l:zo) (k:Nat) (prev:zh),(∀j,j<l.length->l[j]?=ops[k+j]?)->chainB md l k prev=true ->
  (∀p,prev=some p->p<k/\WaitsAll md ops p)->(∀i,i<k->CallAt ops i->∃p,prev=some p/\i<=p) ->
  ∀j,k<=j->j<k+l.length->CallAt ops j->WaitsAll md ops j
 | [],k,_,_,_,_,_,j,h1,h2,_=>absurd h2 (by simp;omega)
 | x::l,k,prev,hl,hB,hp,hq,j,h1,h2,hj=>by
  have h0:ops[k]?=some x:=by simpa using (hl 0 (by simp)).symm
  have hl':∀j,j<l.length->l[j]?=ops[k+1+j]?:=λj hj=>by have:=hl (j+1) (by simpa using hj);simpa [bZ,iD 1 j] using this
  simp only [a6] at h2;unfold chainB at hB;by_cases hx:plainB x.op=true
  .rw [if_pos hx] at hB
   have hno:¬CallAt ops k:=by rintro⟨o',ho',hpo⟩;rw [h0] at ho';cases ho';rw [hx] at hpo;cases hpo
   have hjk:j≠k:=by rintro rfl;exact hno hj
   have hbel:∀i,i<k+1->CallAt ops i->i<k:=λi hi hc=>by
    by_cases hik:i=k
    .subst hik;exact absurd hc hno
    .omega
   cases prev with
   | none=>exact chain_all l (k+1) none hl' hB (λp h=>by cases h) (λi hi hc=>hq i (hbel i hi hc) hc) j (by omega) (by omega) hj
   | some p =>
    simp only at hB;obtain⟨hpk,hWp⟩:=hp p rfl
    have hall:∀i,i<k->CallAt ops i->i<=p:=λi hi hc=>by obtain⟨p',e,h⟩:=hq i hi hc;cases e;exact h
    by_cases hlk:linkTo md x p=true
    .rw [if_pos hlk] at hB;refine chain_all l (k+1) (some k) hl' hB (λp' h=>?_) (λi hi _=>⟨k,rfl,by omega⟩) j (by omega) (by omega) hj;cases h;exact⟨by omega,waitsAll_edge h0 (edge_of_link hlk) hpk hWp hall⟩
    .rw [if_neg hlk] at hB;refine chain_all l (k+1) (some p) hl' hB (λp' h=>?_) (λi hi hc=>⟨p,rfl,hall i (hbel i hi hc) hc⟩) j (by omega) (by omega) hj;cases h;exact⟨by omega,hWp⟩
  .rw [if_neg hx] at hB
   simp only [aN] at hB;have hWk:WaitsAll md ops k:=by
    cases prev with
    | none =>
     intro i hi hc
     obtain⟨p,e,_⟩:=hq i hi hc
     cases e
    | some p =>
     obtain⟨hpk,hWp⟩:=hp p rfl;refine waitsAll_edge h0 hB.1 hpk hWp (λi hi hc=>?_);obtain⟨p',e,h⟩:=hq i hi hc
     cases e
     exact h
   by_cases hjk:j=k
   .subst hjk;exact hWk
   .refine chain_all l (k+1) (some k) hl' hB.2 (λp' h=>?_) (λi hi _=>⟨k,rfl,by omega⟩) j (by omega) (by omega) hj;cases h;exact⟨by omega,hWk⟩
def chain_waits(hB:chainB md ops.toList 0 none=true)(j:Nat)(o:yk)(hj:ops[j]?=some o)(hpl:plainB o.op=false)(i:Nat)(hij:i<j)(hi:CallAt ops i):waitsT md ops (j-i) j i=true :=
 chain_all ops.toList 0 none (λj _=>by simp) hB (λp h=>by cases h) (λi hi=>absurd hi (by omega)) j (by omega) (by simpa using (bD.1 hj).1) ⟨o,hj,hpl⟩ i hij hi
def othersB(md:dP)(ops:zp)(o:yk)(k:Nat):zo->Bool
  | []=>true
  | x::l=>(edgeTo md x k||o.apart ops x)&&othersB md ops o k l
def headC(md:dP)(ops:zp):Nat->zo->Nat->Bool
  | 0,_,_=>true
  | _+1,[],_=>false
  | n+1,o::l,k=>o.after.all (λe=>!Region.binds md e||decide (e.on<k))&&othersB md ops o k l&&headC md ops n l (k+1)
def Inv(ops:zp)(k:Nat)(listed:zn):Prop:=∀j,j<ops.size->listed[j]?=some (decide (j<k))
def Inv.set{k:Nat}{listed:zn}(h:Inv ops k listed):Inv ops (k+1) (listed.setIfInBounds k true):=by
 intro j hj;rw [Array.getElem?_setIfInBounds];by_cases hjk:k=j
 .subst hjk;have h1:=h k hj;have hlt:=(bD.1 h1).1;rw [if_pos rfl,if_pos hlt];simp
 .rw [if_neg hjk,h j hj];congr 1;simp only [decide_eq_decide];omega
def Inv.start:Inv ops 0 (bB ops.size false):=by intro j hj;simp [hj]
theorem Inv.marks{listed:zn}:∀(n:Nat) {k:Nat} {listed:zn},Inv ops k listed->Inv ops (k+n) (marks n k listed)
 | 0,_,_,h=>h
 | n+1,k,_,h=>by
  have:=Inv.marks (listed:=listed) n h.set
  rwa [show k+1+n=k+(n+1) by omega] at this
def Inv.in_{k:Nat}{listed:zn}(h:Inv ops k listed){j:Nat}(hj:j<ops.size)(hk:j<k)(d:Bool):listed.getD j d=true:=by have h1:=h j hj;rw [bT,h1];simp [hk]
def Inv.out{k:Nat}{listed:zn}(h:Inv ops k listed){j:Nat}(hj:j<ops.size)(hk:k<=j)(d:Bool):listed.getD j d=false:=by have h1:=h j hj;rw [bT,h1];simp;omega
theorem others_spec{o:yk}{k:Nat}:∀{l:zo},othersB md ops o k l=true->∀x∈l,edgeTo md x k=true\/o.apart ops x=true
 | [],_,_,hx=>absurd hx (by simp)
 | y::l,h,x,hx=>by
  simp only [othersB,aN,dN] at h;rcases aH.1 hx with rfl|hx
  .exact h.1
  .exact others_spec h.2 x hx
theorem headB_of(hch:chainB md ops.toList 0 none=true):∀(n:Nat) (l:zo) (k:Nat) (listed:zn),Inv ops k listed->l=ops.toList.drop k->headC md ops n l k=true->headB md ops n k listed=true
 | 0,_,_,_,_,_,_=>rfl
 | n+1,[],_,_,_,_,h=>by cases h
 | n+1,o::l,k,listed,hI,hl,h=>by
  simp only [headC,aN] at h;obtain⟨⟨hr,ho⟩,hn⟩:=h;have hk:k<ops.size:=by have h1:=congrArg List.length hl;simp only [a6,cU,bG] at h1;omega
  have h2:ops.toList.drop k=ops.toList[k]'(by simpa using hk)::ops.toList.drop (k+1):=List.drop_eq_getElem_cons (by simpa using hk);rw [<-hl] at h2;injection h2 with h3 h4;have hko:ops[k]?=some o:=by rw [b8 hk,h3];simp
  unfold headB;simp only [aN];refine⟨⟨⟨?_,?_⟩,?_⟩,headB_of hch n l (k+1) _ hI.set h4 hn⟩
  .rw [List.contains_iff_mem];refine mem_ready.2 ⟨by rw [bT,hI k hk];simp,o,hko,λe he hb=>?_⟩;have h5:=Array.all_eq_true'.1 hr e he;simp only [hb,tI,Bool.false_or,decide_eq_true_eq] at h5;exact hI.in_ (by omega) h5 false
  .unfold Region.free
   simp only [hko];rw [b7];intro j hj;have hj':j<ops.size:=by simpa using hj
   simp only [dN,beq_iff_eq];by_cases hjk:j=k
   .exact .inl (.inl hjk)
   .by_cases hlt:j<k
    .exact .inl (.inr (hI.in_ hj' hlt true))
    .right
     have hx:ops[j]?=some ops[j]:=b8 hj';rw [hx];have hm:ops[j]∈l:=by rw [h4];rw [List.mem_iff_getElem?];exact⟨j-(k+1),by rw [lY,show k+1+(j-(k+1))=j by omega];simp [hj']⟩
     rcases others_spec ho _ hm with h6|h6
     .simp only [dN];exact .inl h6
     .simp only [dN];exact .inr h6
  .unfold setFree
   simp only [hko,dN];by_cases hp:plainB o.op=true
   .exact .inl hp
   .right
    rw [b7];intro j hj;have hj':j<ops.size:=by simpa using hj
    simp only [dN,beq_iff_eq];by_cases hjk:j=k
    .exact .inl (.inl (.inl hjk))
    .by_cases hlt:j<k
     .exact .inl (.inl (.inr (hI.in_ hj' hlt true)))
     .have hx:ops[j]?=some ops[j]:=b8 hj'
      by_cases hpj:plainB ops[j].op=true
      .right;rw [hx];exact hpj
      .left;right;exact waitsT_mono (by omega) (chain_waits hch j _ hx (by simpa using hpj) k (by omega) ⟨o,hko,by simpa using hp⟩)
def sinksC(md:dP)(ops:zp)(N:Nat):Bool:=match ops[N]? with
  | none=>true
  | some o=>(dV N).all λi=>edgeTo md o i||waitsT md ops (min 4 ops.size) N i
def tailC(ops:zp)(n k m:Nat):Bool :=
  iA ops&&headC .any ops n ops.toList 0&&chainB .any ops.toList 0 none&&decide (ops.size=m+k+n)&&sinksC .any ops (k+n) &&
    forcedB .any ops m (k+n) (marks k n (marks n 0 (bB ops.size false)))
def tail_ok{n k m:Nat}(h:tailC ops n k m=true):tailB ops n k m=true:=by
 simp only [tailC,aN,decide_eq_true_eq] at h;obtain⟨⟨⟨⟨⟨h1,h2⟩,h3⟩,h4⟩,h5⟩,h6⟩:=h;have hI1:Inv ops n (marks n 0 (bB ops.size false)):=by
  have:=Inv.marks (listed:=#[]) n (Inv.start (ops:=ops))
  rwa [aY] at this
 have hI2:Inv ops (k+n) (marks k n (marks n 0 (bB ops.size false))):=by
  have:=Inv.marks (listed:=#[]) k hI1
  rwa [iD n k] at this
 have hr:∀j∈a9 .any ops (marks k n (marks n 0 (bB ops.size false))),j=k+n:=by
  intro j hj;cases m with
  | zero =>
   simp only [forcedB,List.isEmpty_iff] at h6;rw [h6] at hj
   cases hj
  | succ m =>
   simp only [forcedB,aN,decide_eq_true_eq] at h6;rw [h6.1] at hj
   simpa using hj
 simp only [tailB,aN,decide_eq_true_eq];refine⟨⟨⟨⟨h1,headB_of h3 n ops.toList 0 _ Inv.start rfl h2⟩,h4⟩,?_⟩,h6⟩;unfold sinksB;rw [b7];intro j hj;have hjk:=hr j hj;subst hjk;obtain⟨_,o,ho,_⟩:=mem_ready.1 hj;unfold sinksC at h5;rw [ho] at h5;simp only [b7,iJ] at h5 ⊢;intro i hi;have hz:0<ops.size:=dC (aL _) (bD.1 ho).1;obtain⟨f,hf⟩:∃f,ops.size=f+1:=⟨ops.size-1,by omega⟩;have h7:=h5 i hi;simp only [dN] at h7;rcases h7 with h7|h7
 .rw [hf];exact waitsT_edge ho h7
 .exact waitsT_mono (Nat.min_le_right _ _) h7
end
def Own(f:yi):Prop:=∀(args:zr) (w:yp),(callFunc f args).run prog w = .ok (.enter f args) w
def run_call_fn{a:Act}{o:yk}{f:yi}{xs:zg}{ats:zf}(hf:Own f)(ho:o.op = .call { callee:=.value (.func f),args:=xs,argTypes:=ats })(w:yp) :
  (execOp a.eval o).run prog w = .ok (.enter f (xs.map a.eval)) w:=by
 obtain⟨dst,op,ty,pos,af,gd⟩:=o;simp only at ho;subst ho;have h:=hf (xs.map a.eval) w
 go_simp
def map_eval{a:Act}{xs:zg}{args:zr}(h:xs.toList.map a.eval=args.toList):xs.map a.eval=args:=by apply Array.toList_inj.1;rw [jD,h]
section
variable{ops:zp}{C0:zv}{Q:Act->Prop}{a:Act}{o:yk}{rest:zo}
def b_one{f:yi}{xs:zg}{ats:zf}{args:zr}{v:yl}(hg:aQ o (yielded ops a.tmps)=true)
 (hf:Own f)(hc:∀w,Calls prog f args w (λe w'=>e = .returned v/\Below w.heap.size w w'))
 (ho:o.op = .call { callee:=.value (.func f),args:=xs,argTypes:=ats })(hx:xs.toList.map a.eval=args.toList)(hk:wpB prog ops C0 Q rest (a.put o.dst v)):wpB prog ops C0 Q (o::rest) a :=
 b_call1 (f:=f) (args:=args) hg (λw _=>hc w) (λw=>by rw [run_call_fn hf ho,map_eval hx]) hk
end
def b_assign{P:ym}{ops:zp}{C0:zv}{Q:Act->Prop}{a:Act}{o:yk}{rest:zo}{x:yo}(hg:aQ o (yielded ops a.tmps)=true)(ho:o.op = .assign x)(hk:wpB P ops C0 Q rest (a.put o.dst (a.eval x))):wpB P ops C0 Q (o::rest) a :=
 b_val hg (λw _=>by unfold execOp;simp only [ho,aI]) hk
def stillG:Op->Bool
  | .buildSlice .. | .makeSlice .. | .sliceToArrayPointer .. | .makeFunc .. | .nilCheck _=>true
  | .call c=>match c.callee with | .builtin .len=>true|_=>false
  | o=>plainB o
def multiG:Op->Bool
  | .alloc _ | .box ..=>true
  | o=>multiB o
section
variable{P:ym}
def run_pureV{y:yl}{w w':yp}{n:Next}(h:(pure (mB y):Sem Next).run P w = .ok n w'):∃v,n = .value v:=by rw [aI] at h;injection h with h1 h2;exact⟨_,h1.symm⟩
def run_panic_no{w w':yp}{n:Next}(h:(runtimePanic .nilDeref:Sem Next).run P w = .ok n w'):False:=by simp [runtimePanic,goPanic] at h
theorem bind_ok{α β:Type}{s:Sem α}{f:α->Sem β}{n:β}{w w':yp}(h:(s >>= f).run P w = .ok n w'):∃a w1,(f a).run P w1 = .ok n w':=by
 rw [aG] at h;cases hs:s.run P w with
 | ok v w1 =>
  rw [hs] at h;exact⟨v,w1,h⟩
 | halt x w1 =>
  rw [hs] at h
  cases h
def nil_ok{ρ:yo->yl}{o:yk}{x:yo}(ho:o.op = .nilCheck x){w w':yp}{n:Next}(h:(execOp ρ o).run P w = .ok n w'):∃v,n = .value v:=by
 unfold execOp at h;rw [ho] at h;dsimp only at h;split at h
 .exact(run_panic_no h).elim
 .exact(run_panic_no h).elim
 .exact(run_panic_no h).elim
 .split at h
  .exact(run_panic_no h).elim
  .obtain⟨_,_,h⟩:=bind_ok h
   obtain⟨_,_,h⟩:=bind_ok h;split at h
   .obtain⟨_,_,h⟩:=bind_ok h;exact run_pureV h
   .exact run_pureV h
  .exact run_pureV h
 .exact run_pureV h
def still_ok{ρ:yo->yl}{o:yk}(hp:stillG o.op=true){w w':yp}{n:Next}(h:(execOp ρ o).run P w = .ok n w'):(∃v,n = .value v)\/n = .skip:=by
 by_cases hb:plainB o.op=true
 .exact plain_ok hb h
 obtain⟨dst,op,ty,pos,af,gd⟩:=o;cases op<;>first
  | (exfalso;exact hb hp)
  | exact .inl (run_v h)
  | exact .inl (nil_ok rfl h)
  | skip
 next c =>
  obtain⟨callee,args,ats⟩:=c
  cases callee with
  | builtin b =>
   cases b<;>first
    | (cases hp;done)
    | skip
   unfold execOp at h
   simp only [resolve,invoke,builtin,aG,aI,aC] at h;refine .inl ?_
   revert h
   generalize Sem.run P _ w=r
   intro h
   cases r with
   | ok v w1 =>
    simp only [aC] at h
    injection h with h1 h2
    exact⟨v,h1.symm⟩
   | halt x w1=>simp [Result.andThen] at h
  | _=>cases hp
end
class RelOk (Rel:yp->zv):Prop where
  below:∀w w',Below w.heap.size w w'->Rel w w'
def Bel(w w':yp):Prop:=Below w.heap.size w w'
instance:RelOk Bel:=⟨λ_ _ h=>h⟩
def uponG(P:ym)(Rel:yp->zv)(w:yp)(V:yl->zv):Result Next->Prop
  | .ok (.value u) w'=>Rel w w'/\V u w'
  | .ok .skip w'=>Rel w w'/\V undef w'
  | .ok (.enter f args) w'=>w'=w/\Calls P f args w (λe w''=>∃v,e = .returned v/\Rel w w''/\V v w'')
  | _=>False
def Pers(Rel:yp->zv)(p:zv):Prop:=∀w w',p w->Rel w w'->p w'
abbrev Facts:=Nat->zv
def upF(F:Facts)(k:Nat)(p:zv):Facts:=λj=>if j=k then p else F j
def upF_same(F:Facts)(k:Nat)(p:zv):upF F k p k=p:=if_pos rfl
def upF_ne{F:Facts}{k j:Nat}{p:zv}(h:j≠k):upF F k p j=F j:=if_neg h
def stepG(P:ym)(Rel:yp->zv)(C0:zv)(F:Facts)(o:yk)(a:Act)(next:zv->Act->Prop):Prop :=
  ∃V:yl->zv,(∀v,Pers Rel (V v))/\((∃v,∀u w,V u w->u=v)\/multiG o.op=true) /\
    (∀w,C0 w->(∀e∈o.after,c7 .any e=true->F e.on w)->uponG P Rel w V ((execOp a.eval o).run P w)) /\
    ∀v w,C0 w->(∀k,F k w)->V v w->next (V v) (a.put o.dst v)
def wpG(P:ym)(Rel:yp->zv)(ops:zp)(C0:zv)(Q:Facts->Act->Prop):List (Nat×yk)->Facts->Act->Prop
  | [],F,a=>Q F a
  | x::l,F,a=>if aQ x.2 (yielded ops a.tmps) then stepG P Rel C0 F x.2 a (λp a'=>wpG P Rel ops C0 Q l (upF F x.1 p) a') else wpG P Rel ops C0 Q l (upF F x.1 λ_=>True) (a.put x.2.dst undef)
section
variable{P:ym}{Rel:yp->zv}{ops:zp}{C0:zv}{Q:Facts->Act->Prop}
theorem wpG_mono(hQ:∀F F' a,(∀k w,F' k w->F k w)->Q F a->Q F' a):∀(l:List (Nat×yk)) (F F':Facts) (a:Act),(∀k w,F' k w->F k w)->wpG P Rel ops C0 Q l F a->wpG P Rel ops C0 Q l F' a
 | [],F,F',a,h,hh=>hQ F F' a h hh
 | x::l,F,F',a,h,hh=>by
  have hup:∀p,∀k w,upF F' x.1 p k w->upF F x.1 p k w:=λp k w h'=>by
   by_cases e:k=x.1
   .subst e
    rwa [upF_same] at h' ⊢
   .rw [upF_ne e] at h' ⊢;exact h k w h'
  unfold wpG at hh ⊢;split
  .rename_i hw;rw [if_pos hw] at hh;obtain⟨V,h1,h2,h3,h4⟩:=hh;exact⟨V,h1,h2,λw hw he=>h3 w hw λe hm hb=>h _ _ (he e hm hb),λv w hw hF hV=>wpG_mono hQ l _ _ _ (hup _) (h4 v w hw (λk=>h k w (hF k)) hV)⟩
  .rename_i hw;rw [if_neg hw] at hh;exact wpG_mono hQ l _ _ _ (hup _) hh
structure GoodF(Rel:yp->zv)(C0:zv)(F:Facts)(w:yp):Prop where
  pers:∀k,Pers Rel (F k)
  cls:C0 w
  all:∀k,F k w
def GoodF.up{F:Facts}{w w':yp}{k:Nat}{p:zv}(h:GoodF Rel C0 F w)(hp:Pers Rel p)(hC:C0 w')(hF:∀k,F k w')(hpw:p w'):GoodF Rel C0 (upF F k p) w':=by
 refine⟨λj=>?_,hC,λj=>?_⟩
 .by_cases e:j=k
  .subst e;rw [upF_same];exact hp
  .rw [upF_ne e];exact h.pers j
 .by_cases e:j=k
  .subst e;rw [upF_same];exact hpw
  .rw [upF_ne e];exact hF j
def Unl(l:List (Nat×yk))(F:Facts):Prop:=∀x∈l,∀w,F x.1 w
def Unl.up{l:List (Nat×yk)}{F:Facts}{k:Nat}{p:zv}(h:Unl l F)(hk:k∉l.map (·.1)):Unl l (upF F k p):=λx hx w=>by have e:x.1≠k:=λe=>hk (aZ.2 ⟨x,hx,e⟩);rw [upF_ne e];exact h x hx w
theorem uponG.any{w:yp}{V:yl->zv}{r:Result Next}(h:uponG P Rel w V r):∃v w',Rel w w'/\V v w':=by
 cases r with
 | ok n w' =>
  cases n<;>simp only [uponG] at h
  case value u=>exact⟨u,w',h⟩
  case skip=>exact⟨_,w',h⟩
  case enter f args =>
   obtain⟨e,w1,fr,⟨v,_,h1,h2⟩,_⟩:=h.2 [];exact⟨v,w1,h1,h2⟩
 | halt x w'=>simp only [uponG] at h
def wpG_cons{x:Nat×yk}{l l':List (Nat×yk)}{F:Facts}{a:Act}{w0:yp}(hG:GoodF Rel C0 F w0)(hU:Unl l F)(hx:x.1∉l.map (·.1))
 (h:∀F a w,GoodF Rel C0 F w->Unl l F->wpG P Rel ops C0 Q l F a->wpG P Rel ops C0 Q l' F a)(hh:wpG P Rel ops C0 Q (x::l) F a):wpG P Rel ops C0 Q (x::l') F a:=by
 unfold wpG at hh ⊢
 split
 .rename_i hw;rw [if_pos hw] at hh;obtain⟨V,h1,h2,h3,h4⟩:=hh;exact⟨V,h1,h2,h3,λv w hw hF hV=>h _ _ w (hG.up (h1 v) hw hF hV) (hU.up hx) (h4 v w hw hF hV)⟩
 .rename_i hw;rw [if_neg hw] at hh;exact h _ _ w0 (hG.up (λ_ _ _ _=>trivial) hG.cls hG.all trivial) (hU.up hx) hh
structure PairG(ops:zp)(x y:Nat×yk):Prop where
  ne:x.1≠y.1
  apart:x.2.apart ops y.2=true
  noY:∀e∈y.2.after,c7 .any e=true->e.on≠x.1
  noX:∀e∈x.2.after,c7 .any e=true->e.on≠y.1
  kind:stillG y.2.op=true\/multiG x.2.op=false
  selX:∀cs b,x.2.op ≠ .select cs b
  selY:∀cs b,y.2.op ≠ .select cs b
def swapG(hcl:∀w w',C0 w->Rel w w'->C0 w')(hQ:∀F F' a,(∀k w,F' k w->F k w)->Q F a->Q F' a){x y:Nat×yk}{l:List (Nat×yk)}{F:Facts}{a:Act}{w0:yp}(hp:PairG ops x y)(hG:GoodF Rel C0 F w0)(hj:∀w,F y.1 w)
 (h:wpG P Rel ops C0 Q (x::y::l) F a):wpG P Rel ops C0 Q (y::x::l) F a:=by
 obtain⟨i,oi⟩:=x;obtain⟨j,oj⟩:=y;obtain⟨hne,hap,hed,hed2,hkd,hsi,hsj⟩:=hp;obtain⟨h1,h2,h3⟩:=Oper.apart_spec hap
 dsimp only at *
 have hwj:∀v,aQ oj (yielded ops (a.put oi.dst v).tmps)=aQ oj (yielded ops a.tmps):=λv=>wanted_put oj a oi.dst v h1;have hwi:∀v,aQ oi (yielded ops (a.put oj.dst v).tmps)=aQ oi (yielded ops a.tmps):=λv=>wanted_put oi a oj.dst v h3;have hcomm:∀v u,(a.put oi.dst v).put oj.dst u=(a.put oj.dst u).put oi.dst v:=λv u=>j6 a v u h2
 have hupc:∀(p q:zv),upF (upF F i p) j q=upF (upF F j q) i p:=λp q=>by
  funext k;by_cases e:k=i
  .subst e;rw [upF_same,upF_ne hne,upF_same]
  .by_cases e2:k=j
   .subst e2;rw [upF_same,upF_ne e,upF_same]
   .rw [upF_ne e2,upF_ne e,upF_ne e,upF_ne e2]
 by_cases wi:aQ oi (yielded ops a.tmps)=true
 .unfold wpG at h
  rw [if_pos wi] at h;obtain⟨Vx,pX,kX,yX,nX⟩:=h;by_cases wj:aQ oj (yielded ops a.tmps)=true
  .obtain⟨v0,w1,hb1,hV1⟩:=(yX w0 hG.cls (λe _ _=>hG.all e.on)).any
   have hC1:=hcl _ _ hG.cls hb1;have hF1:∀k,F k w1:=λk=>hG.pers k _ _ (hG.all k) hb1;have key:∀v,(∃w,C0 w/\(∀k,F k w)/\Vx v w)->stepG P Rel C0 (upF F i (Vx v)) oj (a.put oi.dst v) (λp a'=>wpG P Rel ops C0 Q l (upF (upF F i (Vx v)) j p) a'):=by
    rintro v ⟨w,hw,hF,hV⟩;have h5:=nX v w hw hF hV;unfold wpG at h5
    rwa [hwj,if_pos wj] at h5
   have key':∀v,∃V:yl->zv,(∃w,C0 w/\(∀k,F k w)/\Vx v w)->(∀v,Pers Rel (V v))/\((∃v,∀u w,V u w->u=v)\/multiG oj.op=true) /\
     (∀w,C0 w->(∀e∈oj.after,c7 .any e=true->upF F i (Vx v) e.on w)->uponG P Rel w V ((execOp (a.put oi.dst v).eval oj).run P w)) /\
     ∀u w,C0 w->(∀k,upF F i (Vx v) k w)->V u w->wpG P Rel ops C0 Q l (upF (upF F i (Vx v)) j (V u)) ((a.put oi.dst v).put oj.dst u):=λv=>by
    by_cases hv:∃w,C0 w/\(∀k,F k w)/\Vx v w
    .obtain⟨V,hV⟩:=key v hv;exact⟨V,λ_=>hV⟩
    .exact⟨λ_ _=>True,λh=>absurd h hv⟩
   clear key;obtain⟨Vy,hy⟩:=Classical.axiomOfChoice key';clear key';have hv0:∃w,C0 w/\(∀k,F k w)/\Vx v0 w:=⟨w1,hC1,hF1,hV1⟩;unfold wpG;rw [if_pos wj];refine⟨λu w=>∀v,(∃w,C0 w/\(∀k,F k w)/\Vx v w)->Vy v u w,λu w w' h hb v hv=>(hy v hv).1 u w w' (h v hv) hb,?_,?_,?_⟩
   .rcases(hy v0 hv0).2.1 with⟨u0,hu⟩|hm
    .exact .inl ⟨u0,λu w h=>hu u w (h v0 hv0)⟩
    .exact .inr hm
   .intro w hw hpre
    have hr:∀v,(∃w,C0 w/\(∀k,F k w)/\Vx v w)->uponG P Rel w (Vy v) ((execOp a.eval oj).run P w):=λv hv=>by
     have h5:=(hy v hv).2.2.1 w hw (λe he hb=>by rw [upF_ne (hed e he hb)];exact hpre e he hb)
     rwa [execOp_put oj hsj a oi.dst v h1] at h5
    have hst:=λn w'=>still_ok (P:=P) (ρ:=a.eval) (o:=oj) (w:=w) (w':=w') (n:=n);generalize (execOp a.eval oj).run P w=r at *;cases r with
    | ok n w' =>
     cases n
     case value u=>exact⟨(hr v0 hv0).1,λv hv=>(hr v hv).2⟩
     case skip=>exact⟨(hr v0 hv0).1,λv hv=>(hr v hv).2⟩
     case enter f args =>
      rcases hkd with hkd|hkd
      .rcases hst _ _ hkd rfl with⟨v,hv⟩|hv<;>cases hv
      .rcases kX with⟨vv,hvv⟩|hm
       .obtain⟨e1,hc⟩:=hr v0 hv0;refine⟨e1,hc.mono λe w'' ⟨u,he,hb,hV⟩=>⟨u,he,hb,λv hv=>?_⟩⟩;obtain⟨w3,_,_,hv3⟩:=hv;have e2:v=v0:=(hvv _ _ hv3).trans (hvv _ _ hV1).symm;rw [e2];exact hV
       .rw [hkd] at hm;cases hm
     all_goals exact absurd (hr v0 hv0) (by simp [uponG])
    | halt x w'=>exact absurd (hr v0 hv0) (by simp [uponG])
   .intro u w hw hF hVu
    unfold wpG;rw [hwi,if_pos wi];refine⟨Vx,pX,kX,?_,?_⟩
    .intro w2 hw2 hpre;rw [execOp_put oi hsi a oj.dst u h3];exact yX w2 hw2 (λe he hb=>by have h5:=hpre e he hb;rwa [upF_ne (hed2 e he hb)] at h5)
    .intro v w2 hw2 hF2 hV2
     have hFw2:∀k,F k w2:=λk=>by
      by_cases e:k=j
      .subst e;exact hj w2
      .have h5:=hF2 k
       rwa [upF_ne e] at h5
     have hv:∃w,C0 w/\(∀k,F k w)/\Vx v w:=⟨w2,hw2,hFw2,hV2⟩;have hVy:Vy v u w2:=by have h5:=hF2 j;rw [upF_same] at h5;exact h5 v hv
     have h6:=(hy v hv).2.2.2 u w2 hw2 (λk=>by
      by_cases e:k=i
      .subst e;rw [upF_same];exact hV2
      .rw [upF_ne e];exact hFw2 k) hVy
     rw [hcomm,hupc] at h6;refine wpG_mono hQ l _ _ _ (λk w h7=>?_) h6;by_cases e:k=i
     .subst e
      rwa [upF_same] at h7 ⊢
     .rw [upF_ne e] at h7 ⊢
      by_cases e2:k=j
      .subst e2;rw [upF_same] at h7 ⊢;exact h7 v hv
      .rwa [upF_ne e2] at h7 ⊢
  .unfold wpG
   rw [if_neg wj];unfold wpG;rw [hwi,if_pos wi];refine⟨Vx,pX,kX,?_,?_⟩
   .intro w2 hw2 hpre;rw [execOp_put oi hsi a oj.dst undef h3];exact yX w2 hw2 (λe he hb=>by have h5:=hpre e he hb;rwa [upF_ne (hed2 e he hb)] at h5)
   .intro v w2 hw2 hF2 hV2
    have h5:=nX v w2 hw2 (λk=>by
     by_cases e:k=j
     .subst e;exact hj w2
     .have h5:=hF2 k
      rwa [upF_ne e] at h5) hV2
    unfold wpG at h5;rw [hwj,if_neg wj,hcomm,hupc] at h5;exact h5
 .unfold wpG at h
  rw [if_neg wi] at h;unfold wpG at h;by_cases wj:aQ oj (yielded ops a.tmps)=true
  .rw [hwj,if_pos wj] at h
   obtain⟨Vy,pY,kY,yY,nY⟩:=h;unfold wpG;rw [if_pos wj];refine⟨Vy,pY,kY,?_,?_⟩
   .intro w hw hpre
    have h5:=yY w hw (λe he hb=>by rw [upF_ne (hed e he hb)];exact hpre e he hb)
    rwa [execOp_put oj hsj a oi.dst undef h1] at h5
   .intro u w hw hF hV
    have h5:=nY u w hw (λk=>by
     by_cases e:k=i
     .subst e;rw [upF_same];trivial
     .rw [upF_ne e];exact hF k) hV
    unfold wpG;rw [hwi,if_neg wi];rw [hcomm,hupc] at h5;exact h5
  .rw [hwj,if_neg wj] at h;unfold wpG;rw [if_neg wj];unfold wpG;rw [hwi,if_neg wi];rw [hcomm,hupc] at h;exact h
theorem frontG(hcl:∀w w',C0 w->Rel w w'->C0 w')(hQ:∀F F' a,(∀k w,F' k w->F k w)->Q F a->Q F' a)(y:Nat×yk)(l2:List (Nat×yk)):∀(l1:List (Nat×yk)) (F:Facts) (a:Act) (w0:yp),(∀x∈l1,PairG ops x y)->((l1++y::l2).map (·.1)).Nodup ->
  GoodF Rel C0 F w0->Unl (l1++y::l2) F->wpG P Rel ops C0 Q (l1++y::l2) F a->wpG P Rel ops C0 Q (y::(l1++l2)) F a
 | [],F,a,w0,_,_,_,_,h=>h
 | x::l1,F,a,w0,hp,hnd,hG,hU,h=>by
  have hnd2:x.1∉(l1++y::l2).map (·.1)/\((l1++y::l2).map (·.1)).Nodup:=by simpa [fV] using hnd
  have h':wpG P Rel ops C0 Q (x::(y::(l1++l2))) F a :=
   wpG_cons (l:=l1++y::l2) hG (λz hz=>hU z (aK _ hz)) hnd2.1
    (λF a w hG hU h=>frontG hcl hQ y l2 l1 F a w (λz hz=>hp z (aK _ hz)) hnd2.2 hG hU h) h
  exact swapG hcl hQ (hp x (by simp)) hG (hU y (by simp)) h'
end
section
variable{ops:zp}{C0:zv}{Q:Act->Prop}{a:Act}{o:yk}{rest:zo}
def b_oneC{f:yi}{xs:zg}{ats:zf}{args:zr}{v:yl}(hg:aQ o (yielded ops a.tmps)=true)
 (hf:Own f)(hc:∀w,C0 w->Calls prog f args w (λe w'=>e = .returned v/\Below w.heap.size w w'))
 (ho:o.op = .call { callee:=.value (.func f),args:=xs,argTypes:=ats })(hx:xs.toList.map a.eval=args.toList)(hk:wpB prog ops C0 Q rest (a.put o.dst v)):wpB prog ops C0 Q (o::rest) a :=
 b_call1 (f:=f) (args:=args) hg hc (λw=>by rw [run_call_fn hf ho,map_eval hx]) hk
end
section
variable{ops:zp}{C0:zv}{Q:Act->Prop}{a:Act}{o:yk}{rest:zo}
def b_callV{f:yi}{xs:zg}{ats:zf}{args:zr}(V:yl->Prop)(hg:aQ o (yielded ops a.tmps)=true)
 (hf:Own f)(hc:∀w,C0 w->Calls prog f args w (λe w'=>∃v,e = .returned v/\V v/\Below w.heap.size w w'))
 (ho:o.op = .call { callee:=.value (.func f),args:=xs,argTypes:=ats })(hx:xs.toList.map a.eval=args.toList)(hk:∀v,V v->wpB prog ops C0 Q rest (a.put o.dst v)):wpB prog ops C0 Q (o::rest) a :=
 b_call (f:=f) (args:=args) V hg (by rw [ho];rfl) hc (λw=>by rw [run_call_fn hf ho,map_eval hx]) hk
end
def look:List (Nat×yl)->Nat->Option yl
  | [],_=>none
  | (k,v)::r,j=>match bW k j with
    | true=>some v
    | false=>look r j
def look_cons(k j:Nat)(v:yl)(r:List (Nat×yl)):look ((k,v)::r) j=if k=j then some v else look r j:=by
 show(match bW k j with|true=>some v|false=>look r j)=_;by_cases h:k=j
 .subst h;rw [if_pos rfl,Nat.beq_refl]
 .rw [if_neg h]
  cases e:bW k j with
  | true=>exact absurd (aO e) h
  | false=>rfl
def ev(E:List (Nat×yl)):yo->Option yl
  | .tmp t=>look E t
  | .const v=>some v
  | .global g=>some (.pointer (some ⟨g,0,none⟩))
  | .func f=>some (.func (.func f) #[] #[])
def Sub:List (Nat×yl)->List (Nat×yl)->Prop
  | [],_=>True
  | p::r,E=>look E p.1=some p.2/\Sub r E
structure Fr(N:Nat)(E:List (Nat×yl))(a:Act):Prop where
  size:a.tmps.size=N
  defers:a.defers=[]
  get:∀k v,look E k=some v->a.eval (.tmp k)=v
section
variable{N:Nat}{E E':List (Nat×yl)}{a:Act}
theorem Fr.eval(h:Fr N E a){x:yo}{v:yl}(hx:ev E x=some v):a.eval x=v:=by
 cases x with
 | tmp t=>exact h.get t v hx
 | const u=>exact bQ hx
 | global g=>exact bQ hx
 | func f=>exact bQ hx
def Fr.put(h:Fr N E a){k:Nat}(hk:aU k N=true)(v:yl):Fr N ((k,v)::E) (a.put (some k) v):=by
 have hk:k<N:=by simpa using hk
 refine⟨by simp [nA,h.size],h.defers,λj u hj=>?_⟩;rw [look_cons] at hj;have hs:k<a.tmps.size:=by rw [h.size];exact hk
 by_cases e:k=j
 .subst e;rw [if_pos rfl] at hj;cases hj;simp [nA,oU,hs]
 .rw [if_neg e] at hj;have h1:=h.get j u hj;simp only [nA,oU,bT] at h1 ⊢;rw [j5 (by omega)];exact h1
theorem Fr.sub(h:Fr N E a)(hs:Sub E' E):Fr N E' a:=by
 refine⟨h.size,h.defers,?_⟩;induction E' with
 | nil=>intro k v hk;cases hk
 | cons p r ih =>
  intro k v hk
  obtain⟨j,u⟩:=p;rw [look_cons] at hk
  by_cases e:j=k
  .subst e;rw [if_pos rfl] at hk;cases hk;exact h.get _ _ hs.1
  .rw [if_neg e] at hk;exact ih hs.2 k v hk
def Fr.start{args:zr}{n:Nat}(h:args.size+n=N)(E:List (Nat×yl))(hE:∀k v,look E k=some v->args[k]?=some v) :
  Fr N E { tmps:=args++bB n undef,defers:=[] }:=by
 refine⟨by simp [h],rfl,λk v hk=>?_⟩;have h1:=hE k v hk;have h2:=(bD.1 h1).1;simp only [oU,bT];rw [Array.getElem?_append_left h2,h1]
 rfl
end
def cF(P:ym)(c:Code)(Q:zx)(N:Nat)(E:List (Nat×yl))(w:yp):Prop:=∀a,Fr N E a->c.wp P Q a w
def bF(P:ym)(ops:zp)(C0:zv)(Q:Act->Prop)(l:zo)(N:Nat)(E:List (Nat×yl)):Prop:=∀a,Fr N E a->wpB P ops C0 Q l a
def lF(P:ym)(ops:zp)(Q:zx)(l:zo)(N:Nat)(E:List (Nat×yl))(w:yp):Prop:=∀a,Fr N E a->wpList P ops Q l a w
def kF(K:zw)(N:Nat)(E:List (Nat×yl))(w:yp):Prop:=∀a,Fr N E a->K a w
section
variable{P:ym}{Q:zx}{N:Nat}{E E':List (Nat×yl)}{w:yp}
def c_seq{x y:Code}(h:∀K:zw,(∀E' w',cF P y Q N E' w'->kF K N E' w')->cF P x (Exit.then K Q) N E w):cF P (.seq x y) Q N E w:=λa ha =>
 wp_seq_k λK hK=>h K (λ_ _ h' a' ha'=>hK _ _ (h' a' ha')) a ha
def c_ret(h:kF (Q .ret) N E w):cF P .ret Q N E w:=λa ha=>wp_ret (h a ha)
def least{σ:Type}(m:σ->Nat)(p:σ->Prop):(∃s,p s)->∃s,p s/\∀s',p s'->m s<=m s':=by
 rintro⟨s,hs⟩;have key:∀n s,m s<=n->p s->∃s,p s/\∀s',p s'->m s<=m s':=by
  intro n;induction n with
  | zero=>exact λs hn hs=>⟨s,hs,λs' _=>by omega⟩
  | succ n ih =>
   intro s hn hs
   by_cases h:∃s',p s'/\m s'<m s
   .obtain⟨s',h1,h2⟩:=h;exact ih s' (by omega) h1
   .exact⟨s,hs,λs' h1=>by
     by_cases h2:m s'<m s
     .exact absurd ⟨s',h1,h2⟩ h
     .omega⟩
 exact key (m s) s (aF _) hs
open Classical in
theorem c_loop{σ:Type}{c:Code}(m:σ->Nat)(F:σ->List (Nat×yl))(R:σ->zv)
 (round:∀s w,R s w->cF P c (Exit.then (λa' w'=>∃s',R s' w'/\Fr N (F s') a'/\m s'<m s) Q) N (F s) w)(s0:σ)(h0:R s0 w):cF P (.loop c) Q N (F s0) w:=λa ha=>by
 let T:Act->yp->σ->Prop:=λa w s=>R s w/\Fr N (F s) a
 let μ:Act->yp->Nat:=λa w=>if h:∃s,T a w s then m (pK (least m (T a w) h)) else 0
 have hμ:∀a w (h:∃s,T a w s),∃s,T a w s/\(∀s',T a w s'->m s<=m s')/\μ a w=m s:=λa w h=>by refine⟨pK (least m (T a w) h),(sR (least m (T a w) h)).1,(sR (least m (T a w) h)).2,?_⟩;show(if h:∃s,T a w s then m (pK (least m (T a w) h)) else 0)=_;rw [dif_pos h]
 refine wp_loop (λa w=>∃s,T a w s) μ ⟨s0,h0,ha⟩ λa w hI=>?_;obtain⟨s,hs,_,e⟩:=hμ a w hI;refine wp_mono (round s w hs.1 a hs.2) λx a' w' hx=>?_
 cases x with
 | normal =>
  obtain⟨s',h1,h2,h3⟩:=hx;have hI':∃s,T a' w' s:=⟨s',h1,h2⟩;obtain⟨s2,hs2,hm2,e2⟩:=hμ a' w' hI';refine⟨hI',?_⟩;rw [e,e2];exact dC (hm2 s' ⟨h1,h2⟩) h3
 | exit _=>exact hx
 | goto _=>exact hx
 | ret=>exact hx
 | panic _=>exact hx
 | outgrown=>exact hx
end
section
variable{P:ym}{Q:zx}{N:Nat}{E:List (Nat×yl)}{w:yp}{id:Nat}{l:zo}
def c_qF(h:bF P l.toArray (Up w) (λa'=>∀w',Up w w'->Q .normal a' w') l N E):cF P (.region id l.toArray false) Q N E w:=λa ha=>reg_qF (h a ha)
def c_tF(n:Nat)(h:bF P l.toArray (Up w) (λa'=>∀w',Up w w'->wpList P l.toArray Q (l.drop n) a' w') (l.take n) N E):cF P (.region id l.toArray false) Q N E w:=λa ha=>reg_tailF n (h a ha)
def c_lit(h:lF P l.toArray Q l N E w):cF P (.region id l.toArray false) Q N E w:=λa ha=>wp_region_lit (h a ha)
end
section
variable{P:ym}{ops:zp}{C0:zv}{Q:Act->Prop}{N:Nat}{E:List (Nat×yl)}{o:yk}{rest:zo}{k:Nat}
def f_val(v:yl)(hg:o.guard=none)(hd:o.dst=some k)(hk:aU k N=true)(h:∀a,Fr N E a->∀w,C0 w->(execOp a.eval o).run P w = .ok (.value v) w)(hn:bF P ops C0 Q rest N ((k,v)::E)) :
  bF P ops C0 Q (o::rest) N E:=λa ha=>b_val (by simp [aQ,hg]) (h a ha) (by rw [hd];exact hn _ (ha.put hk v))
def f_move{x:yo}(v:yl)(hg:o.guard=none)(hd:o.dst=some k)(hk:aU k N=true)(ho:o.op = .move x)(hx:ev E x=some v)(hn:bF P ops C0 Q rest N ((k,v)::E)):bF P ops C0 Q (o::rest) N E :=
 f_val v hg hd hk (λa ha w _=>by have h1:=ha.eval hx;unfold execOp;simp only [ho,h1,aI]) hn
def f_assign{x:yo}(v:yl)(hg:o.guard=none)(hd:o.dst=some k)(hk:aU k N=true)(ho:o.op = .assign x)(hx:ev E x=some v)(hn:bF P ops C0 Q rest N ((k,v)::E)):bF P ops C0 Q (o::rest) N E :=
 f_val v hg hd hk (λa ha w _=>by have h1:=ha.eval hx;unfold execOp;simp only [ho,h1,aI]) hn
end
def f_end{P:ym}{ops:zp}{Q:zx}{N:Nat}{E:List (Nat×yl)}{w:yp}(h:∀w',Up w w'->kF (Q .normal) N E w') :
  bF P ops (Up w) (λa'=>∀w',Up w w'->Q .normal a' w') [] N E:=λa ha=>wpB_nil λw' hw'=>h w' hw' a ha
section
variable{ops:zp}{C0:zv}{Q:Act->Prop}{N:Nat}{E:List (Nat×yl)}{o:yk}{rest:zo}{k:Nat}
def f_call{f:yi}{xs:zg}{ats:zf}(args:zr)(v:yl)(hg:o.guard=none)(hd:o.dst=some k)(hk:aU k N=true)
 (hf:Own f)(hc:∀w,C0 w->Calls prog f args w (λe w'=>e = .returned v/\Below w.heap.size w w'))
 (ho:o.op = .call { callee:=.value (.func f),args:=xs,argTypes:=ats })(hx:xs.toList.map (ev E)=args.toList.map some)(hn:bF prog ops C0 Q rest N ((k,v)::E)):bF prog ops C0 Q (o::rest) N E:=λa ha=>by
 refine b_oneC (v:=v) (args:=args) (by simp [aQ,hg]) hf hc ho ?_ (by rw [hd];exact hn _ (ha.put hk v))
 have key:∀(l:List yo) (m:zq),l.map (ev E)=m.map some->l.map a.eval=m:=by
  intro l;induction l with
  | nil=>intro m h;cases m with
   | nil=>rfl
   | cons=>cases h
  | cons y l ih=>intro m h;cases m with
   | nil=>cases h
   | cons u m =>
    simp only [bA,fO] at h ⊢;exact⟨ha.eval h.1,ih m h.2⟩
 exact key _ _ hx
end
inductive Waits (ops:zp):Nat->zm
  | edge {j i:Nat} {o:yk} (hj:ops[j]?=some o) (h:edgeTo .any o i=true):Waits ops j i
  | via {j m i:Nat} {o:yk} (hj:ops[j]?=some o) (h:edgeTo .any o m=true) (hm:Waits ops m i):Waits ops j i
def edgeTo_spec{o:yk}{i:Nat}(h:edgeTo .any o i=true):∃e∈o.after,c7 .any e=true/\e.on=i:=by unfold edgeTo at h;obtain⟨e,he,hb⟩:=dF.1 h;simp only [aN,beq_iff_eq] at hb;exact⟨e,he,hb.1,hb.2⟩
theorem Closed.waits'{ops:zp}{listed:zn}(hc:Closed .any ops listed){j i:Nat}(h:Waits ops j i):∀o,ops[j]?=some o->(∀e∈o.after,c7 .any e=true->listed.getD e.on false=true)->listed.getD i false=true:=by
 induction h with
 | edge hj h =>
  intro o ho hl
  obtain rfl:=bQ (hj.symm.trans ho);obtain⟨e,he,hb,rfl⟩:=edgeTo_spec h;exact hl e he hb
 | @via j m i o' hj h hm ih =>
  intro o ho hl
  obtain rfl:=bQ (hj.symm.trans ho);obtain⟨e,he,hb,rfl⟩:=edgeTo_spec h;have h1:=hl e he hb
  obtain⟨om,hom⟩:∃om,ops[e.on]?=some om:=by cases hm with
   | edge hj _=>exact⟨_,hj⟩
   | via hj _ _=>exact⟨_,hj⟩
  exact ih om hom (hc _ om hom h1)
def maskE(ms:zj):List Edge->Nat
  | []=>0
  | e::l=>if c7 .any e then(2^e.on ||| ms.getD e.on 0) ||| maskE ms l else maskE ms l
def maskL:zo->zj->zj
  | [],ms=>ms
  | o::l,ms=>maskL l (ms++[maskE ms o.after.toList])
theorem maskE_spec{ms:zj}{i:Nat}:∀{l:List Edge},(maskE ms l).testBit i=true->∃e∈l,c7 .any e=true/\(e.on=i\/∃b,ms[e.on]?=some b/\b.testBit i=true)
 | [],h=>by simp [maskE] at h
 | e::l,h=>by
  unfold maskE at h;split at h
  .rename_i hb
   rw [Nat.testBit_or,Nat.testBit_or] at h;simp only [dN] at h;rcases h with(h|h)|h
   .refine⟨e,by simp,hb,.inl ?_⟩;rw [Nat.testBit_two_pow] at h;simpa using h
   .refine⟨e,by simp,hb,.inr ?_⟩
    rw [List.getD_eq_getElem?_getD] at h;cases hm:ms[e.on]? with
    | none=>rw [hm] at h;simp at h
    | some b=>rw [hm] at h;exact⟨b,rfl,h⟩
   .obtain⟨e',he,h'⟩:=maskE_spec h;exact⟨e',aK _ he,h'⟩
  .obtain⟨e',he,h'⟩:=maskE_spec h;exact⟨e',aK _ he,h'⟩
def OkM(ops:zp)(ms:zj):Prop:=∀j b i:Nat,ms[j]?=some b->b.testBit i=true->Waits ops j i
theorem maskL_ok{ops:zp}:∀(l:zo) (ms:zj),(∀j,j<l.length->l[j]?=ops[ms.length+j]?)->OkM ops ms->OkM ops (maskL l ms)
 | [],_,_,h=>h
 | o::l,ms,hl,h=>by
  unfold maskL;refine maskL_ok l _ (λj hj=>?_) ?_
  .have:=hl (j+1) (by simpa using hj);simpa [bZ,iD 1 j] using this
  .intro j b i hj hb
   rw [List.getElem?_append] at hj;split at hj
   .exact h j b i hj hb
   .rename_i hlt
    have h0:j-ms.length=0:=by
     by_cases e:j-ms.length=0
     .exact e
     .exfalso;obtain⟨k,hk⟩:∃k,j-ms.length=k+1:=⟨j-ms.length-1,by omega⟩;rw [hk] at hj;simp at hj
    obtain rfl:j=ms.length:=by omega
    rw [h0] at hj;simp only [bR,a8] at hj;subst hj;have ho:ops[ms.length]?=some o:=by simpa using (hl 0 (by simp)).symm
    obtain⟨e,he,hbd,h5⟩:=maskE_spec hb;have he':e∈o.after:=by simpa using he
    have hed:edgeTo .any o e.on=true:=by unfold edgeTo;exact dF.2 ⟨e,he',by simp [hbd]⟩
    rcases h5 with rfl|⟨b,hb1,hb2⟩
    .exact .edge ho hed
    .exact .via ho hed (h _ b i hb1 hb2)
def othersH(ops:zp)(o:yk)(k:Nat):zo->zj->Bool
  | [],_=>true
  | _::_,[]=>false
  | x::l,m::ms=>(m.testBit k||(o.apart ops x&&(stillG x.op || !multiG o.op)))&&othersH ops o k l ms
def headH(ops:zp):zo->zj->Nat->Bool
  | [],_,_=>true
  | _::_,[],_=>false
  | o::l,_::ms,k=>o.after.all (λe=>!Region.binds .any e||decide (e.on<k))&&othersH ops o k l ms&&headH ops l ms (k+1)
def tailH(ops:zp)(n m:Nat):Bool :=
  iA ops&&headH ops (ops.toList.take n) (maskL ops.toList []) 0&&(match (maskL ops.toList [])[n]? with|none=>true|some b=>(dV n).all b.testBit) &&
    decide (ops.size=m+n)&&forcedB .any ops m n (marks n 0 (bB ops.size false))
theorem others_ok{ops:zp}{o:yk}{k:Nat}:∀{l:zo} {ms:zj},othersH ops o k l ms=true->∀(j:Nat) (x:yk),l[j]?=some x->∃m,ms[j]?=some m/\(m.testBit k=true\/(o.apart ops x=true/\(stillG x.op=true\/multiG o.op=false)))
 | [],_,_,j,x,hx=>by simp at hx
 | _::_,[],h,_,_,_=>by cases h
 | y::l,m::ms,h,0,x,hx=>by simp only [bR,a8] at hx;subst hx;simp only [othersH,aN,dN,Bool.not_eq_true'] at h;exact⟨m,rfl,h.1⟩
 | y::l,m::ms,h,j+1,x,hx=>by simp only [othersH,aN] at h;obtain⟨m',h1,h2⟩:=others_ok h.2 j x (by simpa using hx);exact⟨m',by simpa using h1,h2⟩
theorem head_ok{ops:zp}:∀{l:zo} {ms:zj} {k:Nat},headH ops l ms k=true->∀(i j:Nat) (x y:yk),i<j->l[i]?=some x->l[j]?=some y->∃m,ms[j]?=some m/\(m.testBit (k+i)=true\/(x.apart ops y=true/\(stillG y.op=true\/multiG x.op=false)))
 | [],_,_,_,i,_,x,_,_,hx,_=>by simp at hx
 | _::_,[],_,h,_,_,_,_,_,_,_=>by cases h
 | o::l,m::ms,k,h,0,0,x,y,hij,_,_=>absurd hij (by omega)
 | o::l,m::ms,k,h,0,j+1,x,y,_,hx,hy=>by simp only [headH,aN] at h;simp only [bR,a8] at hx;subst hx;obtain⟨m',h1,h2⟩:=others_ok h.1.2 j y (by simpa using hy);exact⟨m',by simpa using h1,h2⟩
 | o::l,m::ms,k,h,i+1,0,x,y,hij,_,_=>absurd hij (by omega)
 | o::l,m::ms,k,h,i+1,j+1,x,y,hij,hx,hy=>by simp only [headH,aN] at h;obtain⟨m',h1,h2⟩:=head_ok h.2 i j x y (by omega) (by simpa using hx) (by simpa using hy);exact⟨m',by simpa using h1,by rwa [show k+(i+1)=k+1+i by omega]⟩
theorem head_low{ops:zp}:∀{l:zo} {ms:zj} {k:Nat},headH ops l ms k=true->∀(i:Nat) (x:yk),l[i]?=some x->∀e∈x.after,c7 .any e=true->e.on<k+i
 | [],_,_,_,i,x,hx=>by simp at hx
 | _::_,[],_,h,_,_,_=>by cases h
 | o::l,m::ms,k,h,0,x,hx=>λe he hb=>by simp only [headH,aN] at h;simp only [bR,a8] at hx;subst hx;have h5:=Array.all_eq_true'.1 h.1.1 e he;simpa [hb] using h5
 | o::l,m::ms,k,h,i+1,x,hx=>λe he hb=>by simp only [headH,aN] at h;have:=head_low h.2 i x (by simpa using hx) e he hb;omega
structure Pend(ops:zp)(n:Nat)(l:List (Nat×yk))(listed:zn):Prop where
  size:listed.size=ops.size
  mem:∀x∈l,ops[x.1]?=some x.2/\x.1<n/\listed.getD x.1 true=false
  out:∀j o,j<n->ops[j]?=some o->listed.getD j true=false->(j,o)∈l
  tail:∀j,n<=j->j<ops.size->listed.getD j true=false
  sort:l.Pairwise λx y=>x.1<y.1
  closed:Closed .any ops listed
def getD_in{listed:zn}{j:Nat}(h:j<listed.size):listed.getD j true=listed.getD j false:=by simp only [bT];rw [b8 h];rfl
def Pend.step{ops:zp}{n i:Nat}{o:yk}{l1 l2:List (Nat×yk)}{listed:zn}(h:Pend ops n (l1++(i,o)::l2) listed)(hr:i∈a9 .any ops listed):Pend ops n (l1++l2) (listed.setIfInBounds i true):=by
 have hs:=h.sort;rw [lX,cH] at hs;have hm:=h.mem (i,o) (by simp);have hil:i<listed.size:=by rw [h.size];exact(bD.1 hm.1).1
 refine⟨by rw [sY,h.size],λx hx=>?_,λj o' hj ho hl=>?_,λj hj hjs=>?_,?_,h.closed.set hr⟩
 .have hne:i≠x.1:=by
   rcases bK.1 hx with h1|h1
   .have:=hs.2.2 x h1 (i,o) (by simp);dsimp only at this;omega
   .have:=hs.2.1.1 x h1;dsimp only at this;omega
  obtain⟨h1,h2,h3⟩:=h.mem x (by
   rcases bK.1 hx with h1|h1
   .exact jA _ h1
   .exact lI _ (aK _ h1))
  exact⟨h1,h2,by rw [getD_set_ne true hne];exact h3⟩
 .by_cases e:i=j
  .subst e;simp [hil] at hl
  .rw [getD_set_ne true e] at hl
   have h1:=h.out j o' hj ho hl;rcases bK.1 h1 with h2|h2
   .exact jA _ h2
   .rcases aH.1 h2 with h3|h3
    .injection h3 with h4 h5;exact absurd h4.symm e
    .exact lI _ h3
 .rw [getD_set_ne true (by have:=hm.2.1;dsimp only at this;omega)];exact h.tail j hj hjs
 .exact h.sort.sublist (List.Sublist.append (List.Sublist.refl _) (List.sublist_cons_self _ _))
def endG(P:ym)(ops:zp)(Q:zx)(C0:zv)(T:zo)(F:Facts)(a:Act):Prop:=∀w,C0 w->(∀k,F k w)->wpList P ops Q T a w
def endG_mono{P:ym}{ops:zp}{Q:zx}{C0:zv}{T:zo}:∀(F F':Facts) (a:Act),(∀k w,F' k w->F k w)->endG P ops Q C0 T F a->endG P ops Q C0 T F' a :=
 λ_ _ _ h hh w hw hF=>hh w hw λk=>h k w (hF k)
section
variable{P:ym}{Rel:yp->zv}{ops:zp}{Q:zx}{C0:zv}
theorem reg_any(hcl:∀w w',C0 w->Rel w w'->C0 w'){n:Nat}{T:zo}(hB:tailH ops n T.length=true)(hT:∀j,j<T.length->T[j]?=ops[n+j]?) :
  ∀(N:Nat) (l:List (Nat×yk)) (listed:zn) (F:Facts) (a:Act) (w:yp),l.length=N->Pend ops n l listed->GoodF Rel C0 F w->Unl l F ->
   wpG P Rel ops C0 (endG P ops Q C0 T) l F a->wpAny P .any ops Q (T.length+N) listed a w:=by
 simp only [tailH,aN,decide_eq_true_eq] at hB;obtain⟨⟨⟨⟨hsel,hh⟩,hsk⟩,hsz⟩,hf⟩:=hB;have hM:OkM ops (maskL ops.toList []):=maskL_ok ops.toList [] (λj _=>by simp) (λj b i hj=>by simp at hj)
 have htk:∀(j:Nat) (o:yk),j<n->ops[j]?=some o->(ops.toList.take n)[j]?=some o:=λj o hj ho=>by rw [dT,if_pos hj];simpa using ho
 have hI:Inv ops n (marks n 0 (bB ops.size false)):=by
  have:=Inv.marks (listed:=#[]) n (Inv.start (ops:=ops))
  rwa [aY] at this
 intro N
 induction N with
 | zero =>
  intro l listed F a w hl hP hG hU h
  obtain rfl:=bE hl
  have e:listed=marks n 0 (bB ops.size false):=by
   have hms:∀(k m:Nat) (x:zn),(marks k m x).size=x.size:=by
    intro k;induction k with
    | zero=>intro m x;rfl
    | succ k ih=>intro m x;rw [marks,ih,sY]
   refine Array.ext (by rw [hms,hP.size,Array.size_replicate]) λj h1 h2=>?_;have hj:j<ops.size:=by rw [<-hP.size];exact h1
   have h3:=hI j hj;rw [b8 h2] at h3;injection h3 with h3;rw [h3];have h4:listed.getD j true=listed[j]:=by simp only [bT];rw [b8 h1];rfl
   by_cases hjn:j<n
   .rw [decide_eq_true hjn]
    cases hv:listed[j] with
    | true=>rfl
    | false =>
     have h5:=hP.out j ops[j] hjn (b8 hj) (h4.trans hv)
     simp at h5
   .rw [decide_eq_false hjn,<-h4];exact hP.tail j (by omega) hj
  exact wpAny_forced T n listed a w hT (by rw [e];exact hf) (h w hG.cls hG.all)
 | succ N ih =>
  intro l listed F a w hl hP hG hU h
  obtain⟨x0,l0,rfl⟩:∃x l',l=x::l':=by cases l with
   | nil=>simp at hl
   | cons x l=>exact⟨x,l,rfl⟩
  have hm0:=hP.mem x0 (by simp);have hs0:=cH.1 hP.sort
  have hx0:x0.1∈a9 .any ops listed:=by
   refine mem_ready.2 ⟨hm0.2.2,x0.2,hm0.1,λe he hb=>?_⟩;have hlow:=head_low hh x0.1 x0.2 (htk _ _ hm0.2.1 hm0.1) e he hb;rw [aY] at hlow;have hes:e.on<ops.size:=Nat.lt_trans hlow (bD.1 hm0.1).1;cases hv:listed.getD e.on false with
   | true=>rfl
   | false =>
    rw [<-getD_in (by rw [hP.size];exact hes)] at hv;have h5:=hP.out e.on ops[e.on] (by omega) (b8 hes) hv
    rcases aH.1 h5 with h6|h6
    .rw [<-h6] at hlow;exact absurd hlow (by simp)
    .have:=hs0.1 _ h6;dsimp only at this;omega
  refine⟨λh0=>(by rw [h0] at hx0;cases hx0),λi hi=>?_⟩;obtain⟨hiu,o,hio,hall⟩:=mem_ready.1 hi;have his:=(bD.1 hio).1
  have hin:i<n:=by
   by_cases hin:i<n
   .exact hin
   .exfalso
    have hr:i∈a9 .any ops (marks n 0 (bB ops.size false)):=mem_ready.2 ⟨hI.out his (by omega) true,o,hio,λe he hb=>by
     have h5:=hall e he hb;have hes:e.on<ops.size:=by
      rcases Nat.lt_or_ge e.on listed.size with h6|h6
      .rw [<-hP.size];exact h6
      .simp [Array.getElem?_eq_none h6] at h5
     by_cases hen:e.on<n
     .exact hI.in_ hes hen false
     .have h6:=hP.tail e.on (by omega) hes;rw [getD_in (by rw [hP.size];exact hes),h5] at h6;cases h6⟩
    have hw:Waits ops i x0.1:=by
     cases hTl:T.length with
     | zero =>
      rw [hTl] at hf;simp only [forcedB,List.isEmpty_iff] at hf;rw [hf] at hr
      cases hr
     | succ m =>
      rw [hTl] at hf;simp only [forcedB,aN,decide_eq_true_eq] at hf;rw [hf.1,aD] at hr;subst hr
      cases hms:(maskL ops.toList [])[i]? with
      | none =>
       exfalso
       have hlen:∀(l:zo) (ms:zj),(maskL l ms).length=l.length+ms.length:=by
        intro l;induction l with
        | nil=>intro ms;simp [maskL]
        | cons o l ih=>intro ms;rw [maskL,ih];simp;omega
       rw [List.getElem?_eq_none_iff,hlen] at hms
       simp at hms
       omega
      | some b =>
       rw [hms] at hsk;simp only [b7,iJ] at hsk;exact hM i b x0.1 hms (hsk x0.1 hm0.2.1)
    have h7:=hP.closed.waits' hw o hio hall;have h8:=getD_ready hx0;rw [h7] at h8;cases h8
  have hil:(i,o)∈x0::l0:=hP.out i o hin hio hiu;generalize x0::l0=l at *;clear hm0 hs0 hx0;obtain⟨l1,l2,rfl⟩:=List.append_of_mem hil;have hs:=hP.sort;have hs':=hs;rw [lX,cH] at hs';have hnd:((l1++(i,o)::l2).map (·.1)).Nodup:=List.Pairwise.map _ (λ_ _ h=>Nat.ne_of_lt h) hs
  have hp:∀x∈l1,PairG ops x (i,o):=λx hx=>by
   have hlt:=hs'.2.2 x hx (i,o) (by simp);dsimp only at hlt;have hm:=hP.mem x (jA _ hx);have hxu:=hm.2.2;have hxs:x.1<listed.size:=by rw [hP.size];exact(bD.1 hm.1).1
   rw [getD_in hxs] at hxu;obtain⟨m,h1,h2⟩:=head_ok hh x.1 i x.2 o hlt (htk _ _ hm.2.1 hm.1) (htk _ _ hin hio);rw [aY] at h2;have h3:x.2.apart ops o=true/\(stillG o.op=true\/multiG x.2.op=false):=by
    rcases h2 with h2|h2
    .have h7:=hP.closed.waits' (hM i m x.1 h1 h2) o hio hall;rw [h7] at hxu;cases hxu
    .exact h2
   refine⟨Nat.ne_of_lt hlt,h3.1,λe he hb hon=>?_,λe he hb hon=>?_,h3.2,λcs b=>eN hsel x.1 x.2 cs b hm.1,λcs b=>eN hsel i o cs b hio⟩
   .have h7:=hall e he hb;rw [hon,hxu] at h7;cases h7
   .have h7:=head_low hh x.1 x.2 (htk _ _ hm.2.1 hm.1) e he hb;dsimp only at hon;omega
  have h9:=frontG hcl endG_mono (i,o) l2 l1 F a w hp hnd hG hU h;have hP':=hP.step hi
  have hU':Unl (l1++l2) F:=λx hx=>hU x (by
   rcases bK.1 hx with h1|h1
   .exact jA _ h1
   .exact lI _ (aK _ h1))
  have hi':i∉(l1++l2).map (·.1):=λhmem=>by
   obtain⟨x,hx,hxi⟩:=aZ.1 hmem;rcases bK.1 hx with h1|h1
   .have:=hs'.2.2 x h1 (i,o) (by simp);dsimp only at this hxi;omega
   .have:=hs'.2.1.1 x h1;dsimp only at this hxi;omega
  have hlen:(l1++l2).length=N:=by simp only [aA,a6] at hl ⊢;omega
  unfold wpOp
  simp only [hio]
  unfold wpG at h9
  dsimp only at h9
  split
  .rename_i hw
   rw [if_pos hw] at h9;obtain⟨V,hpv,_,hy,hn⟩:=h9;refine .inl ?_;have h3:=hy w hG.cls (λe _ _=>hG.all e.on);have fin:∀u w',Rel w w'->V u w'->wpAny P .any ops Q (T.length+N) (listed.setIfInBounds i true) (a.put o.dst u) w':=λu w' hb hV=>by have hC:=hcl _ _ hG.cls hb;have hF:∀k,F k w':=λk=>hG.pers k _ _ (hG.all k) hb;exact ih (l1++l2) _ _ _ w' hlen hP' (hG.up (hpv u) hC hF hV) (hU'.up hi') (hn u w' hC hF hV)
   unfold fT;generalize (execOp a.eval o).run P w=r at *;cases r with
   | ok n w' =>
    cases n<;>simp only [uponG] at h3<;>simp only [fB]
    case value u=>exact fin u w' h3.1 h3.2
    case skip=>exact fin _ w' h3.1 h3.2
    case enter f args =>
     obtain⟨e1,hc⟩:=h3;rw [e1]
     exact hc.mono λe w'' ⟨v,he,hb,hV⟩=>by subst he;exact fin v w'' hb hV
   | halt x w'=>simp only [uponG] at h3
  .rename_i hw;rw [if_neg hw] at h9;exact ih (l1++l2) _ _ _ w hlen hP' (hG.up (λ_ _ _ _=>trivial) hG.cls hG.all trivial) (hU'.up hi') h9
theorem reg_text(hcl:∀w w',C0 w->Rel w w'->C0 w'){T:zo}:∀(l:List (Nat×yk)) (F:Facts) (a:Act) (w:yp),GoodF Rel C0 F w->wpG P Rel ops C0 (endG P ops Q C0 T) l F a->wpList P ops Q (l.map (·.2)++T) a w
 | [],F,a,w,hG,h=>h w hG.cls hG.all
 | x::l,F,a,w,hG,h=>by
  rw [bA,qH];unfold wpList;unfold wpG at h;split
  .rename_i hw
   rw [if_pos hw] at h;obtain⟨V,hpv,_,hy,hn⟩:=h;refine .inl ?_;have h3:=hy w hG.cls (λe _ _=>hG.all e.on);have fin:∀u w',Rel w w'->V u w'->wpList P ops Q (l.map (·.2)++T) (a.put x.2.dst u) w':=λu w' hb hV=>by have hC:=hcl _ _ hG.cls hb;have hF:∀k,F k w':=λk=>hG.pers k _ _ (hG.all k) hb;exact reg_text hcl l _ _ w' (hG.up (hpv u) hC hF hV) (hn u w' hC hF hV)
   unfold fT;generalize (execOp a.eval x.2).run P w=r at *;cases r with
   | ok n w' =>
    cases n<;>simp only [uponG] at h3<;>simp only [fB]
    case value u=>exact fin u w' h3.1 h3.2
    case skip=>exact fin _ w' h3.1 h3.2
    case enter f args =>
     obtain⟨e1,hc⟩:=h3;rw [e1]
     exact hc.mono λe w'' ⟨v,he,hb,hV⟩=>by subst he;exact fin v w'' hb hV
   | halt x w'=>simp only [uponG] at h3
  .rename_i hw;rw [if_neg hw] at h;exact reg_text hcl l _ _ w (hG.up (λ_ _ _ _=>trivial) hG.cls hG.all trivial) h
end
def idx:Nat->zo->List (Nat×yk)
  | _,[]=>[]
  | k,o::l=>(k,o)::idx (k+1) l
theorem idx_map:∀(k:Nat) (l:zo),(idx k l).map (·.2)=l
 | _,[]=>rfl
 | k,o::l=>by rw [idx,bA,idx_map]
theorem idx_len:∀(k:Nat) (l:zo),(idx k l).length=l.length
 | _,[]=>rfl
 | k,o::l=>by rw [idx,a6,idx_len,a6]
theorem idx_mem:∀{k:Nat} {l:zo} {x:Nat×yk},x∈idx k l->k<=x.1/\l[x.1-k]?=some x.2
 | _,[],_,h=>by simp [idx] at h
 | k,o::l,x,h=>by
  rcases aH.1 h with rfl|h
  .exact⟨aF _,by simp⟩
  .obtain⟨h1,h2⟩:=idx_mem h;refine⟨by omega,?_⟩;rw [show x.1-k=x.1-(k+1)+1 by omega];simpa using h2
theorem mem_idx:∀{k:Nat} {l:zo} {j:Nat} {o:yk},l[j]?=some o->(k+j,o)∈idx k l
 | _,[],_,_,h=>by simp at h
 | k,x::l,0,o,h=>by simp only [bR,a8] at h;subst h;exact aM
 | k,x::l,j+1,o,h=>by have h1:=mem_idx (k:=k+1) (l:=l) (j:=j) (o:=o) (by simpa using h);rw [show k+(j+1)=k+1+j by omega];exact aK _ h1
theorem idx_sort:∀(k:Nat) (l:zo),(idx k l).Pairwise λx y=>x.1<y.1
 | _,[]=>pJ
 | k,o::l=>qV (λx hx=>by have:=(idx_mem hx).1;dsimp only;omega) (idx_sort (k+1) l)
abbrev Told:=List (Nat×zv)
def lookP:Told->Nat->Option zv
  | [],_=>none
  | (k,p)::r,j=>match bW k j with
    | true=>some p
    | false=>lookP r j
def farP(i:Nat)(Fa:Told):Bool:=Fa.all λx=>!Nat.beq x.1 i
def Tell(Fa:Told)(F:Facts):Prop:=∀x∈Fa,∀w,F x.1 w->x.2 w
theorem lookP_mem:∀{Fa:Told} {j:Nat} {p:zv},lookP Fa j=some p->(j,p)∈Fa
 | [],_,_,h=>by cases h
 | (k,q)::r,j,p,h=>by
  unfold lookP at h;split at h
  .rename_i e;obtain rfl:=aO e;cases h;exact aM
  .exact aK _ (lookP_mem h)
def Tell.up{Fa:Told}{F:Facts}{i:Nat}{p:zv}(h:Tell Fa F)(hf:farP i Fa=true):Tell Fa (upF F i p):=λx hx w hw=>by
 have h1:=b7.1 hf x hx;have e:x.1≠i:=by rintro rfl;simp at h1
 rw [upF_ne e] at hw;exact h x hx w hw
def Tell.more{Fa:Told}{F:Facts}{i:Nat}{p:zv}(h:Tell Fa F)(hf:farP i Fa=true):Tell ((i,p)::Fa) (upF F i p):=λx hx w hw=>by
 rcases aH.1 hx with rfl|hx
 .rwa [upF_same] at hw
 .exact h.up hf x hx w hw
def gF(P:ym)(Rel:yp->zv)(ops:zp)(C0:zv)(Q:Facts->Act->Prop)(l:List (Nat×yk))(N:Nat)(E:List (Nat×yl))(Fa:Told):Prop :=
  ∀a F,Fr N E a->Tell Fa F->wpG P Rel ops C0 Q l F a
def Uses(o:yk)(Fa:Told)(w:yp):Prop:=∀j p,lookP Fa j=some p->edgeTo .any o j=true->p w
section
variable{P:ym}{Rel:yp->zv}{C0:zv}{Q:zx}{N:Nat}{E:List (Nat×yl)}{w:yp}{id:Nat}{l:zo}
def c_gR(n:Nat)(hcl:∀w w',C0 w->Rel w w'->C0 w')(h0:C0 w.drew)(hn:n<=l.length)(hm:P.follows .mixedOrders=true)(hB:tailH l.toArray n (l.drop n).length=true)
 (h:gF P Rel l.toArray C0 (endG P l.toArray Q C0 (l.drop n)) (idx 0 (l.take n)) N E []):cF P (.region id l.toArray true) Q N E w:=λa ha=>by
 refine wp_region_any hm ?_
 have hL:(l.take n).length=n:=by rw [aV];omega
 have hG:GoodF Rel C0 (λ_ _=>True) w.drew:=⟨λ_ _ _ _ _=>trivial,h0,λ_=>trivial⟩
 have hP:Pend l.toArray n (idx 0 (l.take n)) (bB l.toArray.size false):=by
  refine⟨by simp,λx hx=>?_,λj o hj ho _=>?_,λj _ hj=>by
   have hj':j<l.length:=by simpa using hj
   simp [hj'],idx_sort _ _,Closed.none _⟩
  .obtain⟨_,h2⟩:=idx_mem hx
   rw [Nat.sub_zero,dT] at h2;split at h2
   .rename_i hlt;have h3:x.1<l.length:=(aP.1 h2).1;exact⟨by simpa using h2,hlt,by simp [h3]⟩
   .cases h2
  .have h1:=mem_idx (k:=0) (l:=l.take n) (j:=j) (o:=o) (by rw [dT,if_pos hj];simpa using ho)
   rwa [aY] at h1
 have h2:=reg_any (Q:=Q) hcl hB (λj _=>by simp) n (idx 0 (l.take n)) _ _ a w.drew (by rw [idx_len,hL]) hP hG (λ_ _ _=>trivial) (h a _ ha (λx hx=>by cases hx))
 have e:(l.drop n).length+n=l.toArray.size:=by simp;omega
 rw [e] at h2;exact h2
def c_gRF(n:Nat)(hcl:∀w w',C0 w->Rel w w'->C0 w')(h0:C0 w)(h:gF P Rel l.toArray C0 (endG P l.toArray Q C0 (l.drop n)) (idx 0 (l.take n)) N E []):cF P (.region id l.toArray false) Q N E w:=λa ha=>by refine wp_region_lit ?_;have hG:GoodF Rel C0 (λ_ _=>True) w:=⟨λ_ _ _ _ _=>trivial,h0,λ_=>trivial⟩;have h2:=reg_text (Q:=Q) hcl (idx 0 (l.take n)) _ a w hG (h a _ ha (λx hx=>by cases hx));rw [idx_map,b6] at h2;exact h2
end
section
variable{P:ym}{Q:zx}{N:Nat}{E:List (Nat×yl)}{w:yp}{id:Nat}{l:zo}
def c_g(n:Nat)(hn:n<=l.length)(hm:P.follows .mixedOrders=true)(hB:tailH l.toArray n (l.drop n).length=true)
 (h:gF P Bel l.toArray (Up w) (endG P l.toArray Q (Up w) (l.drop n)) (idx 0 (l.take n)) N E []):cF P (.region id l.toArray true) Q N E w:=c_gR (Rel:=Bel) (C0:=Up w) n (λ_ _ h k=>Up.step h k) (Up.drew w) hn hm hB h
def c_gF(n:Nat)(h:gF P Bel l.toArray (Up w) (endG P l.toArray Q (Up w) (l.drop n)) (idx 0 (l.take n)) N E []):cF P (.region id l.toArray false) Q N E w:=c_gRF (Rel:=Bel) (C0:=Up w) n (λ_ _ h k=>Up.step h k) (Up.refl w) h
end
section
variable{P:ym}{Rel:yp->zv}{ops:zp}{C0:zv}{Q:Facts->Act->Prop}{N:Nat}{E:List (Nat×yl)}{Fa:Told}{o:yk}{rest:List (Nat×yk)}{i k:Nat}
def g_mem(V:yl->zv)(hg:o.guard=none)(hd:o.dst=some k)(hk:aU k N=true)(hf:farP i Fa=true)(hm:multiG o.op=true)(hp:∀v,Pers Rel (V v))
 (h:∀a,Fr N E a->∀w,C0 w->Uses o Fa w->uponG P Rel w V ((execOp a.eval o).run P w))(hn:∀v w,C0 w->V v w->gF P Rel ops C0 Q rest N ((k,v)::E) ((i,V v)::Fa)):gF P Rel ops C0 Q ((i,o)::rest) N E Fa:=λa F ha hF=>by
 unfold wpG
 rw [if_pos (by simp [aQ,hg])];refine⟨V,hp,.inr hm,λw hw he=>h a ha w hw λj p hj hed=>?_,λv w hw _ hV=>hn v w hw hV _ _ (by dsimp only;rw [hd];exact ha.put hk v) (hF.more hf)⟩;obtain⟨e,h1,h2,rfl⟩:=edgeTo_spec hed;exact hF _ (lookP_mem hj) w (he e h1 h2)
def g_op[hR:RelOk Rel](hf:farP i Fa=true)(h:bF P ops (λw=>C0 w/\Uses o Fa w) (λa'=>∀F,Tell Fa F->wpG P Rel ops C0 Q rest F a') [o] N E):gF P Rel ops C0 Q ((i,o)::rest) N E Fa:=λa F ha hF=>by
 have h1:=h a ha;unfold wpB at h1;unfold wpG;split
 .rename_i hw
  rw [if_pos hw] at h1;have huse:∀w,(∀e∈o.after,c7 .any e=true->F e.on w)->Uses o Fa w:=λw he j p hj hed=>by obtain⟨e,h1,h2,rfl⟩:=edgeTo_spec hed;exact hF _ (lookP_mem hj) w (he e h1 h2)
  have hup:∀(V:yl->Prop) (w:yp) (r:Result Next),uponB P w V r->uponG P Rel w (λu _=>V u) r:=λV w r hr=>by
   cases r with
   | ok n w' =>
    cases n<;>simp only [uponB] at hr<;>simp only [uponG]
    case value u=>obtain⟨rfl,h⟩:=hr;exact⟨hR.below _ _ (Below.refl _ _),h⟩
    case skip=>obtain⟨rfl,h⟩:=hr;exact⟨hR.below _ _ (Below.refl _ _),h⟩
    case enter f args =>
     obtain⟨rfl,h⟩:=hr;exact⟨rfl,h.mono λe w'' ⟨v,h1,h2,h3⟩=>⟨v,h1,hR.below _ _ h3,h2⟩⟩
   | halt x w'=>simp only [uponB] at hr
  rcases h1 with⟨v,h2,h3⟩|⟨hp,V,h2,h3⟩
  .exact⟨λu _=>u=v,λ_ _ _ h _=>h,.inl ⟨v,λ_ _ h=>h⟩,λw hw he=>hup (· = v) _ _ (h2 w ⟨hw,huse w he⟩),λu w _ _ hu=>by rw [hu];exact h3 _ (hF.up hf)⟩
  .refine⟨λu _=>V u,λ_ _ _ h _=>h,.inr ?_,λw hw he=>hup V _ _ (h2 w ⟨hw,huse w he⟩),λu w _ _ hu=>h3 u hu _ (hF.up hf)⟩;unfold multiG;split<;>first|rfl|exact hp
 .rename_i hw;rw [if_neg hw] at h1;exact h1 _ (hF.up hf)
def g_go(h:gF P Rel ops C0 Q rest N E Fa):bF P ops (λw=>C0 w/\Uses o Fa w) (λa'=>∀F,Tell Fa F->wpG P Rel ops C0 Q rest F a') [] N E:=λa ha=>wpB_nil λF hF=>h a F ha hF
def g_end{Q:zx}{T:zo}(h:∀w,C0 w->(∀j p,lookP Fa j=some p->p w)->lF P ops Q T N E w):gF P Rel ops C0 (endG P ops Q C0 T) [] N E Fa:=λa _ ha hF w hw hFw =>
 h w hw (λj _ hj=>hF _ (lookP_mem hj) w (hFw j)) a ha
end
def Us(l:zj):zq:=l.map λx:Nat=>.int .u64 (x:Int)
def Us_len(l:zj):(Us l).length=l.length:=by simp [Us]
def Us_one(l:zj):∀u∈Us l,u.oneCell'=true:=by intro u hu;obtain⟨x,_,rfl⟩:=aZ.1 hu;rfl
def Us_at{l:zj}{j:Nat}(h:j<l.length):(Us l).toArray[j]?=some (.int .u64 (l[j]! : Nat)):=by simp [Us,h]
def Us_set(l:zj)(k x:Nat):(Us l).toArray.setIfInBounds k (.int .u64 (x:Int))=(Us (l.set k x)).toArray:=by simp [Us,dR]
def maskW(a:Nat)(ha:a<18446744073709551616):bits .and .u64 (a:Int) 2251799813685247=((a%2251799813685248:Nat):Int):=by have h:=u64_and_nat a 2251799813685247 ha (by omega);have e:a &&& 2251799813685247=a%2251799813685248:=iB a 51;rw [e] at h;exact h
def orW(i x y:Nat)(hx:x%2^i=0)(hy:y<2^i)(h1:x<18446744073709551616)(h2:y<18446744073709551616):bits .or .u64 (x:Int) (y:Int)=((x+y:Nat):Int):=by rw [u64_or_nat x y h1 h2,nat_join i x y hx hy]
def mask32(a:Nat)(ha:a<18446744073709551616):bits .and .u64 (a:Int) 4294967295=((a%4294967296:Nat):Int):=by have h:=u64_and_nat a 4294967295 ha (by omega);have e:a &&& 4294967295=a%4294967296:=iB a 32;rw [e] at h;exact h
def div32(a:Nat):(a:Int)/4294967296=((a/4294967296:Nat):Int):=by omega
def div51(a:Nat):(a:Int)/2251799813685248=((a/2251799813685248:Nat):Int):=by omega
def mulN(a b:Nat):(a:Int)*(b:Int)=((a*b:Nat):Int):=(Int.natCast_mul a b).symm
def addN(a b:Nat):(a:Int)+(b:Int)=((a+b:Nat):Int):=(Int.natCast_add a b).symm
def wrapN(a:Nat)(ha:a<18446744073709551616):IntKind.u64.wrap (a:Int)=(a:Int):=by rw [bH];omega
def wrapM(a:Nat):IntKind.u64.wrap (a:Int)=((a%18446744073709551616:Nat):Int):=by rw [bH];omega
def subEntry:zr->Sem yl:=λargs=>do
  let (x,y,b) <-Extern.MathBitsCarry.three "Sub64" args
  pure (Extern.MathBitsCarry.pair ((x+n8-y-b)%n8) (if x<y+b then 1 else 0))
def run_sub{P:ym}(x y b:Nat)(hb:b<=1)(w:yp) :
  (subEntry #[.int .u64 x,.int .u64 y,.int .u64 b]).run P w =
   .ok (.tuple #[.int .u64 (((x+18446744073709551616-y-b)%18446744073709551616:Nat):Int),.int .u64 ((if x<y+b then 1 else 0:Nat):Int)]) w:=by
 have:b=0\/b=1:=by omega
 rcases this with rfl|rfl<;>rfl
def fb(l:zu)(n:Nat):zu:=(dV 32).map λm=>if m<n then l[m]! else 0
def fb_len(l:zu)(n:Nat):(fb l n).length=32:=by simp [fb]
def fb_zero(l:zu):fb l 0=aB 32 0:=by apply c8 (by simp [fb]);intro i h1 h2;rw [List.getElem_replicate];simp [fb]
def fb_all{l:zu}(h:l.length=32):fb l 32=l:=by
 apply c8 (by simp [fb,h]);intro i h1 h2;have h3:i<32:=by simpa [fb] using h1
 simp [fb,h3,h2]
def fb_set(l:zu){n:Nat}:(fb l n).set n l[n]! = fb l (n+1):=by
 apply c8 (by simp [fb]);intro j h1 h2;rw [List.getElem_set];simp only [fb,List.getElem_map,List.getElem_range];by_cases hjk:n=j
 .subst hjk;simp
 .rw [if_neg hjk]
  by_cases hlt:j<n
  .rw [if_pos hlt,if_pos (by omega)]
  .rw [if_neg hlt,if_neg (by omega)]
def wd(L k:Nat):Nat:=L/18446744073709551616^k%18446744073709551616
def wd_byte(L k j:Nat)(hj:j<8):wd L k/2^(8*j)%256=L/256^(8*k+j)%256:=by
 have e1:(256:Nat)^(8*k+j)=18446744073709551616^k*256^j:=by rw [Nat.pow_add,nP]
 have e2:(2:Nat)^(8*j)=256^j:=by rw [nP]
 rw [e1,e2,<-Nat.div_div_eq_div_mul];unfold wd;generalize L/18446744073709551616^k=z;have h8:j=0\/j=1\/j=2\/j=3\/j=4\/j=5\/j=6\/j=7:=by omega
 rcases h8 with rfl|rfl|rfl|rfl|rfl|rfl|rfl|rfl<;>simp only [Nat.reducePow]<;>omega
structure VL(w:yp)(g:Nat)(l:zq):Prop where
  lt:g<w.heap.size
  cell:∀j v,l[j]?=some v->w.cell? ⟨g,j,none⟩=some v
  free:∀j,j<l.length->w.frozen? ⟨g,j,none⟩=false
def By_at?{l:zu}{j:Nat}(h:j<l.length):(By l)[j]?=some (.int .u8 ((l[j]!).toNat:Int)):=by have h1:=By_get h;simpa using h1
def f_tail{P:ym}{ops:zp}{Q:zx}{T:zo}{N:Nat}{E:List (Nat×yl)}{w:yp}(h:∀w',Up w w'->lF P ops Q T N E w') :
  bF P ops (Up w) (λa'=>∀w',Up w w'->wpList P ops Q T a' w') [] N E:=λa ha=>wpB_nil λw' hw'=>h w' hw' a ha
section
variable{P:ym}{ops:zp}{Q:zx}{N:Nat}{E:List (Nat×yl)}{w:yp}{o:yk}{rest:zo}{k:Nat}
def l_nil(h:kF (Q .normal) N E w):lF P ops Q [] N E w:=λa ha=>wpl_nil (h a ha)
def l_val{w':yp}(v:yl)(hg:o.guard=none)(hd:o.dst=some k)(hk:aU k N=true)(h:∀a,Fr N E a->(execOp a.eval o).run P w = .ok (.value v) w')(hn:lF P ops Q rest N ((k,v)::E) w'):lF P ops Q (o::rest) N E w:=λa ha=>by have h1:=h a ha;have h2:=hn _ (ha.put hk v);unfold wpList;rw [if_pos (by simp [aQ,hg])];refine .inl ?_;unfold fT;rw [h1];simp only [fB,hd];exact h2
def l_move{x:yo}(v:yl)(hg:o.guard=none)(hd:o.dst=some k)(hk:aU k N=true)(ho:o.op = .move x)(hx:ev E x=some v)(hn:lF P ops Q rest N ((k,v)::E) w):lF P ops Q (o::rest) N E w :=
 l_val v hg hd hk (λa ha=>by have h1:=ha.eval hx;unfold execOp;simp only [ho,h1,aI]) hn
def l_assign{x:yo}(v:yl)(hg:o.guard=none)(hd:o.dst=some k)(hk:aU k N=true)(ho:o.op = .assign x)(hx:ev E x=some v)(hn:lF P ops Q rest N ((k,v)::E) w):lF P ops Q (o::rest) N E w :=
 l_val v hg hd hk (λa ha=>by have h1:=ha.eval hx;unfold execOp;simp only [ho,h1,aI]) hn
end
structure NV where
  t:Nat
  ty:yn
  zs:zr
abbrev yt:=List NV
section
variable{P:ym}{N:Nat}
def nvOne(P:ym)(N:Nat)(o:yk)(v:NV):Prop:=o.guard=none/\o.dst=some v.t/\aU v.t N=true/\o.op = .alloc v.ty/\(P.info? v.ty).bind (λi=>i.zero.map (·.cells))=some v.zs
def nvOk(P:ym)(N:Nat):zo->yt->Prop
  | _,[]=>True
  | [],_::_=>False
  | o::l,v::vs=>nvOne P N o v/\nvOk P N l vs
theorem nvOk_get:∀{l:zo} {vs:yt},nvOk P N l vs->∀(j:Nat) (v:NV),vs[j]?=some v->∃o:yk,l[j]?=some o/\nvOne P N o v
 | _,[],_,j,v,hv=>by simp at hv
 | [],_::_,h,_,_,_=>h.elim
 | o::l,v0::vs,h,0,v,hv=>by simp only [bR,a8] at hv;subst hv;exact⟨o,rfl,h.1⟩
 | o::l,v0::vs,h,j+1,v,hv=>by simp only [kH] at hv;obtain⟨o',h1,h2⟩:=nvOk_get h.2 j v hv;exact⟨o',by simpa using h1,h2⟩
end
def ptrs:yt->Nat->zk->List (Nat×yl)->List (Nat×yl)
  | [],_,_,E=>E
  | v::vs,j,gs,E=>(v.t,.pointer (some ⟨gs j,0,none⟩))::ptrs vs (j+1) gs E
def far(E:List (Nat×yl)):yt->Prop
  | []=>True
  | v::vs=>look E v.t=none/\far E vs
theorem far_mem{E:List (Nat×yl)}:∀{vs:yt},far E vs->∀(j:Nat) (v:NV),vs[j]?=some v->look E v.t=none
 | [],_,j,v,hv=>by simp at hv
 | v0::vs,h,0,v,hv=>by simp only [bR,a8] at hv;subst hv;exact h.1
 | v0::vs,h,j+1,v,hv=>far_mem h.2 j v (by simpa using hv)
section
variable{N:Nat}{E:List (Nat×yl)}{a:Act}
def Fr.putFar(h:Fr N E a){k:Nat}(hk:look E k=none)(v:yl):Fr N E (a.put (some k) v):=by
 refine⟨by simp [nA,h.size],h.defers,λj u hj=>?_⟩;have e:k≠j:=by rintro rfl;rw [hk] at hj;cases hj
 have h1:=h.get j u hj;simp only [nA,oU,bT] at h1 ⊢;rw [j5 (by omega)];exact h1
def Fr.more(h:Fr N E a){k:Nat}{v:yl}(hv:a.eval (.tmp k)=v):Fr N ((k,v)::E) a:=by
 refine⟨h.size,h.defers,λj u hj=>?_⟩;rw [look_cons] at hj;by_cases e:k=j
 .subst e;rw [if_pos rfl] at hj;cases hj;exact hv
 .rw [if_neg e] at hj;exact h.get j u hj
def eval_put_same(h:Fr N E a){k:Nat}(hk:aU k N=true)(v:yl):(a.put (some k) v).eval (.tmp k)=v:=(h.put hk v).get k v (by rw [look_cons,if_pos rfl])
def eval_put_ne{k j:Nat}(hk:k≠j)(v:yl):(a.put (some k) v).eval (.tmp j)=a.eval (.tmp j):=by simp only [nA,oU,bT];rw [j5 (by omega)]
theorem Fr.ptrs(h:Fr N E a)(gs:zk):∀(vs:yt) (j0:Nat),(∀(j:Nat) (v:NV),vs[j]?=some v->a.eval (.tmp v.t) = .pointer (some ⟨gs (j0+j),0,none⟩))->Fr N (ptrs vs j0 gs E) a
 | [],_,_=>h
 | v::vs,j0,hv=>by
  refine Fr.more (Fr.ptrs h gs vs (j0+1) λj u hu=>?_) (hv 0 v rfl);have:=hv (j+1) u (by simpa using hu)
  rwa [<-bZ,dX] at this
end
def newC(ops:zp)(n:Nat)(lend:zn):Nat->zj->zn->Bool
  | 0,_,listed=>decide (listed=lend)
  | f+1,rem,listed=>decide (a9 .any ops listed=rem.map (n + ·))&&rem.all λj=>newC ops n lend f (rem.erase j) (listed.setIfInBounds (n+j) true)
def tsApart:yt->Bool
  | []=>true
  | v::vs=>(vs.all λu=>!(v.t==u.t))&&tsApart vs
theorem tsApart_lt:∀{vs:yt},tsApart vs=true->∀(i j:Nat) (vi vj:NV),i<j->vs[i]?=some vi->vs[j]?=some vj->vi.t≠vj.t
 | [],_,i,j,vi,vj,_,hi,_=>by simp at hi
 | v::vs,h,0,j+1,vi,vj,_,hi,hj=>by simp only [tsApart,aN,b7] at h;simp only [bR,a8,kH] at hi hj;subst hi;have:=h.1 vj (aR hj);simpa using this
 | v::vs,h,i+1,j+1,vi,vj,hij,hi,hj=>by simp only [tsApart,aN] at h;exact tsApart_lt h.2 i j vi vj (by omega) (by simpa using hi) (by simpa using hj)
def tsApart_ne{vs:yt}(h:tsApart vs=true){i j:Nat}{vi vj:NV}(hij:i≠j)(hi:vs[i]?=some vi)(hj:vs[j]?=some vj):vi.t≠vj.t:=by
 rcases Nat.lt_or_gt_of_ne hij with h1|h1
 .exact tsApart_lt h i j vi vj h1 hi hj
 .exact(tsApart_lt h j i vj vi h1 hj hi).symm
section
variable{P:ym}{Q:zx}{N:Nat}{E:List (Nat×yl)}{w:yp}
def newEnd(P:ym)(ops:zp)(Q:zx)(w:yp)(vs:yt)(T:zo)(N:Nat)(E:List (Nat×yl)):Prop :=
  ∀gs w',(∀j,j<vs.length->w.heap.size<=gs j)->(∀i j,i<vs.length->j<vs.length->i≠j->gs i≠gs j)->Up w w'->(∀(j:Nat) (v:NV),vs[j]?=some v->Blk w' (gs j) v.ty v.zs)->lF P ops Q T N (ptrs vs 0 gs E) w'
def newPost(P:ym)(ops:zp)(Q:zx)(w:yp)(vs:yt)(T:zo)(N:Nat)(a':Act):Prop :=
  ∃E',Fr N E' a'/\far E' vs/\newEnd P ops Q w vs T N E'
theorem news_any{ops:zp}{n m M:Nat}{lend:zn}(vs:yt)(hap:tsApart vs=true)(hnv:∀j v,vs[j]?=some v->∃o,ops[n+j]?=some o/\nvOne P N o v)(hE:far E vs)
 (fin:∀gs w0 a,Up w w0->Fr N (ptrs vs 0 gs E) a->(∀j,j<vs.length->w.heap.size<=gs j)->(∀i j,i<vs.length->j<vs.length->i≠j->gs i≠gs j)->(∀(j:Nat) (v:NV),vs[j]?=some v->Blk w0 (gs j) v.ty v.zs) ->
   wpAnyU P .any ops (Up w) Q M m 0 w0 lend a) :
  ∀(f:Nat) (rem:zj) (listed:zn) (w0:yp) (a:Act) (gs:zk),newC ops n lend f rem listed=true->rem.Nodup->f=rem.length->(∀j∈rem,j<vs.length)->Up w w0->Fr N E a ->
   (∀(j:Nat) (v:NV),j∉rem->vs[j]?=some v->w.heap.size<=gs j/\Blk w0 (gs j) v.ty v.zs/\a.eval (.tmp v.t) = .pointer (some ⟨gs j,0,none⟩)) ->
   (∀i j,i<vs.length->j<vs.length->i∉rem->j∉rem->i≠j->gs i≠gs j)->wpAnyU P .any ops (Up w) Q M m f w0 listed a
 | 0,rem,listed,w0,a,gs,hc,_,hf,_,hU,hF,hd,hg=>by
  obtain rfl:rem=[]:=bE hf.symm;simp only [newC,decide_eq_true_eq] at hc;subst hc;refine fin gs w0 a hU (hF.ptrs gs vs 0 λj v hv=>?_) (λj hj=>?_) (λi j hi hj hij=>hg i j hi hj (by simp) (by simp) hij) (λj v hv=>(hd j v (by simp) hv).2.1)
  .rw [aY];exact(hd j v (by simp) hv).2.2
  .exact(hd j vs[j] (by simp) (aJ hj)).1
 | f+1,rem,listed,w0,a,gs,hc,hnd,hf,hlt,hU,hF,hd,hg=>by
  simp only [newC,aN,decide_eq_true_eq,b7] at hc;obtain⟨hr,hc⟩:=hc;refine⟨?_,λi hi=>?_⟩
  .rw [hr]
   cases rem with
   | nil=>cases hf
   | cons j rem=>exact List.cons_ne_nil _ _
  .rw [hr] at hi
   obtain⟨j,hj,rfl⟩:=aZ.1 hi;have hjl:=hlt j hj;have hv:vs[j]?=some vs[j]:=aJ hjl;generalize vs[j]=v at hv;obtain⟨o,ho,hgd,hds,hb,hop,hz⟩:=hnv j v hv;refine wpAnyU_new (base:=w.heap.size) ho hgd (exec_alloc hop hz) (λ_ _ h k=>h.step k) (λ_ h=>h.size) hU λw1 hw1 hC1 hp=>?_;rw [hds];have hfar:=far_mem hE j v hv;have hal:=(Below.refl w1.heap.size w1).alloc (aF _) (.cells v.zs v.ty);have hem:∀i,i∉rem.erase j->i=j\/i∉rem:=λi hi=>by
    by_cases e:i=j
    .exact .inl e
    .exact .inr λhm=>hi ((List.mem_erase_of_ne e).2 hm)
   refine news_any vs hap hnv hE fin f (rem.erase j) _ _ _ (λi=>if i=j then w1.heap.size else gs i) (hc j hj) (hnd.erase j) (by rw [List.length_erase_of_mem hj];omega) (λi hi=>hlt i (List.mem_of_mem_erase hi)) (hC1.step hal) (hF.putFar hfar _) ?_ ?_
   .intro i u hi hu
    by_cases e:i=j
    .subst e;obtain rfl:u=v:=bQ (hu.symm.trans hv);rw [if_pos rfl];exact⟨hp,Blk.new w1 _ _,eval_put_same hF hb _⟩
    .rw [if_neg e];obtain⟨h1,h2,h3⟩:=hd i u ((hem i hi).resolve_left e) hu;exact⟨h1,(h2.later hw1).later hal,by rw [eval_put_ne (tsApart_ne hap (Ne.symm e) hv hu)];exact h3⟩
   .intro i k hi hk hir hkr hik
    have hlt1:∀i,i<vs.length->i∉rem->gs i<w1.heap.size:=λi hi hir=>((hd i vs[i] hir (aJ hi)).2.1.later hw1).lt;by_cases e:i=j
    .rw [if_pos e,if_neg (λh=>hik (e.trans h.symm))];have:=hlt1 k hk ((hem k hkr).resolve_left (λh=>hik (e.trans h.symm)));omega
    .rw [if_neg e]
     by_cases e2:k=j
     .rw [if_pos e2];have:=hlt1 i hi ((hem i hir).resolve_left e);omega
     .rw [if_neg e2];exact hg i k hi hk ((hem i hir).resolve_left e) ((hem k hkr).resolve_left e2) hik
def c_new{id:Nat}{l:zo}(n:Nat)(vs:yt)(hn:n+vs.length<=l.length)(hap:tsApart vs=true)(hnv:nvOk P N (l.drop n) vs)(hm:P.follows .mixedOrders=true)
 (hB:tailB l.toArray n vs.length (l.drop (n+vs.length)).length=true)
 (hC:newC l.toArray n (marks vs.length n (marks n 0 (bB l.toArray.size false))) vs.length (dV vs.length) (marks n 0 (bB l.toArray.size false))=true)
 (hQ:∀c a d v w,Q (.panic c) (a.put d v) w->Q (.panic c) a w)
 (h:bF P l.toArray (Up w) (newPost P l.toArray Q w vs (l.drop (n+vs.length)) N) (l.take n) N E):cF P (.region id l.toArray true) Q N E w:=λa ha=>by
 simp only [tailB,aN,decide_eq_true_eq] at hB;obtain⟨⟨⟨⟨hs,hh⟩,hz⟩,hsk⟩,hf⟩:=hB
 have hL:(l.take n).length=n:=by rw [aV];omega
 refine wp_region_any hm ?_
 have hT:∀j,j<(l.drop (n+vs.length)).length->(l.drop (n+vs.length))[j]?=l.toArray[vs.length+n+j]?:=λj _=>by simp only [lY,List.getElem?_toArray];congr 1;omega
 have hG:wpAnyU P .any l.toArray (Up w) Q (vs.length+n) (l.drop (n+vs.length)).length (vs.length+(l.take n).length) w.drew (bB l.toArray.size false) a:=by
  refine wpAnyU_head (λ_ _ h k=>h.step k) hs hQ vs.length w.drew (Up.drew w) (l.take n) 0 _ a (Closed.none _) (by omega) (λj hj=>?_) (by rw [hL];exact hh) ?_
  .rw [hL] at hj;simp [hj]
  rw [hL];refine wpB_mono (λa' h'=>?_) _ a (h a ha);obtain⟨E',hF,hE,hk⟩:=h';refine news_any (E:=E') (w:=w) vs hap (λj v hv=>?_) hE (λgs w0 a hU hF hb hd hB=>⟨λj hj i hi=>?_,λw' hw'=>?_⟩) vs.length (dV vs.length) _ w.drew a' (λ_=>0) hC List.nodup_range (by simp) (λj hj=>by simpa using hj) (Up.drew w) hF ?_ ?_
  .obtain⟨o,h1,h2⟩:=nvOk_get hnv j v hv;exact⟨o,by simpa using h1,h2⟩
  .have h1:=b7.1 hsk j hj;exact b7.1 h1 i (iJ.2 hi)
  .exact wpAny_forced _ (vs.length+n) _ _ w' hT hf (hk gs w' hb hd (hU.step hw') (λj v hv=>(hB j v hv).later hw') a hF)
  .intro j v hj hv;exact absurd (iJ.2 (aP.1 hv).1) hj
  .intro i j hi hj h1;exact absurd (iJ.2 hi) h1
 have h2:=wpAny_of_U (vs.length+(l.take n).length) _ a w.drew hG;rw [hL] at h2
 have e:l.toArray.size=(l.drop (n+vs.length)).length+(vs.length+n):=by rw [hz,bZ]
 rw [<-e] at h2;exact h2
def stOk:yt->List yo->zo->zo->Prop
  | [],[],T,T'=>T=T'
  | v::vs,x::xs,o::T,T'=>(o.guard=none/\o.dst=none/\o.op = .store v.ty (.tmp v.t) x)/\stOk vs xs T T'
  | _,_,_,_=>False
def valOk(P:ym)(E:List (Nat×yl)):yt->List yo->List zr->Prop
  | [],[],[]=>True
  | v::vs,x::xs,c::cs=>(ev E x=some (.agg c)/\v.zs.size=c.size/\(P.info? v.ty).map (·.size)=some c.size/\∀u∈c.toList,u.oneCell'=true)/\valOk P E vs xs cs
  | _,_,_=>False
def blks(w:yp):yt->List zr->Nat->zk->Prop
  | v::vs,c::cs,j,gs=>Blk w (gs j) v.ty c/\blks w vs cs (j+1) gs
  | _,_,_,_=>True
theorem l_stores{ops:zp}{T':zo}{W:yp}{gs:zk}:∀(vs:yt) (xs:List yo) (cs:List zr) (T:zo) (j0:Nat) (w:yp),stOk vs xs T T'->valOk P E vs xs cs ->
  (∀(j:Nat) (v:NV),vs[j]?=some v->look E v.t=some (.pointer (some ⟨gs (j0+j),0,none⟩)))->(∀j,j<vs.length->W.heap.size<=gs (j0+j))->(∀i j,i<vs.length->j<vs.length->i≠j->gs (j0+i)≠gs (j0+j))->Up W w->(∀(j:Nat) (v:NV),vs[j]?=some v->Blk w (gs (j0+j)) v.ty v.zs) ->
  (∀w',Up W w'->(∀g t c,(∀j,j<vs.length->gs (j0+j)≠g)->Blk w g t c->Blk w' g t c)->blks w' vs cs j0 gs->lF P ops Q T' N E w')->lF P ops Q T N E w
 | [],xs,cs,T,j0,w,hst,hv,_,_,_,hU,_,h=>by
  cases xs with
  | cons=>exact hst.elim
  | nil =>
   obtain rfl:T=T':=hst;exact h w hU (λ_ _ _ _ h=>h) (by unfold blks;trivial)
 | v::vs,xs,cs,T,j0,w,hst,hv,hl,hge,hd,hU,hB,h=>by
  cases xs with
  | nil=>exact hst.elim
  | cons x xs =>
   cases T with
   | nil=>exact hst.elim
   | cons o T =>
    cases cs with
    | nil=>exact hv.elim
    | cons c cs =>
     obtain⟨⟨hgd,hds,hop⟩,hst⟩:=hst;obtain⟨⟨hx,hz,hi,ho⟩,hv⟩:=hv
     intro a ha
     have h0:=hB 0 v rfl
     have hd0:∀j,j<vs.length->gs (j0+1+j)≠gs j0:=λj hj=>by
      have:=hd (j+1) 0 (by simpa using hj) (by simp) (by omega)
      rwa [<-bZ,dX,cD] at this
     rw [cD] at h0;refine wpList_store_row hgd v.ty (.tmp v.t) x hop (gs j0) (ha.get _ _ (hl 0 v rfl)) c (ha.eval hx) v.ty v.zs h0 hi hz ho ?_;rw [hds];refine l_stores (gs:=gs) (W:=W) vs xs cs T (j0+1) (w.setRow (gs j0) c) hst hv (λj u hu=>?_) (λj hj=>?_) (λi j hi hj hij=>?_) (up_row hU (hge 0 (by simp)) _) (λj u hu=>?_) (λw' hU' hK hb=>?_) a ha
     .have:=hl (j+1) u (by simpa using hu)
      rwa [<-bZ,dX] at this
     .have:=hge (j+1) (by simpa using hj)
      rwa [<-bZ,dX] at this
     .have:=hd (i+1) (j+1) (by simpa using hi) (by simpa using hj) (by omega)
      rwa [<-bZ,<-bZ,dX,dX j0 j 1] at this
     .have:=hB (j+1) u (by simpa using hu);rw [<-bZ,dX] at this;exact this.rowFar (hd0 j (aP.1 hu).1) _
     .refine h w' hU' (λg t c' hg hb'=>hK g t c' (λj hj=>?_) (hb'.rowFar (Ne.symm (by have:=hg 0 (by simp);rwa [cD] at this)) _)) ⟨hK _ _ _ hd0 (h0.row _),hb⟩
      have:=hg (j+1) (by simpa using hj)
      rwa [<-bZ,dX] at this
theorem look_ptrs{gs:zk}{E:List (Nat×yl)}{k:Nat}:∀(vs:yt) (j0:Nat),(∀v∈vs,v.t≠k)->look (ptrs vs j0 gs E) k=look E k
 | [],_,_=>rfl
 | v::vs,j0,h=>by rw [ptrs,look_cons,if_neg (h v (by simp))];exact look_ptrs vs (j0+1) λu hu=>h u (by simp [hu])
theorem look_ptr{gs:zk}{E:List (Nat×yl)}:∀(vs:yt) (j0:Nat),tsApart vs=true->∀(j:Nat) (v:NV),vs[j]?=some v->look (ptrs vs j0 gs E) v.t=some (.pointer (some ⟨gs (j0+j),0,none⟩))
 | [],_,_,_,_,hv=>by simp at hv
 | v0::vs,j0,hap,0,v,hv=>by simp only [bR,a8] at hv;subst hv;rw [ptrs,look_cons,if_pos rfl,cD]
 | v0::vs,j0,hap,j+1,v,hv=>by have hne:v0.t≠v.t:=tsApart_ne hap (i:=0) (j:=j+1) (by omega) rfl hv;simp only [tsApart,aN] at hap;rw [ptrs,look_cons,if_neg hne,look_ptr vs (j0+1) hap.2 j v (by simpa using hv),<-bZ,dX]
theorem ev_far{gs:zk}{E:List (Nat×yl)}{vs:yt}(hE:far E vs){x:yo}{v:yl}(hx:ev E x=some v):ev (ptrs vs 0 gs E) x=some v:=by
 cases x with
 | tmp t =>
  show look (ptrs vs 0 gs E) t=some v
  rw [look_ptrs vs 0 λu hu=>?_]
  .exact hx
  .rintro rfl;obtain⟨j,hj⟩:=List.getElem?_of_mem hu;have h1:=far_mem hE j u hj;have h2:look E u.t=some v:=hx;rw [h1] at h2;cases h2
 | const u=>exact hx
 | global g=>exact hx
 | func f=>exact hx
theorem valOk_far{gs:zk}{E:List (Nat×yl)}{ws:yt}(hE:far E ws):∀(vs:yt) (xs:List yo) (cs:List zr),valOk P E vs xs cs->valOk P (ptrs ws 0 gs E) vs xs cs
 | [],[],[],_=>trivial
 | _::vs,_::xs,_::cs,h=>⟨⟨ev_far hE h.1.1,h.1.2⟩,valOk_far hE vs xs cs h.2⟩
 | [],[],_::_,h=>h.elim
 | [],_::_,_,h=>h.elim
 | _::_,[],_,h=>h.elim
 | _::_,_::_,[],h=>h.elim
def f_new{ops:zp}{vs:yt}{T T':zo}(xs:List yo)(cs:List zr)(hE:far E vs)(hap:tsApart vs=true)(hst:stOk vs xs T T')(hv:valOk P E vs xs cs)
 (h:∀gs w',(∀j,j<vs.length->w.heap.size<=gs j)->(∀i j,i<vs.length->j<vs.length->i≠j->gs i≠gs j)->Up w w'->blks w' vs cs 0 gs->lF P ops Q T' N (ptrs vs 0 gs E) w') :
  bF P ops (Up w) (newPost P ops Q w vs T N) [] N E:=λa ha=>wpB_nil ⟨E,ha,hE,λgs w' hge hd hU hB=>by
 refine l_stores (W:=w) (gs:=gs) vs xs cs T 0 w' hst (valOk_far hE _ _ _ hv) (λj v hv=>look_ptr vs 0 hap j v hv) (by simpa using hge) (by simpa using hd) hU (by simpa using hB) λw2 hU2 _ hb=>?_
 exact h gs w2 hge hd hU2 hb⟩
end
section
variable{N:Nat}{E:List (Nat×yl)}{a:Act}
theorem Fr.evals(ha:Fr N E a):∀(l:List yo) (m:zq),l.map (ev E)=m.map some->l.map a.eval=m
 | [],[],_=>rfl
 | [],_::_,h=>by cases h
 | _::_,[],h=>by cases h
 | y::l,u::m,h=>by simp only [bA,fO] at h ⊢;exact⟨ha.eval h.1,Fr.evals ha l m h.2⟩
theorem Fr.parts(ha:Fr N E a):∀(l:List (Nat×yo)) (m:List (Nat×yl)),l.map (λp=>(p.1,ev E p.2))=m.map (λp=>(p.1,some p.2))->(l.map λ(i,x)=>(i,a.eval x))=m
 | [],[],_=>rfl
 | [],_::_,h=>by cases h
 | _::_,[],h=>by cases h
 | y::l,u::m,h=>by simp only [bA,fO,cK] at h ⊢;refine⟨?_,Fr.parts ha l m h.2⟩;rw [ha.eval h.1.2,h.1.1]
end
section
variable{P:ym}{ops:zp}{C0:zv}{Q:Act->Prop}{N:Nat}{E:List (Nat×yl)}{o:yk}{rest:zo}{k:Nat}
def f_build{t:yn}{parts:Array (Nat×yo)}(vs:List (Nat×yl))(cells:zr)(hg:o.guard=none)(hd:o.dst=some k)(hk:aU k N=true)(ho:o.op = .build t parts)
 (hv:parts.toList.map (λp=>(p.1,ev E p.2))=vs.map (λp=>(p.1,some p.2)))(hb:P.built t vs=some cells)(hn:bF P ops C0 Q rest N ((k,.agg cells)::E)):bF P ops C0 Q (o::rest) N E :=
 f_val _ hg hd hk (λa ha w _=>by have h1:=ha.parts _ _ hv;unfold execOp;simp only [ho,aG,run_build w t _ cells (by rw [jD,h1];exact hb),aC,aI]) hn
def f_eq{t t':yn}{x y:yo}{q:Bool}(xs ys:zr)(hg:o.guard=none)(hd:o.dst=some k)(hk:aU k N=true)(ho:o.op = .binOp .eql t x y t')(hx:ev E x=some (.agg xs))(hy:ev E y=some (.agg ys))
 (ht:P.eqGuardType P.depth t=false)(he:∀w,(cC 10000 t (.agg xs) (.agg ys)).run P w = .ok q w)(hn:bF P ops C0 Q rest N ((k,.bool q)::E)):bF P ops C0 Q (o::rest) N E :=
 f_val _ hg hd hk (λa ha w _=>by have h1:=ha.eval hx;have h2:=ha.eval hy;unfold execOp;simp only [ho,h1,h2,aG,run_eqGuard_agg (hm:=ht),aC,binOp,Op.equal,Op.maxDepth,he,aI]) hn
end
section
variable{ops:zp}{C0:zv}{Q:Act->Prop}{N:Nat}{E:List (Nat×yl)}{o:yk}{rest:zo}{k:Nat}
def f_callV{f:yi}{xs:zg}{ats:zf}(args:zr)(V:yl->Prop)(hg:o.guard=none)(hd:o.dst=some k)(hk:aU k N=true)
 (hf:Own f)(hc:∀w,C0 w->Calls prog f args w (λe w'=>∃v,e = .returned v/\V v/\Below w.heap.size w w'))
 (ho:o.op = .call { callee:=.value (.func f),args:=xs,argTypes:=ats })(hx:xs.toList.map (ev E)=args.toList.map some)(hn:∀v,V v->bF prog ops C0 Q rest N ((k,v)::E)):bF prog ops C0 Q (o::rest) N E:=λa ha=>by
 refine b_callV (f:=f) (args:=args) V (by simp [aQ,hg]) hf hc ho (ha.evals _ _ hx) λv hv=>?_;rw [hd];exact hn v hv _ (ha.put hk v)
end
section
variable{P:ym}{ops:zp}{Q:zx}{N:Nat}{E:List (Nat×yl)}{w:yp}{o:yk}{rest:zo}{k:Nat}
def l_alloc{ty:yn}{zs:zr}(hg:o.guard=none)(hd:o.dst=some k)(hk:aU k N=true)(ho:o.op = .alloc ty)(hz:(P.info? ty).bind (λi=>i.zero.map (·.cells))=some zs)
 (hn:lF P ops Q rest N ((k,.pointer (some ⟨w.heap.size,0,none⟩))::E) (w.alloc (.cells zs ty))):lF P ops Q (o::rest) N E w :=
 l_val _ hg hd hk (λ_ _=>exec_alloc ho hz _ w) hn
def l_allocA{ty:yn}(zs:zr)(hg:o.guard=none)(hd:o.dst=some k)(hk:aU k N=true)(ho:o.op = .alloc ty)(hz:(P.info? ty).bind (λi=>i.zero.map (·.cells))=some zs)
 (hn:∀W g,Up w W->g=w.heap.size->Blk W g ty zs->lF P ops Q rest N ((k,.pointer (some ⟨g,0,none⟩))::E) W):lF P ops Q (o::rest) N E w :=
 l_alloc hg hd hk ho hz (hn _ _ ((Up.refl w).alloc _) rfl (Blk.new w _ _))
def l_set{ty t:yn}{p x:yo}(g:Nat)(old cells:zr)(hg:o.guard=none)(hd:o.dst=none)(ho:o.op = .store ty p x)(hp:ev E p=some (.pointer (some ⟨g,0,none⟩)))(hx:ev E x=some (.agg cells))
 (hb:Blk w g t old)(hi:(P.info? ty).map (·.size)=some cells.size)(hz:old.size=cells.size)(h1:∀v∈cells.toList,v.oneCell'=true)(hn:lF P ops Q rest N E (w.setRow g cells)):lF P ops Q (o::rest) N E w:=λa ha=>by
 refine wpList_store_row hg ty p x ho g (ha.eval hp) cells (ha.eval hx) t old hb hi hz h1 ?_;rw [hd];exact hn a ha
end
def addI(a b:Nat)(h:a+b<9223372036854775808):IntKind.i64.wrap ((a:Int)+(b:Int))=((a+b:Nat):Int):=by rw [i64_left,wrap64_in _ (by omega)];omega
def subI(a b:Nat)(h:b<=a)(h2:a<9223372036854775808):IntKind.i64.wrap ((a:Int)-(b:Int))=((a-b:Nat):Int):=by rw [i64_left,wrap64_in _ (by omega)];omega
def f_set{P:ym}{ops:zp}{Q:zx}{N:Nat}{E:List (Nat×yl)}{w:yp}{o:yk}{rest:zo}{ty t:yn}{p x:yo}(g:Nat)(old cells:zr)(hg:o.guard=none)(hd:o.dst=none)(ho:o.op = .store ty p x)(hp:ev E p=some (.pointer (some ⟨g,0,none⟩)))(hx:ev E x=some (.agg cells))
 (hb:Blk w g t old)(hi:(P.info? ty).map (·.size)=some cells.size)(hz:old.size=cells.size)(h1:∀v∈cells.toList,v.oneCell'=true)(hn:∀w',Up w w'->Blk (w'.setRow g cells) g t cells->lF P ops Q rest N E (w'.setRow g cells)) :
  bF P ops (Up w) (λa'=>∀w',Up w w'->wpList P ops Q (o::rest) a' w') [] N E :=
 f_tail λw' hw'=>l_set g old cells hg hd ho hp hx (hw'.blk hb) hi hz h1 (hn w' hw' ((hw'.blk hb).row _))
def GS(w:yp)(base e:Nat)(A:zt)(c:Nat)(xs:zq):Prop:=w.ownsRow base e 1 (.slice A xs.length c) xs.length xs
section
variable{w w':yp}{base e c:Nat}{A:zt}{xs:zq}
def GS.cut(h:GS w base e A c xs):(A=none/\c=0/\xs=[])\/∃g,A=some ⟨g,0,none⟩/\base<=g/\VL w g xs:=by
 rcases h.2 with⟨h1,h2⟩|⟨g,cap,cur,hv,hb,hg,hn,hc,hcs,htk⟩
 .injection h1 with h3 h4 h5;exact .inl ⟨h3,h5,bE h2⟩
 .injection hv with h3 h4 h5
  have hB:Blk w g e cur:=hg;refine .inr ⟨g,h3,hb,hB.lt,λj v hj=>?_,λj _=>hB.free j⟩;rw [hB.cell j];rw [<-htk,dT] at hj;split at hj
  .simpa using hj
  .cases hj
def GS.lt(h:GS w base e A c xs):∀k,A.map (·.block)=some k->base<=k/\k<w.heap.size:=λk hk=>by
 rcases h.cut with⟨h1,_,_⟩|⟨g,h1,h2,h3⟩
 .rw [h1] at hk;cases hk
 .rw [h1] at hk;cases hk;exact⟨h2,h3.lt⟩
def GS.grew{W0:yp}(h:GS w base e A c xs)(hbe:Below base W0 w)(hg:w.grownBy w' (A.map (·.block)))(hz:base<=w.heap.size):Below base W0 w':=hbe.grown hg hz λk hk=>(h.lt k hk).1
end
section
variable{ops:zp}{Q:zx}{N:Nat}{E:List (Nat×yl)}{w:yp}{o:yk}{rest:zo}{k:Nat}
def l_app{s x:yo}{t e:yn}{z:yl}{base bytes c m d:Nat}{A:zt}{xs news:zq}{ad:Addr}(hg:o.guard=none)(hd:o.dst=some k)(hk:aU k N=true)(ho:o.op = .call { callee:=.builtin .append,args:=#[s,x],argTypes:=#[t,t] })
 (hs:ev E s=some (.slice A xs.length c))(hx:ev E x=some (.slice (some ad) m d))(ht:prog.underlying t=some (.slice e))(hi:(prog.info? e).map (λi=>(i.zero,i.size,i.bytes))=some (some z,1,bytes))(hz1:z.cells.size=1)
 (hown:GS w base e A c xs)(hm:news.length=m)(hnews:∀j u,news[j]?=some u->w.cell? (ad.add j)=some u)(h1:∀u∈news,u.oneCell'=true)(hbytes:(xs.length+m)*bytes<=140737488355328)(h63:xs.length+m<=maxLen)(hbase:base<=w.heap.size)
 (hn:∀A' c' w',GS w' base e A' c' (xs++news)->w.grownBy w' (A.map (·.block))->(A'.map (·.block)=A.map (·.block)\/A'.map (·.block)=some w.heap.size)->lF prog ops Q rest N ((k,.slice A' (xs++news).length c')::E) w') :
  lF prog ops Q (o::rest) N E w:=by
 obtain⟨i,hi0,hz0,hs0,hb⟩:=info_parts hi
 have hob:∀(B:zt) (n m:Nat),(Value.slice B n m).ownBlock=B.map (·.block):=λB n m=>by cases B<;>rfl
 obtain⟨v',w',hr,ho',hgr,_,hat⟩:=run_append_own_at (P:=prog) w base t o.type e i z 1 bytes ht hi0 hz0 hs0 hb hz1 (by omega) _ xs.length xs hown ad m d news (by rw [hm,Nat.mul_one]) hnews h1 h63 hbytes hbase
 have hlen:(xs++news).length=xs.length+m:=by rw [aA,hm]
 rw [<-hlen] at ho'
 obtain⟨A',c',rfl⟩:∃A' c',v' = .slice A' (xs++news).length c':=by
  rcases ho'.2 with⟨h0,hn⟩|⟨g,cap,cur,hv,_⟩
  .exact⟨none,0,by rw [h0,hn]⟩
  .exact⟨_,_,hv⟩
 rw [hob] at hgr hat;rw [hob] at hat;refine l_val _ hg hd hk (λa ha=>?_) (hn A' c' w' ho' hgr hat);have h2:=ha.eval hs;have h3:=ha.eval hx
 unfold execOp
 simp only [ho,resolve,invoke,builtin,aG,aI,aC,fW,bA,iK,h2,h3,hr]
end
def info_byte:(prog.info? 5).map (λi=>(i.zero,i.size,i.bytes))=some (some (.int .u8 0),1,1):=by kernel_rfl
def cop(z:zu)(off:Nat)(l:zu):zu:=z.take off++(l++z.drop (off+l.length))
def cop_len{z l:zu}{off:Nat}(h:off+l.length<=z.length):(cop z off l).length=z.length:=by simp [cop];omega
def size_u8:(prog.info? 5).map (·.size)=some 1:=by kernel_rfl
def z64:zu:=aB 64 0
def SB(w:yp)(v:yl)(l:zu):Prop:=∃A c,v = .slice A l.length c/\SL w 0 w.heap.size A l c
def PT(w:yp)(A:zt)(ls:zy):Prop:=Parts w w.heap.size A ls
def SB.later{w w':yp}{v:yl}{l:zu}(h:SB w v l)(hb:Below w.heap.size w w'):SB w' v l:=by obtain⟨A,c,e,h1⟩:=h;exact⟨A,c,e,(h1.below hb (aF _)).more (aF _) hb.size⟩
def PT.later{w w':yp}{A:zt}{ls:zy}(h:PT w A ls)(hb:Below w.heap.size w w'):PT w' A ls:=λhl=>by obtain⟨ad,e,h1,h2⟩:=h.below hb (aF _) hl;refine⟨ad,e,b9 h1 hb.size,λi l hi=>?_⟩;obtain⟨A',c,h3,h4⟩:=h2 i l hi;exact⟨A',c,h3,h4.more (aF _) hb.size⟩
def SB.nil(w:yp):SB w (.slice none 0 0) []:=⟨none,0,rfl,SL.nil _ _ _⟩
def SB.arr{w:yp}{g t off n c:Nat}{z l:zu}(h:Blk w g t (By z).toArray)(hl:(z.drop off).take n=l)(hn:l.length=n)(hc:n<=c)(hc2:c<=9223372036854775807):SB w (.slice (some ⟨g,off,none⟩) n c) l:=by
 refine⟨some ⟨g,off,none⟩,c,by rw [hn],by rw [hn];exact hc,hc2,λh=>(by cases h),λ_=>⟨_,rfl,aL _,h.lt,λj x hx=>?_⟩⟩;rw [<-hl,dT] at hx;split at hx
 .rw [lY] at hx;rw [cQ,h.cell];simp [By,hx]
 .cases hx
def SB.all{w:yp}{g t n:Nat}{l:zu}(h:Blk w g t (By l).toArray)(hn:l.length=n)(hc2:n<=9223372036854775807):SB w (.slice (some ⟨g,0,none⟩) n n) l :=
 SB.arr h (by rw [List.drop_zero,List.take_of_length_le (by omega)]) hn (aF _) hc2
def GS.sb{w:yp}{base c:Nat}{A:zt}{l:zu}(h:GS w base 5 A c (By l)):SB w (.slice A l.length c) l:=by
 have h2:=h.2;rw [By_len] at h2;rcases h2 with⟨h1,h3⟩|⟨g,cap,cur,hv,_,hg,hn,hc,_,htk⟩
 .injection h1 with h4 h5 h6;have:=bE h3;subst h4 h6 this;exact SB.nil w
 .injection hv with h4 h5 h6
  subst h4 h6;refine⟨_,c,rfl,hn,by unfold maxLen at hc;omega,λh=>(by cases h),λ_=>⟨_,rfl,aL _,Blk.lt hg,λj x hx=>?_⟩⟩;have hB:Blk w g _ cur:=hg;rw [cQ,hB.cell,aY];have h7:(By l)[j]?=some (.int .u8 (x.toNat:Int)):=by simp [By,hx]
  rw [<-htk,dT] at h7;split at h7
  .simpa using h7
  .cases h7
def SL.part{w:yp}{lo hi c:Nat}{A:zt}{l:zu}(h:SL w lo hi A l c){k n:Nat}(hk:k<=l.length):SL w lo hi (if c=k then A else A.map (·.add k)) ((l.drop k).take n) (c-k):=(h.cut hk).take n
section
variable{ops:zp}{Rel:yp->zv}[hR:RelOk Rel]{C0:zv}{Q:Facts->Act->Prop}{N:Nat}{E:List (Nat×yl)}{Fa:Told}{o:yk}{rest:List (Nat×yk)}{i k:Nat}
def g_call{f:yi}{xs:zg}{ats:zf}(args:zr)(V:yl->zv)(hg:o.guard=none)(hd:o.dst=some k)(hk:aU k N=true)(hf:farP i Fa=true)(hp:∀v,Pers Rel (V v))(hown:Own f)
 (hc:∀w,C0 w->Uses o Fa w->Calls prog f args w (λe w'=>∃v,e = .returned v/\V v w'/\Below w.heap.size w w'))
 (ho:o.op = .call { callee:=.value (.func f),args:=xs,argTypes:=ats })(hx:xs.toList.map (ev E)=args.toList.map some)
 (hn:∀v w,C0 w->V v w->gF prog Rel ops C0 Q rest N ((k,v)::E) ((i,V v)::Fa)):gF prog Rel ops C0 Q ((i,o)::rest) N E Fa :=
 g_mem V hg hd hk hf (by rw [ho];rfl) hp (λa ha w hw hu=>by rw [run_call_fn hown ho,map_eval (ha.evals _ _ hx)];exact⟨rfl,(hc w hw hu).mono λe w' ⟨v,h1,h2,h3⟩=>⟨v,h1,hR.below _ _ h3,h2⟩⟩) hn
def g_alloc{ty:yn}(zs:zr)(base:Nat)(hg:o.guard=none)(hd:o.dst=some k)(hk:aU k N=true)(hf:farP i Fa=true)(ho:o.op = .alloc ty)(hz:(prog.info? ty).bind (λi=>i.zero.map (·.cells))=some zs)
 (hb:∀w,C0 w->base<=w.heap.size)(hp:∀g,Pers Rel λw=>base<=g/\Blk w g ty zs)
 (hn:∀g w,C0 w->base<=g->Blk w g ty zs->gF prog Rel ops C0 Q rest N ((k,.pointer (some ⟨g,0,none⟩))::E) ((i,λw=>base<=g/\Blk w g ty zs)::Fa)):gF prog Rel ops C0 Q ((i,o)::rest) N E Fa :=
 g_mem (λv w=>∃g,v = .pointer (some ⟨g,0,none⟩)/\base<=g/\Blk w g ty zs) hg hd hk hf (by rw [ho];rfl) (λv w w' ⟨g,e,h⟩ hr=>⟨g,e,hp g w w' h hr⟩) (λa _ w hw _=>by
  rw [exec_alloc ho hz a w];exact⟨hR.below _ _ ((Below.refl w.heap.size w).alloc (aF _) _),w.heap.size,rfl,hb w hw,Blk.new w _ _⟩) (λv w hw ⟨g,e,h1,h2⟩=>by
  subst e;intro a F ha hF;refine hn g w hw h1 h2 a F ha λx hx w hw=>?_;rcases aH.1 hx with rfl|hx
  .obtain⟨g',e,h⟩:=hF (i,λw=>∃g',Value.pointer (some ⟨g,0,none⟩) = .pointer (some ⟨g',0,none⟩)/\base<=g'/\Blk w g' ty zs) aM w hw;injection e with e;injection e with e;injection e with e;subst e;exact h
  .exact hF x (aK _ hx) w hw)
end
def cells_slices:(prog.info? 39).map (λi=>(i.zero,i.size,i.bytes))=some (some (.slice none 0 0),1,24):=by kernel_rfl
def run_slices(vs:zq)(n:Nat)(parts:Array (Nat×yl))(hp:parts.toList=(vs.zipIdx 0).map λx=>(x.2,x.1))(hn:vs.length=n)(h0:0<n)(h24:n<=16777216)(h1:∀v∈vs,v.cells = #[v])(w:yp) :
  (Instr.buildSlice 37 n parts).run prog w = .ok (.slice (some ⟨w.heap.size,0,none⟩) n n) (w.alloc (.cells vs.toArray 39)):=by
 obtain⟨ie,h2,h3,h4,_⟩:=info_parts cells_slices;refine run_buildSlice w 37 39 n parts vs.toArray ie _ underlying37 h2 h3 (by rw [h4];omega) (by rw [h4];omega) ?_;rw [hp,h4];exact Great.fill_flat _ _ h1 (by simp [hn])
def All2(w:yp):zq->zy->Prop
  | [],[]=>True
  | v::vs,l::ls=>SB w v l/\All2 w vs ls
  | _,_=>False
theorem All2.len{w:yp}:∀{vs:zq} {ls:zy},All2 w vs ls->vs.length=ls.length
 | [],[],_=>rfl
 | _::_,_::_,h=>by rw [a6,a6,All2.len h.2]
 | [],_::_,h=>h.elim
 | _::_,[],h=>h.elim
theorem All2.get{w:yp}:∀{vs:zq} {ls:zy},All2 w vs ls->∀(i:Nat) l,ls[i]?=some l->∃v,vs[i]?=some v/\SB w v l
 | [],[],_,i,l,h=>by simp at h
 | v::vs,l0::ls,h,0,l,hi=>by simp only [bR,a8] at hi;subst hi;exact⟨v,rfl,h.1⟩
 | v::vs,l0::ls,h,i+1,l,hi=>by obtain⟨u,h1,h2⟩:=All2.get h.2 i l (by simpa using hi);exact⟨u,by simpa using h1,h2⟩
 | [],_::_,h,_,_,_=>h.elim
 | _::_,[],h,_,_,_=>h.elim
theorem All2.one{w:yp}:∀{vs:zq} {ls:zy},All2 w vs ls->∀v∈vs,v.cells = #[v]/\v.oneCell'=true
 | [],_,_,v,hv=>by simp at hv
 | u::vs,l::ls,h,v,hv=>by
  rcases aH.1 hv with rfl|hv
  .obtain⟨A,c,rfl,_⟩:=h.1;exact⟨rfl,rfl⟩
  .exact All2.one h.2 v hv
 | _::_,[],h,_,_=>h.elim
theorem All2.later{w w':yp}(hb:Below w.heap.size w w'):∀{vs:zq} {ls:zy},All2 w vs ls->All2 w' vs ls
 | [],[],_=>trivial
 | _::_,_::_,h=>⟨h.1.later hb,All2.later hb h.2⟩
 | [],_::_,h=>h.elim
 | _::_,[],h=>h.elim
structure NewS(base:Nat)(vs:zq)(ls:zy)(g:Nat)(w:yp):Prop where
  ge:base<=g
  blk:Blk w g 39 vs.toArray
  all:All2 w vs ls
def NewS.later{base g:Nat}{vs:zq}{ls:zy}{w w':yp}(h:NewS base vs ls g w)(hb:Below w.heap.size w w'):NewS base vs ls g w':=⟨h.ge,h.blk.later hb,All2.later hb h.all⟩
def pt_of{w:yp}{g:Nat}{vs:zq}{ls:zy}{cs:zr}{t:Nat}(hB:Blk w g t cs)(htk:∀(j:Nat) (v:yl),vs[j]?=some v->cs[j]?=some v)(h:All2 w vs ls):PT w (some ⟨g,0,none⟩) ls:=λ_=>by refine⟨_,rfl,hB.lt,λi l hi=>?_⟩;obtain⟨v,h1,A,c,rfl,h3⟩:=h.get i l hi;refine⟨A,c,?_,h3⟩;rw [cQ,hB.cell,aY];exact htk i _ h1
def NewS.pt{base g:Nat}{vs:zq}{ls:zy}{w:yp}(h:NewS base vs ls g w):PT w (some ⟨g,0,none⟩) ls:=pt_of h.blk (λj v hj=>by simpa using hj) h.all
section
variable{ops:zp}{C0:zv}{Q:Facts->Act->Prop}{N:Nat}{E:List (Nat×yl)}{Fa:Told}{o:yk}{rest:List (Nat×yk)}{i k:Nat}
def g_slices{n:Nat}{parts:Array (Nat×yo)}(vs:zq)(ls:zy)(base:Nat)(hg:o.guard=none)(hd:o.dst=some k)(hk:aU k N=true)(hf:farP i Fa=true)(ho:o.op = .buildSlice 37 n parts)
 (hv:parts.toList.map (λp=>(p.1,ev E p.2))=(vs.zipIdx 0).map λx=>(x.2,some x.1))(hn:vs.length=n)(h0:0<n)(h24:n<=16777216)(hb:∀w,C0 w->base<=w.heap.size)(h:∀w,C0 w->Uses o Fa w->All2 w vs ls)
 (hk2:∀g w,C0 w->NewS base vs ls g w->gF prog Bel ops C0 Q rest N ((k,.slice (some ⟨g,0,none⟩) n n)::E) ((i,NewS base vs ls g)::Fa)):gF prog Bel ops C0 Q ((i,o)::rest) N E Fa :=
 g_mem (λv w=>∃g,v = .slice (some ⟨g,0,none⟩) n n/\NewS base vs ls g w) hg hd hk hf (by rw [ho];rfl) (λv w w' ⟨g,e,h⟩ hr=>⟨g,e,h.later hr⟩) (λa ha w hw hu=>by
  have hA:=h w hw hu;have hm:∀(l:List (Nat×yo)) (m:List (yl×Nat)),l.map (λp=>(p.1,ev E p.2))=m.map (λx=>(x.2,some x.1))->l.map (λ(i,x)=>(i,a.eval x))=m.map λx=>(x.2,x.1):=by
   intro l;induction l with
   | nil=>intro m h;cases m with
    | nil=>rfl
    | cons=>cases h
   | cons p l ih=>intro m h;cases m with
    | nil=>cases h
    | cons u m =>
     simp only [bA,fO,cK] at h ⊢;exact⟨⟨h.1.1,ha.eval h.1.2⟩,ih m h.2⟩
  have hr:=run_slices vs n (parts.map λ(i,x)=>(i,a.eval x)) (by rw [jD];exact hm _ _ hv) hn h0 h24 (λv hv=>(hA.one v hv).1) w;have hal:=(Below.refl w.heap.size w).alloc (aF _) (.cells vs.toArray 39);unfold execOp;simp only [ho,aG,hr,aC,aI];exact⟨hal,w.heap.size,rfl,hb w hw,Blk.new w _ _,All2.later hal hA⟩) (λv w hw ⟨g,e,h2⟩=>by
  subst e;intro a F ha hF;refine hk2 g w hw h2 a F ha λx hx w hw=>?_;rcases aH.1 hx with rfl|hx
  .obtain⟨g',e,h⟩:=hF (i,λw=>∃g',Value.slice (some ⟨g,0,none⟩) n n = .slice (some ⟨g',0,none⟩) n n/\NewS base vs ls g' w) aM w hw;injection e with e;injection e with e;injection e with e;subst e;exact h
  .exact hF x (aK _ hx) w hw)
end
theorem All2.app{w:yp}:∀{vs us:zq} {ls ms:zy},All2 w vs ls->All2 w us ms->All2 w (vs++us) (ls++ms)
 | [],_,[],_,_,h=>h
 | _::_,_,_::_,_,h,h'=>⟨h.1,All2.app h.2 h'⟩
 | [],_,_::_,_,h,_=>h.elim
 | _::_,_,[],_,h,_=>h.elim
theorem pt_vals{w:yp}{ad:Addr}:∀(ls:zy) (o:Nat),(∀(i:Nat) l,ls[i]?=some l->∃v,w.cell? (ad.add (o+i))=some v/\SB w v l)->∃vs,All2 w vs ls/\∀(j:Nat) u,vs[j]?=some u->w.cell? (ad.add (o+j))=some u
 | [],_,_=>⟨[],trivial,λj u h=>by simp at h⟩
 | l::ls,o,h=>by
  obtain⟨v,h1,h2⟩:=h 0 l rfl;obtain⟨vs,h3,h4⟩:=pt_vals ls (o+1) λi l' hi=>by obtain⟨v',h5,h6⟩:=h (i+1) l' (by simpa using hi);exact⟨v',by rw [show o+1+i=o+(i+1) by omega];exact h5,h6⟩
  refine⟨v::vs,⟨h2,h3⟩,λj u hj=>?_⟩;cases j with
  | zero =>
   simp only [bR,a8] at hj;subst hj;exact h1
  | succ j =>
   have:=h4 j u (by simpa using hj)
   rwa [show o+1+j=o+(j+1) by omega] at this
def GS.pt{w:yp}{base c:Nat}{A:zt}{vs:zq}{ls:zy}(h:GS w base 39 A c vs)(hA:All2 w vs ls):PT w A ls/\ls.length<=c/\c<=9223372036854775807:=by
 have hlen:=hA.len;rcases h.2 with⟨h1,h3⟩|⟨g,cap,cur,hv,_,hg,hn,hc,_,htk⟩
 .injection h1 with h4 h5 h6;subst h6;exact⟨λh0=>absurd h0 (by omega),by omega,by omega⟩
 .injection hv with h4 h5 h6
  subst h4 h6;refine⟨pt_of (cs:=cur) hg (λj v hj=>?_) hA,by omega,by unfold maxLen at hc;omega⟩;rw [<-htk,dT] at hj;split at hj
  .simpa using hj
  .cases hj
def NewS.gs{base n g:Nat}{vs:zq}{ls:zy}{w:yp}(h:NewS base vs ls g w)(hn:vs.length=n)(hm:n<=9223372036854775807):GS w base 39 (some ⟨g,0,none⟩) n vs:=by refine⟨by simp,.inr ⟨g,n,vs.toArray,rfl,h.ge,h.blk,by omega,by unfold maxLen;omega,by simp [hn],by simp⟩⟩
section
variable{ops:zp}{Q:zx}{N:Nat}{E:List (Nat×yl)}{w:yp}{o:yk}{rest:zo}{k:Nat}
theorem l_appS{s x:yo}{base c d:Nat}{A X:zt}{vs:zq}{ls:zy}(hg:o.guard=none)(hd:o.dst=some k)(hk:aU k N=true)(ho:o.op = .call { callee:=.builtin .append,args:=#[s,x],argTypes:=#[37,37] })
 (hs:ev E s=some (.slice A vs.length c))(hx:ev E x=some (.slice X ls.length d))(hown:GS w base 39 A c vs){W0:yp}(hW:Up W0 w)(hP:PT W0 X ls)(h0:X=none->d=0/\ls=[])(hb:(vs.length+ls.length)*24<=140737488355328)(hbase:base<=w.heap.size)
 (hn:∀A' c' w' us,All2 W0 us ls->GS w' base 39 A' c' (vs++us)->w.grownBy w' (A.map (·.block))->lF prog ops Q rest N ((k,.slice A' (vs++us).length c')::E) w'):lF prog ops Q (o::rest) N E w:=by
 cases X with
 | none =>
  obtain⟨rfl,rfl⟩:=h0 rfl;obtain⟨i,hi0,hz,hs0,hb⟩:=info_parts cells_slices;have hr:=run_append_owned_none (P:=prog) w base 37 o.type 39 i 1 underlying37 hi0 _ vs.length vs hown;have h1:=hn A c w [] trivial (by rw [bC];exact hown) (World.grownBy.refl _ _);rw [bC] at h1;refine l_val _ hg hd hk (λa ha=>?_) h1;have h2:=ha.eval hs;have h3:=ha.eval hx
  unfold execOp
  simp only [ho,resolve,invoke,builtin,aG,aI,aC,fW,bA,iK,h2,h3,List.length_nil,hr]
 | some ad =>
  obtain⟨us,h1,h2⟩:=pt_vals (w:=W0) (ad:=ad) ls 0 λi l hi=>by obtain⟨ad',e,_,h3⟩:=hP (by have:=(aP.1 hi).1;omega);injection e with e;subst e;obtain⟨A',c',h4,h5⟩:=h3 i l hi;exact⟨_,by rw [aY];exact h4,A',c',rfl,h5⟩
  have hl:=h1.len
  refine l_app (bytes:=24) (z:=.slice none 0 0) (news:=us) (base:=base) (e:=39) (xs:=vs) (A:=A) (c:=c) (ad:=ad) (m:=ls.length) (d:=d) hg hd hk ho hs hx underlying37 cells_slices rfl hown hl (λj u hj=>by have h5:=h2 j u hj;rw [aY] at h5;exact(hW.cell (World.block_lt_of_cell? W0 _ h5)).trans h5) (λu hu=>(h1.one u hu).2) hb (by unfold maxLen;omega) hbase ?_
  intro A' c' w' h3 h4 _
  exact hn A' c' w' us h1 h3 h4
end
structure KeepG(g:Nat)(t:yn)(c:zr)(w w':yp):Prop where
  os:w'.os=w.os
  tape:w'.tape=w.tape
  output:w'.output=w.output
  size:w.heap.size<=w'.heap.size
  block:∀k,k<w.heap.size->k≠g->w'.heap[k]?=w.heap[k]?
  here:g<w.heap.size->w'.heap[g]?=w.heap[g]?\/Blk w' g t c
section
variable{g:Nat}{t:yn}{c:zr}{w w' w'':yp}
def KeepG.of(h:Below w.heap.size w w'):KeepG g t c w w':=⟨h.os,h.tape,h.output,h.size,λk hk _=>h.block k hk,λhk=>.inl (h.block g hk)⟩
instance:RelOk (KeepG g t c):=⟨λ_ _=>KeepG.of⟩
end
section
variable{P:ym}{ops:zp}{Q:zx}{N:Nat}{E:List (Nat×yl)}{w:yp}{o:yk}{rest l:zo}{k:Nat}
def WG(ops:zp)(N:Nat)(E:List (Nat×yl))(o:yk):Prop:=o.guard=none\/∃j b t,o.guard=some (j,b)/\(ops[j]?).bind (·.dst)=some t/\aU t N=true/\look E t=some (.bool b)
def WG.wanted{a:Act}(h:WG ops N E o)(ha:Fr N E a):aQ o (yielded ops a.tmps)=true:=by
 rcases h with h|⟨j,b,t,hgd,hj,hN,ht⟩
 .simp [aQ,h]
 .have htN:t<a.tmps.size:=by rw [ha.size];simpa using hN
  have h2:=ha.get t _ ht;have h3:a.tmps[t]?=some (.bool b):=by simp only [oU,bT] at h2;rw [b8 htN] at h2 ⊢;simpa using h2
  unfold aQ;rw [hgd];simp [yielded,hj,h3]
def l_valW(v:yl)(w':yp)(hw:WG ops N E o)(hd:o.dst=some k)(hk:aU k N=true)(h:∀a,Fr N E a->(execOp a.eval o).run P w = .ok (.value v) w')(hn:lF P ops Q rest N ((k,v)::E) w'):lF P ops Q (o::rest) N E w:=λa ha=>by have h1:=h a ha;have h2:=hn _ (ha.put hk v);unfold wpList;rw [if_pos (hw.wanted ha)];refine .inl ?_;unfold fT;rw [h1];simp only [fB,hd];exact h2
end
def stepV(E:List (Nat×yl)):Op->Option yl
  | .move x=>ev E x
  | .assign x=>ev E x
  | .pick c x y=>match ev E c with
    | some (.bool true)=>ev E x
    | some (.bool false)=>ev E y
    | _=>none
  | .extract x i=>match ev E x with
    | some (.tuple vs)=>vs[i]?
    | _=>none
  | .unOp .not _ x=>match ev E x with
    | some (.bool true)=>some (.bool false)
    | some (.bool false)=>some (.bool true)
    | _=>none
  | .nilCheck x=>match ev E x with
    | some (.pointer (some p))=>some (.pointer (some p))
    | _=>none
  | _=>none
def wantG(ops:zp)(N:Nat)(E:List (Nat×yl))(o:yk):Option Bool :=
  match o.guard with
  | none=>some true
  | some (j,b)=>match (ops[j]?).bind (·.dst) with
    | some t=>match aU t N with
      | true=>match look E t with
        | some (.bool true)=>some b
        | some (.bool false)=>some (!b)
        | _=>none
      | false=>none
    | none=>none
def wantG_ok{ops:zp}{N:Nat}{E:List (Nat×yl)}{a:Act}{o:yk}{q:Bool}(ha:Fr N E a)(h:wantG ops N E o=some q):aQ o (yielded ops a.tmps)=q:=by
 unfold wantG at h;split at h
 .rename_i hg;injection h with h;subst h;simp [aQ,hg]
 .rename_i j b hg
  split at h
  .rename_i t hj
   split at h
   .rename_i hN
    have htN:t<a.tmps.size:=by rw [ha.size];simpa using hN
    have key:∀c,look E t=some (.bool c)->a.tmps[t]?=some (.bool c):=λc hc=>by have h2:=ha.get t _ hc;simp only [oU,bT] at h2;rw [b8 htN] at h2 ⊢;simpa using h2
    split at h
    .rename_i hc;injection h with h;subst h;unfold aQ;rw [hg];simp [yielded,hj,key _ hc]
    .rename_i hc;injection h with h;subst h;unfold aQ;rw [hg];cases b<;>simp [yielded,hj,key _ hc]
    .cases h
   .cases h
  .cases h
def bareO(o:yk):yk:={ o with guard:=none }
section
variable{P:ym}{ops:zp}{Q:zx}
theorem wpList_of_Bs{T:zo}:∀(L:zo) (a:Act) (w:yp),L.all (λo=>stillG o.op)=true->wpB P ops (· = w) (λa'=>wpList P ops Q T a' w) L a->wpList P ops Q (L++T) a w
 | [],_,_,_,h=>h
 | o::L,a,w,hs,h=>by
  rw [List.all_cons,aN] at hs;have key:∀V:yl->Prop,atB P o a w V->(∀v,V v->wpList P ops Q (L++T) (a.put o.dst v) w)->o.wp P a w (wpList P ops Q (L++T)) Q:=λV h3 hk=>by
   unfold atB at h3;unfold fT;have hst:=λn w'=>still_ok (P:=P) (ρ:=a.eval) (o:=o) (w:=w) (w':=w') (n:=n) hs.1;generalize (execOp a.eval o).run P w=r at *;cases r with
   | ok n w' =>
    cases n<;>simp only [uponB] at h3<;>simp only [fB]
    case value u =>
     obtain⟨e1,e2⟩:=h3;rw [e1];exact hk _ e2
    case skip =>
     obtain⟨e1,e2⟩:=h3;rw [e1];exact hk _ e2
    case enter f args =>
     rcases hst _ _ rfl with⟨v,hv⟩|hv<;>cases hv
   | halt x w'=>simp only [uponB] at h3
  rw [qH];unfold wpList;unfold wpB at h;split at h
  .rename_i hw
   rw [if_pos hw];refine .inl ?_;rcases h with⟨v,h3,h4⟩|⟨_,V,h3,h4⟩
   .exact key (· = v) (h3 w rfl) (λu hu=>by rw [hu];exact wpList_of_Bs L _ w hs.2 h4)
   .exact key V (h3 w rfl) (λu hu=>wpList_of_Bs L _ w hs.2 (h4 u hu))
  .rename_i hw;rw [if_neg hw];exact wpList_of_Bs L _ w hs.2 h
variable{N:Nat}{E:List (Nat×yl)}{w:yp}{l T:zo}
end
def argE:Nat->zq->List (Nat×yl)
  | _,[]=>[]
  | j,v::vs=>(j,v)::argE (j+1) vs
theorem argE_look:∀(vs:zq) (j k:Nat) (v:yl),look (argE j vs) k=some v->j<=k/\vs[k-j]?=some v
 | [],_,_,_,h=>by cases h
 | u::vs,j,k,v,h=>by
  rw [argE,look_cons] at h;split at h
  .rename_i e;subst e;cases h;exact⟨aF _,by simp⟩
  .obtain⟨h1,h2⟩:=argE_look vs (j+1) k v h;refine⟨by omega,?_⟩;obtain⟨m,rfl⟩:∃m,k=j+1+m:=⟨k-(j+1),by omega⟩;rw [show j+1+m-(j+1)=m from by omega] at h2;rw [show j+1+m-j=m+1 from by omega];simpa using h2
def calls_F{P:ym}{f:yi}{fn:Func}{c:Code}{vs:zq}{w:yp}{R:Ending->zv}(N:Nat)(hf:P.funcs[f]?=some fn)(hb:fn.body=some c)(hn:vs.length+(fn.ntmps-vs.length)=N)
 (h:cF P c (bodyPost P fn R) N (argE 0 vs) w):Calls P f vs.toArray w R:=by
 refine calls_of_wp hf hb (h _ (Fr.start (by simpa using hn) _ λk v hk=>?_));have:=(argE_look vs 0 k v hk).2
 simpa using this
def Fr.at{N:Nat}{E:List (Nat×yl)}{a:Act}(h:Fr N E a){k:Nat}{v:yl}(hk:look E k=some v):a.tmps.getD k undef=v:=h.get k v hk
def k_ret_row{P:ym}{fn:Func}{R:Ending->zv}{N:Nat}{E:List (Nat×yl)}{w:yp}{q:Tmp}{ty t:yn}{d:TypeDesc}(g:Nat)(cs:zr)(hr:fn.results = #[.cell q ty])(hq:look E q=some (.pointer (some ⟨g,0,none⟩)))(hb:Blk w g t cs)
 (hu:P.underlying ty=some d)(hd:(match d with | .struct _ | .array _ _=>true|_=>false)=true)(hi:(P.info? ty).map (·.size)=some cs.size)(h:R (.returned (.agg cs)) w):kF (bodyPost P fn R .ret) N E w:=λ_ ha=>bodyPost_ret (results_cell_row hr _ _ g t cs (0,0) d (ha.at hq) hb hu hd hi) ha.defers h
section
variable{ops:zp}{Q:zx}{N:Nat}{E:List (Nat×yl)}{w:yp}{o:yk}{rest:zo}{k:Nat}
theorem ev_args{a:Act}(ha:Fr N E a):∀(l:List yo) (m:zq),l.map (ev E)=m.map some->l.map a.eval=m:=by
 intro l;induction l with
 | nil=>intro m h;cases m with
  | nil=>rfl
  | cons=>cases h
 | cons y l ih=>intro m h;cases m with
  | nil=>cases h
  | cons u m =>
   simp only [bA,fO] at h ⊢;exact⟨ha.eval h.1,ih m h.2⟩
def l_call{f:yi}{xs:zg}{ats:zf}(args:zr){R:Ending->zv}(hg:o.guard=none)(hd:o.dst=some k)(hk:aU k N=true)
 (hf:Own f)(hc:Calls prog f args w R)(ho:o.op = .call { callee:=.value (.func f),args:=xs,argTypes:=ats })(hx:xs.toList.map (ev E)=args.toList.map some)
 (hn:∀e w',R e w'->∃v,e = .returned v/\lF prog ops Q rest N ((k,v)::E) w'):lF prog ops Q (o::rest) N E w:=λa ha=>by
 have hr:=run_call_fn (a:=a) hf ho w;rw [map_eval (ev_args ha _ _ hx)] at hr
 unfold wpList
 rw [if_pos (by simp [aQ,hg])];refine .inl ?_
 unfold fT
 rw [hr];simp only [fB,hd]
 exact hc.mono λe w' he=>by obtain⟨v,rfl,h1⟩:=hn e w' he;exact h1 _ (ha.put hk v)
end
structure Chg(D:zm)(w w':yp):Prop where
  os:w'.os=w.os
  tape:w'.tape=w.tape
  output:w'.output=w.output
  size:w.heap.size<=w'.heap.size
  block:∀k,k<w.heap.size->¬D k->w'.heap[k]?=w.heap[k]?
section
variable{D D':zm}{w w' w'':yp}
def Chg.refl(D:zm)(w:yp):Chg D w w:=⟨rfl,rfl,rfl,aF _,λ_ _ _=>rfl⟩
def Chg.step(h:Chg D w w')(k:Chg D' w' w'')(hd:∀i,i<w.heap.size->D' i->D i):Chg D w w'' :=
 ⟨k.os.trans h.os,k.tape.trans h.tape,k.output.trans h.output,Nat.le_trans h.size k.size,λi hi hn=>(k.block i (b9 hi h.size) (λh'=>hn (hd i hi h'))).trans (h.block i hi hn)⟩
def Chg.mono(h:Chg D w w')(hd:∀i,i<w.heap.size->D i->D' i):Chg D' w w':=⟨h.os,h.tape,h.output,h.size,λi hi hn=>h.block i hi λh'=>hn (hd i hi h')⟩
def Chg.of_up(h:Up w w'):Chg D w w':=⟨h.os,h.tape,h.output,h.size,λk hk _=>h.block k hk⟩
def Chg.up(h:Chg D w w')(hd:∀i,i<w.heap.size->¬D i):Up w w':=⟨h.os,h.tape,h.output,h.size,λk hk=>h.block k hk (hd k hk)⟩
def Chg.of_grown{r:zh}(h:w.grownBy w' r):Chg (λk=>r=some k) w w':=⟨h.os,h.tape,h.output,h.size,λk hk hn=>h.block k hk λe=>hn e.symm⟩
def Chg.row(w:yp)(g:Nat)(cs:zr):Chg (λk=>k=g) w (w.setRow g cs):=⟨rfl,rfl,rfl,by simp [World.setRow],λk _ hn=>setRow_other w g k cs hn⟩
end
def Stb(D:zm)(p:zv)(w:yp):Prop:=∀w',Chg D w w'->p w'
section
variable{D D':zm}{w w':yp}{p q:zv}
def Stb.now(h:Stb D p w):p w:=h w (Chg.refl _ _)
def Stb.step(h:Stb D p w)(k:Chg D w w'):Stb D p w':=λw2 h2=>h w2 (k.step h2 λ_ _ h=>h)
def Stb.less(h:Stb D p w)(hd:∀k,k<w.heap.size->D' k->D k):Stb D' p w:=λw2 h2=>h w2 (h2.mono hd)
def Stb.imp(h:Stb D p w)(hpq:∀w,p w->q w):Stb D q w:=λw2 h2=>hpq _ (h w2 h2)
def Stb.and(h:Stb D p w)(h':Stb D q w):Stb D (λw=>p w/\q w) w:=λw2 h2=>⟨h w2 h2,h' w2 h2⟩
def Stb.past(h:Stb D p w)(k:Chg D w w')(hd:∀i,i<w.heap.size->D' i->D i):Stb D' p w':=λw2 h2=>h w2 (k.step h2 hd)
end
class Pst (p:zv):Prop where
  later:∀w w',p w->Below w.heap.size w w'->p w'
def Stb.of_pst{p:zv}[hp:Pst p]{D:zm}{w:yp}(h:p w)(hd:∀k,k<w.heap.size->¬D k):Stb D p w:=λw' hw=>hp.later w w' h (hw.up hd)
inductive SC where
  | v (x:yl)
  | b (e:Bool)
  | o (x:yl)
def SC.den:SC->yl
  | .v x=>x
  | .b e=>.bool e
  | .o x=>x
def SC.Ok:SC->Prop
  | .v _=>True
  | .b _=>True
  | .o x=>x.oneCell'=true/\x.cells = #[x]
inductive Pt where
  | one (s:SC)
  | agg (n:Nat) (cs:zr)
abbrev zb:=List Pt
def Pt.cells:Pt->zr
  | .one s=>#[s.den]
  | .agg _ cs=>cs
def Pt.size:Pt->Nat
  | .one _=>1
  | .agg n _=>n
def Pt.Ok:Pt->Prop
  | .one s=>s.Ok/\s.den.oneCell'=true/\s.den.cells = #[s.den]
  | .agg n cs=>cs.size=n/\∀v∈cs.toList,v.oneCell'=true
theorem Pt.Ok.size{p:Pt}(h:p.Ok):p.cells.size=p.size:=by
 cases p with
 | one v=>rfl
 | agg n cs=>exact h.1
theorem Pt.Ok.one{p:Pt}(h:p.Ok):∀v∈p.cells.toList,v.oneCell'=true:=by
 cases p with
 | one v=>intro u hu;simp [Pt.cells] at hu;subst hu;exact h.2.1
 | agg n cs=>exact h.2
def catP:zb->zr
  | []=>#[]
  | [p]=>p.cells
  | p::q::r=>p.cells++catP (q::r)
def sizeP:zb->Nat
  | []=>0
  | p::r=>p.size+sizeP r
def OkP(ps:zb):Prop:=∀p∈ps,p.Ok
theorem catP_cons(p:Pt)(r:zb):catP (p::r)=p.cells++catP r:=by
 cases r with
 | nil=>simp [catP]
 | cons q r=>rfl
theorem OkP.size:∀{ps:zb},OkP ps->(catP ps).size=sizeP ps
 | [],_=>rfl
 | p::r,h=>by rw [catP_cons,Array.size_append,OkP.size (ps:=r) (λq hq=>h q (by simp [hq])),(h p (by simp)).size];rfl
theorem OkP.one:∀{ps:zb},OkP ps->∀v∈(catP ps).toList,v.oneCell'=true
 | [],_,v,hv=>by simp [catP] at hv
 | p::r,h,v,hv=>by
  rw [catP_cons,dE,bK] at hv;rcases hv with hv|hv
  .exact(h p (by simp)).one v hv
  .exact OkP.one (ps:=r) (λq hq=>h q (by simp [hq])) v hv
def atP:zb->Nat->Option Pt
  | [],_=>none
  | p::r,off=>match bW off 0 with
    | true=>some p
    | false=>match tH p.size off with
      | true=>atP r (off-p.size)
      | false=>none
def setP:zb->Nat->Pt->Option zb
  | [],_,_=>none
  | p::r,off,q=>match bW off 0 with
    | true=>match bW p.size q.size with
      | true=>some (q::r)
      | false=>none
    | false=>match tH p.size off with
      | true=>(setP r (off-p.size) q).map (p :: ·)
      | false=>none
theorem atP_ok:∀{ps:zb} {off:Nat} {p:Pt},OkP ps->atP ps off=some p->p.Ok/\∃A Z,(catP ps).toList=A++(p.cells.toList++Z)/\A.length=off
 | [],_,_,_,h=>by cases h
 | q::r,off,p,hok,h=>by
  have hq:=hok q (by simp);unfold atP at h;split at h
  .rename_i e;injection h with h;subst h;exact⟨hq,[],(catP r).toList,by rw [catP_cons];simp,by simpa using (aO e).symm⟩
  .split at h
   .rename_i e;have e:=aE e;obtain⟨h1,A,Z,h2,h3⟩:=atP_ok (λx hx=>hok x (by simp [hx])) h;exact⟨h1,q.cells.toList++A,Z,by rw [catP_cons,dE,h2,aT],by rw [aA,h3,bG,hq.size];omega⟩
   .cases h
theorem setP_ok:∀{ps ps':zb} {off:Nat} {q:Pt},OkP ps->q.Ok->setP ps off q=some ps'->OkP ps'/\sizeP ps'=sizeP ps/\∃A B Z,(catP ps).toList=A++(B++Z)/\A.length=off/\B.length=q.size/\(catP ps').toList=A++(q.cells.toList++Z)
 | [],_,_,_,_,_,h=>by cases h
 | p::r,ps',off,q,hok,hq,h=>by
  have hp:=hok p (by simp);unfold setP at h;split at h
  .rename_i e
   split at h
   .rename_i e2
    injection h with h;subst h;have e2:=aO e2;refine⟨λx hx=>?_,by simp only [sizeP,e2],[],p.cells.toList,(catP r).toList,by rw [catP_cons];simp,by simpa using (aO e).symm,by rw [bG,hp.size,e2],by rw [catP_cons];simp⟩;rcases aH.1 hx with rfl|hx
    .exact hq
    .exact hok x (by simp [hx])
   .cases h
  .split at h
   .rename_i e
    have e:=aE e;cases hs:setP r (off-p.size) q with
    | none=>rw [hs] at h;cases h
    | some r' =>
     rw [hs] at h;simp only [bS,a8] at h;subst h;obtain⟨h1,h2,A,B,Z,h3,h4,h5,h6⟩:=setP_ok (λx hx=>hok x (by simp [hx])) hq hs;refine⟨λx hx=>?_,by simp only [sizeP,h2],p.cells.toList++A,B,Z,by rw [catP_cons,dE,h3,aT],by rw [aA,h4,bG,hp.size];omega,h5,by rw [catP_cons,dE,h6,aT]⟩
     rcases aH.1 hx with rfl|hx
     .exact hp
     .exact h1 x hx
   .cases h
inductive SQ where
  | c (s:SC)
  | p (ps:zb)
abbrev yq:=List SQ
def SQ.den:SQ->yl
  | .c s=>s.den
  | .p ps=>.agg (catP ps)
def SQ.Ok:SQ->Prop
  | .c s=>s.Ok
  | .p ps=>OkP ps
inductive SV where
  | q (x:SQ)
  | a (j off:Nat)
  | s (j off n c:Nat)
  | t (vs:yq)
abbrev yu:=List SV
@[match_pattern] abbrev SV.v(x:yl):SV:=.q (.c (.v x))
@[match_pattern] abbrev SV.b(e:Bool):SV:=.q (.c (.b e))
@[match_pattern] abbrev SV.o(x:yl):SV:=.q (.c (.o x))
@[match_pattern] abbrev SV.p(ps:zb):SV:=.q (.p ps)
def SV.den(G:zk):SV->yl
  | .q x=>x.den
  | .a j off=>.pointer (some ⟨G j,off,none⟩)
  | .s j off n c=>.slice (some ⟨G j,off,none⟩) n c
  | .t vs=>.tuple (vs.map SQ.den).toArray
def SV.Ok:SV->Prop
  | .q x=>x.Ok
  | .a _ _=>True
  | .s _ _ _ _=>True
  | .t vs=>∀x∈vs,x.Ok
def SV.farB(j:Nat):SV->Bool
  | .a i _=>!Nat.beq i j
  | .s i _ _ _=>!Nat.beq i j
  | _=>true
abbrev SE:=List (Nat×SV)
def lookS:SE->Nat->Option SV
  | [],_=>none
  | (k,v)::r,j=>match bW k j with
    | true=>some v
    | false=>lookS r j
def denE(G:zk):SE->List (Nat×yl)
  | []=>[]
  | (k,v)::r=>(k,v.den G)::denE G r
theorem look_den(G:zk):∀(E:SE) (j:Nat),look (denE G E) j=(lookS E j).map (SV.den G)
 | [],_=>rfl
 | (k,v)::r,j=>by
  unfold denE look lookS;cases bW k j with
  | true=>rfl
  | false=>exact look_den G r j
def OkE(E:SE):Prop:=∀x∈E,x.2.Ok
theorem lookS_mem:∀{E:SE} {j:Nat} {v:SV},lookS E j=some v->(j,v)∈E
 | [],_,_,h=>by cases h
 | (k,u)::r,j,v,h=>by
  unfold lookS at h;split at h
  .rename_i e;obtain rfl:=aO e;cases h;exact aM
  .exact aK _ (lookS_mem h)
def OkE.get{E:SE}(h:OkE E){j:Nat}{v:SV}(hj:lookS E j=some v):v.Ok:=h _ (lookS_mem hj)
def OkE.cons{E:SE}(h:OkE E){k:Nat}{v:SV}(hv:v.Ok):OkE ((k,v)::E):=λx hx=>by
 rcases aH.1 hx with rfl|hx
 .exact hv
 .exact h x hx
def evS(E:SE):yo->Option SV
  | .tmp t=>lookS E t
  | .const v=>some (.v v)
  | .global g=>some (.v (.pointer (some ⟨g,0,none⟩)))
  | .func f=>some (.v (.func (.func f) #[] #[]))
theorem evS_ok{G:zk}{E:SE}{x:yo}{v:SV}(h:evS E x=some v):ev (denE G E) x=some (v.den G):=by
 cases x with
 | tmp t =>
  show look (denE G E) t=_
  rw [look_den];rw [show lookS E t=some v from h]
  rfl
 | const u=>cases h;rfl
 | global g=>cases h;rfl
 | func f=>cases h;rfl
theorem OkE.ev{E:SE}(h:OkE E){x:yo}{v:SV}(hx:evS E x=some v):v.Ok:=by
 cases x with
 | tmp t=>exact h.get hx
 | const u=>cases hx;trivial
 | global g=>cases hx;trivial
 | func f=>cases hx;trivial
def evSs(E:SE):List yo->Option yu
  | []=>some []
  | x::r=>match evS E x,evSs E r with
    | some v,some vs=>some (v::vs)
    | _,_=>none
theorem evSs_ok{G:zk}{E:SE}:∀{xs:List yo} {vs:yu},evSs E xs=some vs->xs.map (ev (denE G E))=(vs.map (SV.den G)).map some
 | [],vs,h=>by cases h;rfl
 | x::r,vs,h=>by
  unfold evSs at h;split at h
  .rename_i v us h1 h2;injection h with h;subst h;rw [bA,evS_ok h1,evSs_ok h2];rfl
  .cases h
structure LV where
  j:Nat
  g:zh
  t:yn
  ps:zb
abbrev ze:=List LV
def lookL:ze->Nat->Option zb
  | [],_=>none
  | x::r,j=>match bW x.j j with
    | true=>some x.ps
    | false=>lookL r j
theorem lookL_mem:∀{L:ze} {j:Nat} {ps:zb},lookL L j=some ps->∃x∈L,x.j=j/\x.ps=ps
 | [],_,_,h=>by cases h
 | x::r,j,ps,h=>by
  unfold lookL at h;split at h
  .rename_i e;injection h with h;exact⟨x,aM,aO e,h⟩
  .obtain⟨y,h1,h2⟩:=lookL_mem h;exact⟨y,aK _ h1,h2⟩
def putL:ze->Nat->zb->ze
  | [],_,_=>[]
  | x::r,j,ps=>match bW x.j j with
    | true=>{ x with ps:=ps }::r
    | false=>x::putL r j ps
def namesL(L:ze):zj:=L.map (·.j)
theorem putL_names:∀(L:ze) (j:Nat) (ps:zb),namesL (putL L j ps)=namesL L
 | [],_,_=>rfl
 | x::r,j,ps=>by
  unfold putL;split
  .rfl
  .exact congrArg (x.j :: ·) (putL_names r j ps)
def farL(j:Nat):ze->Bool
  | []=>true
  | x::r=>!Nat.beq x.j j&&farL j r
structure Res where
  holds:yp->zm->Prop
  keep:∀{w w':yp} {S:zm},holds w S->(∀k,S k->w'.heap[k]?=w.heap[k]?)->holds w' S
  lt:∀{w:yp} {S:zm},holds w S->∀k,S k->k<w.heap.size
abbrev zd:=List Res
def starL:zd->yp->zm->Prop
  | [],_,S=>∀k,¬S k
  | r::R,w,S=>∃S1 S2,r.holds w S1/\starL R w S2/\(∀k,S k↔S1 k\/S2 k)/\∀k,S1 k->¬S2 k
theorem starL.keep:∀{R:zd} {w w':yp} {S:zm},starL R w S->(∀k,S k->w'.heap[k]?=w.heap[k]?)->starL R w' S
 | [],_,_,_,h,_=>h
 | r::_,_,_,_,⟨S1,S2,h1,h2,h3,h4⟩,hk=>⟨S1,S2,r.keep h1 λk hs=>hk k ((h3 k).2 (.inl hs)),h2.keep λk hs=>hk k ((h3 k).2 (.inr hs)),h3,h4⟩
theorem starL.lt:∀{R:zd} {w:yp} {S:zm},starL R w S->∀k,S k->k<w.heap.size
 | [],_,_,h,k,hs=>absurd hs (h k)
 | r::_,_,_,⟨_,_,h1,h2,h3,_⟩,k,hs=>((h3 k).1 hs).elim (r.lt h1 k) (h2.lt k)
def starL.same{R:zd}{w:yp}{S S':zm}(h:starL R w S)(e:∀k,S k↔S' k):starL R w S':=by
 have:S=S':=funext λk=>propext (e k)
 rwa [<-this]
theorem starL.app:∀{R R':zd} {w:yp} {S:zm},starL (R++R') w S↔∃S1 S2,starL R w S1/\starL R' w S2/\(∀k,S k↔S1 k\/S2 k)/\∀k,S1 k->¬S2 k
 | [],R',w,S=>⟨λh=>⟨λ_=>False,S,λ_ h=>h,h,λk=>⟨.inr,λh=>h.elim False.elim id⟩,λ_ h=>h.elim⟩,λ⟨S1,S2,h1,h2,h3,_⟩=>by show starL R' w S;exact h2.same λk=>⟨λh=>(h3 k).2 (.inr h),λh=>((h3 k).1 h).resolve_left (h1 k)⟩⟩
 | r::R,R',w,S=>by
  constructor
  .rintro⟨S1,S2,h1,h2,h3,h4⟩
   obtain⟨S3,S4,h5,h6,h7,h8⟩:=starL.app.1 h2;refine⟨λk=>S1 k\/S3 k,S4,⟨S1,S3,h1,h5,λk=>iE,λk hk h=>h4 k hk ((h7 k).2 (.inl h))⟩,h6,λk=>?_,λk hk h=>?_⟩
   .rw [h3 k,h7 k,or_assoc]
   .rcases hk with hk|hk
    .exact h4 k hk ((h7 k).2 (.inr h))
    .exact h8 k hk h
  .rintro⟨S0,S4,⟨S1,S3,h1,h5,h9,h10⟩,h6,h3,h8⟩
   refine⟨S1,λk=>S3 k\/S4 k,h1,starL.app.2 ⟨S3,S4,h5,h6,λk=>iE,λk hk=>h8 k ((h9 k).2 (.inr hk))⟩,λk=>by rw [h3 k,h9 k,or_assoc],λk hk h=>?_⟩;rcases h with h|h
   .exact h10 k hk h
   .exact h8 k ((h9 k).2 (.inl hk)) h
theorem starL.perm{R R':zd}(h:R.Perm R'):∀{w:yp} {S:zm},starL R w S->starL R' w S:=by
 induction h with
 | nil=>exact λh=>h
 | cons r _ ih =>
  rintro w S ⟨S1,S2,h1,h2,h3⟩
  exact⟨S1,S2,h1,ih h2,h3⟩
 | swap r r' R =>
  rintro w S ⟨S1,S2,h1,⟨S3,S4,h3,h4,h5,h6⟩,h7,h8⟩
  refine⟨S3,λk=>S1 k\/S4 k,h3,⟨S1,S4,h1,h4,λ_=>iE,λk hk hk'=>h8 k hk ((h5 k).2 (.inr hk'))⟩,λk=>?_,λk hk hk'=>?_⟩
  .rw [h7 k,h5 k,<-or_assoc,<-or_assoc,or_comm (a:=S1 k)]
  .rcases hk' with hk'|hk'
   .exact h8 k hk' ((h5 k).2 (.inl hk))
   .exact h6 k hk hk'
 | trans _ _ ih1 ih2=>exact λh=>ih2 (ih1 h)
theorem starL.at:∀{R:zd} {i:Nat} {r:Res} {w:yp} {S:zm},starL R w S->R[i]?=some r->∃S1 S2,r.holds w S1/\(∀k,S k↔S1 k\/S2 k)/\(∀k,S1 k->¬S2 k)/\starL (R.eraseIdx i) w S2 /\
  ∀(r':Res) (w':yp) (S':zm),r'.holds w' S'->(∀k,S2 k->w'.heap[k]?=w.heap[k]?)->(∀k,S' k->¬S2 k)->starL (R.set i r') w' λk=>S' k\/S2 k
 | [],_,_,_,_,_,h=>by simp at h
 | r0::R,0,r,w,S,⟨S1,S2,h1,h2,h3,h4⟩,h=>by simp only [bR,a8] at h;subst h;exact⟨S1,S2,h1,h3,h4,h2,λr' w' S' hr hk hd=>⟨S',S2,hr,h2.keep hk,λ_=>iE,hd⟩⟩
 | r0::R,i+1,r,w,S,⟨S0,S',h1,h2,h3,h4⟩,h=>by
  obtain⟨S1,S2,h5,h6,h7,h8,h9⟩:=starL.at h2 (by simpa using h);refine⟨S1,λk=>S0 k\/S2 k,h5,λk=>?_,λk hk hk'=>?_,⟨S0,S2,h1,h8,λ_=>iE,λk hk hk'=>h4 k hk ((h6 k).2 (.inr hk'))⟩,λr' w' S3 hr hk hd=>?_⟩
  .rw [h3 k,h6 k,<-or_assoc,<-or_assoc,or_comm (a:=S0 k)]
  .rcases hk' with hk'|hk'
   .exact h4 k hk' ((h6 k).2 (.inl hk))
   .exact h7 k hk hk'
  .refine⟨S0,λk=>S3 k\/S2 k,r0.keep h1 λk hs=>hk k (.inl hs),h9 r' w' S3 hr (λk hs=>hk k (.inr hs)) (λk hs hs'=>hd k hs (.inr hs')),λk=>?_,λk hk0 hs=>?_⟩
   .exact or_left_comm
   .rcases hs with hs|hs
    .exact hd k hs (.inl hk0)
    .exact h4 k hk0 ((h6 k).2 (.inr hs))
structure Env where
  E:SE
  L:ze
  R:zd
  F:zv
  M:zv
def Mine(S:zm)(G:zk)(L:ze)(k:Nat):Prop:=S k\/∃j∈namesL L,G j=k
def Dof(X S:zm)(G:zk)(L:ze)(k:Nat):Prop:=X k\/Mine S G L k
structure Base where
  X:zm
  B:yp
  D:zm
def Nof(b:Base)(S:zm)(G:zk)(L:ze)(k:Nat):Prop:=k<b.B.heap.size\/Mine S G L k
structure StW(b:Base)(G:zk)(S:zm)(L:ze)(R:zd)(F M:zv)(w:yp):Prop where
  var:∀x∈L,Blk w (G x.j) x.t (catP x.ps)/\OkP x.ps/\∀g,x.g=some g->G x.j=g
  apart:(namesL L).Pairwise λi j=>G i≠G j
  res:starL R w S
  sep:∀j∈namesL L,¬S (G j)
  fact:Stb (Dof b.X S G L) F w
  fresh:Stb (Nof b S G L) M w
  chg:Chg b.D b.B w
  mine:∀k,Mine S G L k->k<b.B.heap.size->b.D k
  old:∀k,b.X k->k<b.B.heap.size/\¬b.D k
structure StA(b:Base)(N:Nat)(e:Env)(G:zk)(S:zm)(a:Act)(w:yp):Prop where
  fr:Fr N (denE G e.E) a
  ok:OkE e.E
  st:StW b G S e.L e.R e.F e.M w
def St(b:Base)(N:Nat)(e:Env)(a:Act)(w:yp):Prop:=∃G S,StA b N e G S a w
section
variable{b:Base}{G:zk}{S:zm}{L:ze}{R:zd}{F M:zv}{w w':yp}
def Dof.nof(h:∀k,b.X k->k<b.B.heap.size/\¬b.D k){k:Nat}(hk:Dof b.X S G L k):Nof b S G L k:=hk.imp (λhx=>(h k hx).1) id
def StW.lt(h:StW b G S L R F M w):∀k,Mine S G L k->k<w.heap.size:=λk hk=>by
 rcases hk with hk|⟨j,hj,rfl⟩
 .exact h.res.lt k hk
 .obtain⟨x,hx,rfl⟩:=aZ.1 hj;exact(h.var x hx).1.lt
def StW.later(h:StW b G S L R F M w)(k:Below w.heap.size w w'):StW b G S L R F M w' :=
 ⟨λx hx=>⟨(h.var x hx).1.later k,(h.var x hx).2⟩,h.apart,h.res.keep λi hi=>k.block i (h.res.lt i hi),h.sep,h.fact.step (Chg.of_up k),h.fresh.step (Chg.of_up k),h.chg.step (D':=λ_=>False) (Chg.of_up k) (λ_ _ h=>h.elim),h.mine,h.old⟩
def StW.all(h:StW b G S L R F M w):Stb (Dof b.X S G L) (λw=>F w/\M w) w:=h.fact.and (h.fresh.less λ_ _ hk=>hk.nof h.old)
def StW.imp(h:StW b G S L R F M w){F' M':zv}(hF:∀w,F w->M w->F' w)(hM:∀w,M w->M' w):StW b G S L R F' M' w:={ h with fact:=h.all.imp λw hw=>hF w hw.1 hw.2,fresh:=h.fresh.imp hM }
def StW.and(h:StW b G S L R F M w){p:zv}(hp:Stb (Dof b.X S G L) p w):StW b G S L R (λw=>p w/\F w) M w:={ h with fact:=hp.and h.fact }
def StW.andM(h:StW b G S L R F M w){p:zv}(hp:Stb (Nof b S G L) p w):StW b G S L R F (λw=>p w/\M w) w:={ h with fresh:=hp.and h.fresh }
end
structure TyR where
  t:yn
  kind:Nat
  zero:zb
  el:Option yn:=none
  ik:Option yj:=none
  pt:Bool:=false
  w:Nat:=8
abbrev yw:=List TyR
def kindOf:TypeDesc->Nat
  | .array _ _=>1
  | .struct _=>2
  | _=>0
def elOf:TypeDesc->Option yn
  | .slice e=>some e
  | _=>none
def ikOf:TypeDesc->Option yj
  | .int k=>some k
  | _=>none
def ptOf:TypeDesc->Bool
  | .pointer _=>true
  | _=>false
def rowOf(P:ym)(t:yn):Option (Nat×Option zr×Nat×Option (List (Nat×Nat))×Option yn×Option yj×Bool×Nat) :=
  match P.info? t,P.underlying t with
  | some it,some d=>some (it.size,it.zero.map (·.cells),kindOf d,(match d with
    | .struct fs=>fs.toList.mapM λf=>(P.info? f.type).map λi=>(f.offset,i.size)
    | .array _ e=>(P.info? e).map λ_=>[]
    | _=>some []),elOf d,ikOf d,ptOf d,it.bytes)
  | _,_=>none
def placesP:Nat->zb->List (Nat×Nat)
  | _,[]=>[]
  | o,p::r=>(o,p.size)::placesP (o+p.size) r
def TyR.ok(P:ym)(r:TyR):Prop:=rowOf P r.t=some (sizeP r.zero,some (catP r.zero),r.kind,some (match r.kind with|2=>placesP 0 r.zero|_=>[]),r.el,r.ik,r.pt,r.w)/\OkP r.zero
def OkT(P:ym)(T:yw):Prop:=∀r∈T,r.ok P
def isOneB:yl->Bool
  | .agg _=>false
  | .tuple _=>false
  | _=>true
def isOneB_ok{v:yl}(h:isOneB v=true):v.oneCell'=true/\v.cells = #[v]:=by cases v<;>first|exact⟨rfl,rfl⟩|cases h
def okPB(ps:zb):Bool:=ps.all λp=>match p with
  | .one (.v v)=>isOneB v
  | .one _=>false
  | .agg n cs=>cs.size==n&&cs.toList.all λv=>v.oneCell'
theorem okPB_ok{ps:zb}(h:okPB ps=true):OkP ps:=λp hp=>by
 have:=b7.1 h p hp;cases p with
 | one s =>
  cases s with
  | v x=>exact⟨trivial,isOneB_ok this⟩
  | b e=>cases this
  | o x=>cases this
 | agg n cs =>
  simp only [aN,beq_iff_eq,b7] at this;exact this
def okT_of{P:ym}{T:yw}(h:T.map (λr=>rowOf P r.t)=T.map λr=>some (sizeP r.zero,some (catP r.zero),r.kind,some (match r.kind with|2=>placesP 0 r.zero|_=>[]),r.el,r.ik,r.pt,r.w))
 (h2:(T.all λr=>okPB r.zero)=true):OkT P T:=λr hr=>by
 refine⟨?_,okPB_ok (b7.1 h2 r hr)⟩;obtain⟨i,hi,rfl⟩:=mK hr;have h1:=congrArg (·[i]?) h
 simpa [hi] using h1
def findT:yw->yn->Option TyR
  | [],_=>none
  | r::T,t=>match bW r.t t with
    | true=>some r
    | false=>findT T t
theorem findT_ok{P:ym}:∀{T:yw} {t:yn} {r:TyR},OkT P T->findT T t=some r->r.ok P/\r.t=t
 | [],_,_,_,h=>by cases h
 | r0::T,t,r,hT,h=>by
  unfold findT at h;split at h
  .rename_i e;injection h with h;subst h;exact⟨hT _ aM,aO e⟩
  .exact findT_ok (λr hr=>hT r (aK _ hr)) h
section
variable{P:ym}{r:TyR}
def TyR.ok.info(h:r.ok P):∃it d,P.info? r.t=some it/\P.underlying r.t=some d/\it.size=sizeP r.zero/\it.zero.map (·.cells)=some (catP r.zero)/\kindOf d=r.kind /\
  (match d with | .struct fs=>fs.toList.mapM λf=>(P.info? f.type).map λi=>(f.offset,i.size) | .array _ e=>(P.info? e).map λ_=>[]|_=>some [])=some (match r.kind with|2=>placesP 0 r.zero|_=>[])/\elOf d=r.el/\ikOf d=r.ik/\ptOf d=r.pt/\it.bytes=r.w:=by
 have h1:=h.1
 unfold rowOf at h1
 split at h1
 .rename_i it d h2 h3;simp only [a8,cK] at h1;exact⟨it,d,h2,h3,h1.1,h1.2.1,h1.2.2.1,h1.2.2.2.1,h1.2.2.2.2⟩
 .cases h1
end
def kind_row{d:TypeDesc}(h:kindOf d≠0):d.isRow=true:=by cases d<;>first|rfl|exact absurd rfl h
def kind_not{d:TypeDesc}(h:kindOf d=0):d.isRow=false:=by cases d<;>first|rfl|cases h
def loadS(T:yw)(ps:zb)(t:yn)(off:Nat):Option SQ:=match findT T t with
  | none=>none
  | some r=>match r.kind with
    | 0=>match atP ps off with
      | some (.one v)=>some (.c v)
      | _=>none
    | _+1=>match bW off 0,bW (sizeP ps) (sizeP r.zero) with
      | true,true=>some (.p ps)
      | _,_=>match atP ps off with
        | some (.agg n cs)=>match bW n (sizeP r.zero) with
          | true=>some (.p [.agg n cs])
          | false=>none
        | _=>none
def range_of{w:yp}{g ty:Nat}{cs:zr}{A B Z:zq}(hb:Blk w g ty cs)(h:cs.toList=A++(B++Z)):w.rangeAt g A.length B:=λj v hj=>by
 rw [hb.cell];have h1:cs.toList[A.length+j]?=some v:=by rw [h,bN (by omega),fM,cW (aP.1 hj).1];exact hj
 simpa using h1
def run_load_cell{P:ym}{w:yp}{t:yn}{a:Addr}{v:yl}{d:TypeDesc}(hu:P.underlying t=some d)(hd:d.isRow=false)(hc:w.cell? a=some v):(jW t (.pointer (some a))).run P w = .ok v w:=by
 have h1:(isAgg t).run P w = .ok false w:=by unfold isAgg;simp only [aG,run_underlying hu,aC];cases d<;>first|rfl|cases hd
 simp only [jW,fX,loadVar,aG,aI,aC,h1,jJ,if_false];simp [load,Sem.run,hc]
def run_load_row{P:ym}{w:yp}{t:yn}{g off:Nat}{cs:zr}{d:TypeDesc}(hu:P.underlying t=some d)(hd:d.isRow=true)(hi:(P.info? t).map (·.size)=some cs.size)(hc:w.rangeAt g off cs.toList) :
  (jW t (.pointer (some ⟨g,off,none⟩))).run P w = .ok (.agg cs) w:=by
 have h1:=run_loadVar_mid w g off t cs.toList d hc hu hd (by simpa using hi);simp only [jW,fX,aG,aI,aC,h1,eH]
def range_in{w:yp}{g base:Nat}{cs A B Z:zq}(hb:w.rangeAt g base cs)(h:cs=A++(B++Z)):w.rangeAt g (base+A.length) B:=λj v hj=>by rw [bZ];refine hb (A.length+j) v ?_;rw [h,bN (by omega),fM,cW (aP.1 hj).1];exact hj
def loadS_at{P:ym}{T:yw}(hT:OkT P T){ps:zb}{t:yn}{off:Nat}{q:SQ}(hok:OkP ps)(h:loadS T ps t off=some q) :
  q.Ok/\∀{w:yp} {g base:Nat},w.rangeAt g base (catP ps).toList->(jW t (.pointer (some ⟨g,base+off,none⟩))).run P w = .ok q.den w:=by
 unfold loadS at h
 split at h
 .cases h
 rename_i r hr
 have hro:=findT_ok hT hr;clear hr;obtain⟨hro,rfl⟩:=hro;obtain⟨it,d,h1,h2,h3,h4,h5, -⟩:=hro.info
 split at h
 .rename_i hk
  split at h
  .rename_i v hv
   injection h with h;subst h;obtain⟨ho,A,Z,e,hA⟩:=atP_ok hok hv;refine⟨ho.1,λhb=>run_load_cell h2 (kind_not (by rw [h5,hk])) ?_⟩;have:=range_in hb e 0 v.den rfl
   rwa [hA,cD] at this
  .cases h
 .rename_i hk
  have hd:d.isRow=true:=kind_row (by rw [h5,hk];omega);split at h
  .rename_i e1 e2;injection h with h;subst h;obtain rfl:=aO e1;exact⟨hok,λhb=>run_load_row h2 hd (by rw [h1,bS,h3,hok.size,aO e2]) hb⟩
  .split at h
   .rename_i n cs hv
    split at h
    .rename_i e
     injection h with h;subst h;obtain⟨ho,A,Z,e3,hA⟩:=atP_ok hok hv;refine⟨λp hp=>by rw [aD.1 hp];exact ho,λhb=>run_load_row h2 hd (by rw [h1,bS,h3];exact congrArg some ((aO e).symm.trans ho.1.symm)) ?_⟩;have:=range_in hb e3
     rwa [hA] at this
    .cases h
   .cases h
def loadS_ok{P:ym}{T:yw}(hT:OkT P T){ps:zb}{t:yn}{off:Nat}{q:SQ}(hok:OkP ps)(h:loadS T ps t off=some q) :
  q.Ok/\∀{w:yp} {g ty:Nat},Blk w g ty (catP ps)->(jW t (.pointer (some ⟨g,off,none⟩))).run P w = .ok q.den w:=by
 obtain⟨h1,h2⟩:=loadS_at hT hok h;refine⟨h1,λ{w g ty} hb=>?_⟩;have h3:w.rangeAt g 0 (catP ps).toList:=range_of (A:=[]) (Z:=[]) hb (by simp);have:=h2 h3
 rwa [aY] at this
def fitC:SC->Bool
  | .v x=>isOneB x
  | _=>true
theorem fitC_ok{s:SC}(hs:s.Ok)(h:fitC s=true):s.den.oneCell'=true/\s.den.cells = #[s.den]:=by
 cases s with
 | v x=>exact isOneB_ok h
 | b e=>exact⟨rfl,rfl⟩
 | o x=>exact hs
def fitP(n:Nat):SQ->Option Pt
  | .c s=>match bW n 1,fitC s with
    | true,true=>some (.one s)
    | _,_=>none
  | .p ps=>match bW (sizeP ps) n with
    | true=>match ps with
      | [.agg m cs]=>some (.agg m cs)
      | _=>some (.agg n (catP ps))
    | false=>none
theorem fitP_ok{n:Nat}{q:SQ}{p:Pt}(hq:q.Ok)(h:fitP n q=some p):p.Ok/\p.size=n/\q.den.cells=p.cells:=by
 cases q with
 | c s =>
  simp only [fitP] at h
  split at h
  .rename_i e1 e2;injection h with h;subst h;obtain⟨h1,h2⟩:=fitC_ok hq e2;exact⟨⟨hq,h1,h2⟩,(aO e1).symm,h2⟩
  .cases h
 | p ps =>
  simp only [fitP] at h
  split at h
  .rename_i e
   have e:=aO e;split at h
   .rename_i m cs;injection h with h;subst h;exact⟨hq _ aM,e,rfl⟩
   .injection h with h;subst h;exact⟨⟨(OkP.size hq).trans e,OkP.one hq⟩,rfl,rfl⟩
  .cases h
def SQ.parts:SQ->Option zb
  | .p ps=>some ps
  | _=>none
theorem SQ.parts_ok{q:SQ}{ps:zb}(h:q.parts=some ps):q = .p ps:=by
 cases q with
 | c x=>cases h
 | p qs=>cases h;rfl
def storeS(T:yw)(ps:zb)(t:yn)(off:Nat)(q:SQ):Option zb:=match findT T t with
  | none=>none
  | some r=>match bW off 0,bW (sizeP ps) (sizeP r.zero),q.parts with
    | true,true,some qs=>match bW (sizeP qs) (sizeP r.zero) with
      | true=>some qs
      | false=>none
    | _,_,_=>match fitP (sizeP r.zero) q with
      | some p=>setP ps off p
      | none=>none
theorem run_store_part{P:ym}{w:yp}{t:yn}{g off ty:Nat}{v:yl}{cs:zr}(hb:Blk w g ty cs)(hi:(P.info? t).map (·.size)=some v.cells.size)(hfit:off+v.cells.size<=cs.size)(h1:∀u∈v.cells.toList,u.oneCell'=true) :
  (mM t (.pointer (some ⟨g,off,none⟩)) v).run P w = .ok () (w.setRow g (cs.toList.take off++v.cells.toList++cs.toList.drop (off+v.cells.size)).toArray):=by
 have hst:=run_storeCells_at P g off ty v.cells.toList 0 cs w hb (by simp;omega) h1;simp only [cD,bG] at hst
 cases hq:P.info? t with
 | none=>simp [hq] at hi
 | some i =>
  have hs:i.size=v.cells.size:=by simpa [hq] using hi
  simp [mM,fX,storeVar,sizeOf,typeInfo,hq,hs,aG,hst]
def storeS_ok{P:ym}{T:yw}(hT:OkT P T){ps ps':zb}{t:yn}{off:Nat}{q:SQ}(hok:OkP ps)(hq:q.Ok)(h:storeS T ps t off q=some ps') :
  OkP ps'/\∀{w:yp} {g ty:Nat},Blk w g ty (catP ps)->(mM t (.pointer (some ⟨g,off,none⟩)) q.den).run P w = .ok () (w.setRow g (catP ps')):=by
 unfold storeS at h
 split at h
 .cases h
 rename_i r hr
 have hro:=findT_ok hT hr;clear hr;obtain⟨hro,rfl⟩:=hro;obtain⟨it,d,h1,h2,h3,h4,h5, -⟩:=hro.info
 split at h
 .rename_i qs e1 e2 eq
  obtain rfl:=SQ.parts_ok eq;split at h
  .rename_i e3
   injection h with h;subst h;obtain rfl:=aO e1;have e2:=aO e2;have e3:=aO e3;have hsz:(catP qs).size=(catP ps).size:=by rw [OkP.size hq,hok.size,e2,e3]
   refine⟨hq,λhb=>?_⟩;have hr:=run_store_part (P:=P) (t:=r.t) (v:=.agg (catP qs)) (off:=0) hb (by rw [h1,bS,h3];exact congrArg some ((OkP.size hq).trans e3).symm) (by rw [aY];exact Nat.le_of_eq hsz) (OkP.one hq);simp only [oA,qF,cR,aY] at hr;rw [iU (by rw [bG];omega),bC,eH] at hr;exact hr
  .cases h
 .split at h
  .rename_i p hp
   obtain⟨hp1,hp2,hp3⟩:=fitP_ok hq hp;obtain⟨h6,h7,A,B,Z,h8,h9,h10,h11⟩:=setP_ok hok hp1 h;refine⟨h6,λhb=>?_⟩;have hsz:q.den.cells.size=B.length:=by rw [hp3,hp1.size,h10]
   have hcl:(catP ps).size=A.length+(B.length+Z.length):=by rw [<-bG,h8,aA,aA]
   have hr:=run_store_part (P:=P) (t:=r.t) (v:=q.den) (off:=off) hb (by rw [h1,bS,h3,hp3,hp1.size,hp2]) (by omega) (by rw [hp3];exact hp1.one);rw [hr];congr 1;rw [<-eH (xs:=catP ps'),h11,h8,hsz,<-h9,hp3];congr 2;rw [List.take_left,aT,<-aT A B Z,<-aA,List.drop_left]
  .cases h
def fieldS(T:yw)(t:yn)(i:Nat):zh:=match findT T t with
  | none=>none
  | some r=>match bW r.kind 2 with
    | true=>match (placesP 0 r.zero)[i]? with
      | some (o,n)=>match tH 1 n with
        | true=>some o
        | false=>none
      | none=>none
    | false=>none
theorem mapM_get{α β:Type}{f:α->Option β}:∀{l:List α} {m:List β},l.mapM f=some m->∀(i:Nat) b,m[i]?=some b->∃a,l[i]?=some a/\f a=some b
 | [],m,h,i,b,hb=>by
  have:m=[]:=by simpa using h.symm
  subst this;simp at hb
 | x::l,m,h,i,b,hb=>by
  rw [List.mapM_cons] at h;cases hx:f x with
  | none=>rw [hx] at h;cases h
  | some y =>
   rw [hx] at h
   cases hm:l.mapM f with
   | none=>rw [hm] at h;cases h
   | some ys =>
    rw [hm] at h;have e:m=y::ys:=(bQ h).symm;subst e
    cases i with
    | zero =>
     simp only [bR,a8] at hb;exact⟨x,rfl,by rw [hx,hb]⟩
    | succ i =>
     obtain⟨a,h1,h2⟩:=mapM_get hm i b (by simpa using hb);exact⟨a,by simpa using h1,h2⟩
def fieldS_ok{P:ym}{T:yw}(hT:OkT P T){t:yn}{i o:Nat}(h:fieldS T t i=some o)(g off:Nat)(w:yp) :
  (Instr.fieldAt t (.pointer (some ⟨g,off,none⟩)) i).run P w = .ok (.pointer (some ⟨g,off+o,none⟩)) w:=by
 unfold fieldS at h
 split at h
 .cases h
 rename_i r hr
 have hro:=findT_ok hT hr;clear hr;obtain⟨hro,rfl⟩:=hro;obtain⟨it,d,h1,h2,h3,h4,h5,h6, -⟩:=hro.info
 split at h
 .rename_i hk
  have hk:=aO hk;split at h
  .rename_i o' n hp
   split at h
   .rename_i hn
    injection h with h;subst h;have hn:=aE hn;have hd:kindOf d=2:=by rw [h5,hk]
    cases d<;>first|(cases hd;done)|skip;rename_i fs;rw [hk] at h6;dsimp only at h6;obtain⟨f,h7,h8⟩:=mapM_get h6 i (o',n) hp;cases hf:P.info? f.type with
    | none=>rw [hf] at h8;cases h8
    | some fi =>
     rw [hf] at h8;simp only [bS,a8,cK] at h8
     have h9:fs[i]?=some f:=by simpa using h7
     have h10:¬fi.size=0:=by omega
     simp only [Instr.fieldAt,aG,run_underlying h2,aC,h9,fX,aI,fieldPlace,sizeOf,typeInfo]
     simp [hf,h10,cQ,h8.1]
   .cases h
  .cases h
 .cases h
def fill_cells(place:Nat->Option (Nat×Nat))(i n:Nat)(A O Z V:zq)(rest:List (Nat×yl))(v:yl)(hp:place i=some (A.length,n))(hV:V.length=n)(hO:O.length=n)(hv:v.cells=V.toArray) :
  jG place (A++(O++Z)).toArray ((i,v)::rest)=jG place (A++(V++Z)).toArray rest:=by
 have:=fill_put place i n A O Z V rest hp hV hO;rw [<-this,jG,jG,hv]
 rfl
def buildS(E:SE):zb->List (Nat×yo)->Option zb
  | zs,[]=>some zs
  | zs,(i,x)::r=>match zs[i]?,evS E x with
    | some z,some (.q q)=>match fitP z.size q with
      | some p=>buildS E (zs.set i p) r
      | none=>none
    | _,_=>none
theorem catP_set:∀{zs:zb} {i:Nat} {z p:Pt},zs[i]?=some z->∃A Z:zq,(catP zs).toList=A++(z.cells.toList++Z)/\(catP (zs.set i p)).toList=A++(p.cells.toList++Z)/\∀o,OkP zs->(placesP o zs)[i]?=some (o+A.length,z.size)
 | [],i,z,p,h=>by simp at h
 | y::zs,0,z,p,h=>by simp only [bR,a8] at h;subst h;refine⟨[],(catP zs).toList,by rw [catP_cons];simp,by rw [fC,catP_cons];simp,λo _=>by simp [placesP]⟩
 | y::zs,i+1,z,p,h=>by obtain⟨A,Z,h1,h2,h3⟩:=catP_set (zs:=zs) (i:=i) (p:=p) (by simpa using h);refine⟨y.cells.toList++A,Z,by rw [catP_cons,dE,h1,aT],by rw [fD,catP_cons,dE,h2,aT],λo hok=>?_⟩;have h4:=h3 (o+y.size) λx hx=>hok x (by simp [hx]);rw [aA,bG,(hok y (by simp)).size,<-bZ];simpa [placesP] using h4
def okP_set{zs:zb}{i:Nat}{p:Pt}(h:OkP zs)(hp:p.Ok):OkP (zs.set i p):=λx hx=>by
 rcases List.mem_or_eq_of_mem_set hx with h1|rfl
 .exact h x h1
 .exact hp
theorem places_set:∀{zs:zb} {i:Nat} {z p:Pt} (o:Nat),zs[i]?=some z->p.size=z.size->placesP o (zs.set i p)=placesP o zs
 | [],i,z,p,o,h,_=>by simp at h
 | y::zs,0,z,p,o,h,e=>by simp only [bR,a8] at h;subst h;simp only [fC,placesP,e]
 | y::zs,i+1,z,p,o,h,e=>by simp only [fD,placesP];rw [places_set (z:=z) _ (by simpa using h) e]
theorem fill_ok{G:zk}{E:SE}(hE:OkE E){places:List (Nat×Nat)}:∀{parts:List (Nat×yo)} {zs ps:zb},OkP zs->placesP 0 zs=places->buildS E zs parts=some ps ->
  ∀(f:yo->yl),(∀x v,evS E x=some v->f x=v.den G)->OkP ps/\jG (places.toArray[·]?) (catP zs) (parts.map λ(i,x)=>(i,f x))=some (catP ps)
 | [],zs,ps,hz,_,h,f,_=>by cases h;exact⟨hz,rfl⟩
 | (i,x)::r,zs,ps,hz,hpl,h,f,hf=>by
  unfold buildS at h;split at h
  .rename_i z q hi hx
   split at h
   .rename_i p hp;have hq:q.Ok:=hE.ev hx;obtain⟨h1,h2,h3⟩:=fitP_ok hq hp;obtain⟨A,Z,h4,h5,h6⟩:=catP_set (p:=p) hi;have h7:=h6 0 hz;rw [hpl,aY] at h7;have hzo:=hz z (aR hi);obtain⟨h8,h9⟩:=fill_ok hE (parts:=r) (okP_set hz h1) ((places_set 0 hi h2).trans hpl) h f hf;refine⟨h8,?_⟩;rw [<-h9];have hv:f x=q.den:=hf x _ hx;rw [bA,<-eH (xs:=catP zs),h4];have:=fill_cells (λk=>places.toArray[k]?) i p.size A z.cells.toList Z p.cells.toList (r.map λ(i,x)=>(i,f x)) (f x) (by simpa [h2] using h7) (by rw [bG,h1.size]) (by rw [bG,hzo.size,h2]) (by rw [hv,h3,eH]);rw [this,<-h5,eH]
   .cases h
  .cases h
def ikB:yj->yj->Bool
  | .i8,.i8=>true
  | .i16,.i16=>true
  | .i32,.i32=>true
  | .i64,.i64=>true
  | .u8,.u8=>true
  | .u16,.u16=>true
  | .u32,.u32=>true
  | .u64,.u64=>true
  | _,_=>false
def ikB_ok{a b:yj}(h:ikB a b=true):a=b:=by cases a<;>cases b<;>first|rfl|cases h
def nzB:yo->Bool
  | .const (.int _ (.ofNat (_+1)))=>true
  | _=>false
def binS(op:BinOp)(y:yo)(K:yj)(m n:Int):Option SV:=match op with
  | .add=>some (.v (.int K (K.wrap (m+n))))
  | .sub=>some (.v (.int K (K.wrap (m-n))))
  | .mul=>some (.v (.int K (K.wrap (m*n))))
  | .quo=>match nzB y with
    | true=>some (.v (.int K (K.wrap (m.tdiv n))))
    | false=>none
  | .rem=>match nzB y with
    | true=>some (.v (.int K (m.tmod n)))
    | false=>none
  | .eql=>some (.b (decide (m=n)))
  | .neq=>some (.b (decide (m≠n)))
  | .lss=>some (.b (decide (m<n)))
  | .leq=>some (.b (decide (m<=n)))
  | .gtr=>some (.b (decide (m>n)))
  | .geq=>some (.b (decide (m>=n)))
  | _=>none
def nzB_ok{E:SE}{y:yo}{K:yj}{n:Int}(h:nzB y=true)(hy:evS E y=some (.v (.int K n))):n≠0:=by
 unfold nzB at h;split at h
 .injection hy with hy;injection hy with hy;injection hy with hy;injection hy with hy;injection hy with _ hy;subst hy;exact λh=>(by cases h)
 .cases h
def binS_ok{P:ym}{E:SE}{op:BinOp}{t:yn}{y:yo}{K:yj}{m n:Int}{v:SV}(hy:evS E y=some (.v (.int K n)))(h:binS op y K m n=some v) :
  v.Ok/\∀G w,(binOp op t (.int K m) (.int K n)).run P w = .ok (v.den G) w:=by
 cases op<;>simp only [binS] at h
 case quo =>
  split at h
  .rename_i hz;have:=nzB_ok hz hy;injection h with h;subst h;exact⟨trivial,λG w=>by simp [binOp,Op.intDiv,this,SV.den,SQ.den,SC.den]⟩
  .cases h
 case rem =>
  split at h
  .rename_i hz;have:=nzB_ok hz hy;injection h with h;subst h;exact⟨trivial,λG w=>by simp [binOp,Op.intDiv,this,SV.den,SQ.den,SC.den]⟩
  .cases h
 all_goals first|(cases h;done)|skip
 all_goals injection h with h
 all_goals subst h
 all_goals refine⟨trivial,λG w=>?_⟩
 all_goals first|(simp [binOp,Op.intArith,SV.den,SQ.den,SC.den];done)|skip
 all_goals simp [binOp,Op.intCmp,SV.den,SQ.den,SC.den]
 all_goals rfl
def stepS(T:yw)(E:SE)(L:ze):Op->Option SV
  | .move x=>evS E x
  | .assign x=>evS E x
  | .pick c x y=>match evS E c with
    | some (.q (.c (.v (.bool true))))=>evS E x
    | some (.q (.c (.v (.bool false))))=>evS E y
    | _=>none
  | .extract x i=>match evS E x with
    | some (.t vs)=>match vs[i]? with
      | some q=>some (.q q)
      | none=>none
    | _=>none
  | .unOp .not _ x=>match evS E x with
    | some (.q (.c (.v (.bool true))))=>some (.v (.bool false))
    | some (.q (.c (.v (.bool false))))=>some (.v (.bool true))
    | some (.q (.c (.b e)))=>some (.b !e)
    | _=>none
  | .nilCheck x=>match evS E x with
    | some (.a j off)=>some (.a j off)
    | some (.q (.c (.v (.pointer (some p)))))=>some (.v (.pointer (some p)))
    | _=>none
  | .fieldAddr t x i=>match evS E x,fieldS T t i with
    | some (.a j off),some o=>some (.a j (off+o))
    | some (.q (.c (.v (.pointer (some ⟨g,off,none⟩))))),some o=>some (.v (.pointer (some ⟨g,off+o,none⟩)))
    | _,_=>none
  | .load t x=>match evS E x with
    | some (.a j off)=>match lookL L j with
      | some ps=>match loadS T ps t off with
        | some q=>some (.q q)
        | none=>none
      | none=>none
    | _=>none
  | .build t parts=>match findT T t with
    | some r=>match bW r.kind 2 with
      | true=>match buildS E r.zero parts.toList with
        | some ps=>some (.p ps)
        | none=>none
      | false=>match bW r.kind 1,parts.toList with
        | true,[]=>some (.p r.zero)
        | _,_=>none
    | none=>none
  | .binOp op t x y _=>match evS E x,evS E y with
    | some (.q (.c (.v (.int K m)))),some (.q (.c (.v (.int K' n))))=>match ikB K K' with
      | true=>binS op y K m n
      | false=>none
    | some (.q (.c (.v (.pointer p)))),some (.q (.c (.v (.pointer none))))=>match findT T t with
      | some r=>match r.pt,op,p with
        | true,.eql,none=>some (.v (.bool true))
        | true,.eql,some _=>some (.v (.bool false))
        | true,.neq,none=>some (.v (.bool false))
        | true,.neq,some _=>some (.v (.bool true))
        | _,_,_=>none
      | none=>none
    | _,_=>none
  | .convert src dst x=>match findT T src,findT T dst,evS E x with
    | some _,some r,some (.q (.c (.v (.int _ n))))=>match r.ik with
      | some K=>some (.v (.int K (K.wrap n)))
      | none=>none
    | _,_,_=>none
  | .call { callee:=.builtin .len,args:=⟨[x]⟩,argTypes:=⟨[t]⟩ }=>match findT T t with
    | some r=>match r.el,evS E x with
      | some _,some (.q (.c (.v (.slice _ n _))))=>some (.v (.int .i64 (n:Int)))
      | some _,some (.s _ _ n _)=>some (.v (.int .i64 (n:Int)))
      | _,_=>none
    | none=>none
  | _=>none
def OkL(L:ze):Prop:=∀x∈L,OkP x.ps
def LAt(G:zk)(L:ze)(w:yp):Prop:=∀x∈L,Blk w (G x.j) x.t (catP x.ps)
theorem built_eq{P:ym}{t:yn}{r:TyR}(hr:r.ok P)(ht:r.t=t)(hk:r.kind=2)(parts:List (Nat×yl)):P.built t parts=jG ((placesP 0 r.zero).toArray[·]?) (catP r.zero) parts:=by
 subst ht;obtain⟨it,d,h1,h2,h3,h4,h5,h6, -⟩:=hr.info;rw [hk] at h5 h6;cases d<;>first|(cases h5;done)|skip;rename_i fs;dsimp only at h6;cases hz:it.zero with
 | none=>rw [hz] at h4;cases h4
 | some z =>
  rw [hz] at h4;simp only [bS,a8] at h4
  unfold Program.built
  simp only [h1,h2,hz,h6,h4]
theorem built_row1{P:ym}{t:yn}{r:TyR}(hr:r.ok P)(ht:r.t=t)(hk:r.kind=1):P.built t []=some (catP r.zero):=by
 subst ht;obtain⟨it,d,h1,h2,h3,h4,h5,h6, -⟩:=hr.info;rw [hk] at h5 h6;cases d<;>first|(cases h5;done)|skip;rename_i n e;dsimp only at h6;cases he:P.info? e with
 | none=>rw [he] at h6;cases h6
 | some ie =>
  cases hz:it.zero with
  | none=>rw [hz] at h4;cases h4
  | some z =>
   rw [hz] at h4;simp only [bS,a8] at h4
   unfold Program.built
   simp only [h1,h2,hz,he,h4]
   rfl
def run_len{P:ym}{t:yn}{e:yn}(ht:P.underlying t=some (.slice e))(ty:yn)(A:zt)(n c:Nat)(w:yp):(nM #[t] ty #[.slice A n c]).run P w = .ok (.int .i64 (n:Int)) w:=by simp [nM,run_underlying ht,goInt]
def stepS_ok{P:ym}{T:yw}(hT:OkT P T){E:SE}{L:ze}{N:Nat}{o:yk}{v:SV}(hE:OkE E)(hL:OkL L)(h:stepS T E L o.op=some v) :
    v.Ok/\∀{G:zk} {a:Act} {w:yp},Fr N (denE G E) a->LAt G L w->(execOp a.eval o).run P w = .ok (.value (v.den G)) w:=by
  obtain⟨dst,op,ty,pos,af,gd⟩:=o
  dsimp only at h
  have hev:∀{x:yo} {u:SV},evS E x=some u->∀{G:zk} {a:Act},Fr N (denE G E) a->a.eval x=u.den G:=by intro x u hx G a ha;exact ha.eval (evS_ok hx)
  cases op
  case move x =>
    refine⟨hE.ev h,λha _=>?_⟩;have h1:=hev h ha
    unfold execOp
    simp only [h1,aI]
  case assign x =>
    refine⟨hE.ev h,λha _=>?_⟩;have h1:=hev h ha
    unfold execOp
    simp only [h1,aI]
  case pick c x y =>
    simp only [stepS] at h
    split at h
    . rename_i hc
      refine⟨hE.ev h,λha _=>?_⟩;have h1:=hev hc ha;have h2:=hev h ha;unfold execOp;simp only [h1,h2,SV.den,SQ.den,SC.den,asBool,aG,aI,aC,if_true]
    . rename_i hc
      refine⟨hE.ev h,λha _=>?_⟩;have h1:=hev hc ha;have h2:=hev h ha;unfold execOp;simp only [h1,h2,SV.den,SQ.den,SC.den,asBool,aG,aI,aC,jJ,if_false]
    . cases h
  case extract x i =>
    simp only [stepS] at h
    split at h
    . rename_i vs hx
      split at h
      . rename_i q hq
        injection h with h;subst h;refine⟨hE.ev hx q (aR hq),λha _=>?_⟩;have h1:=hev hx ha;have h2:(vs.map SQ.den).toArray[i]?=some q.den:=by simp [hq]
        unfold execOp;simp only [h1,SV.den,Instr.extract,h2,aG,aI,aC]
      . cases h
    . cases h
  case unOp k t x =>
    cases k
    case not =>
      simp only [stepS] at h
      split at h
      . rename_i hx
        injection h with h;subst h;refine⟨trivial,λha _=>?_⟩;have h1:=hev hx ha;unfold execOp;simp only [h1,SV.den,SQ.den,SC.den,Op.unary,aG,aI,aC,tI]
      . rename_i hx
        injection h with h;subst h;refine⟨trivial,λha _=>?_⟩;have h1:=hev hx ha;unfold execOp;simp only [h1,SV.den,SQ.den,SC.den,Op.unary,aG,aI,aC,Bool.not_false]
      . rename_i e hx
        injection h with h;subst h;refine⟨trivial,λha _=>?_⟩;have h1:=hev hx ha;unfold execOp;simp only [h1,SV.den,SQ.den,SC.den,Op.unary,aG,aI,aC]
      . cases h
    all_goals cases h
  case nilCheck x =>
    simp only [stepS] at h
    split at h
    . rename_i j off hx
      injection h with h;subst h;refine⟨trivial,λha _=>?_⟩;have h1:=hev hx ha;unfold execOp;simp only [h1,SV.den,aI]
    . rename_i p hx
      injection h with h;subst h;refine⟨trivial,λha _=>?_⟩;have h1:=hev hx ha;unfold execOp;simp only [h1,SV.den,SQ.den,SC.den,aI]
    . cases h
  case fieldAddr t x i =>
    simp only [stepS] at h
    split at h
    . rename_i j off o hx ho
      injection h with h;subst h;refine⟨trivial,λha _=>?_⟩;have h1:=hev hx ha;unfold execOp;simp only [h1,SV.den,fieldS_ok hT ho,aG,aI,aC]
    . rename_i g off o hx ho
      injection h with h;subst h;refine⟨trivial,λha _=>?_⟩;have h1:=hev hx ha;unfold execOp;simp only [h1,SV.den,SQ.den,SC.den,fieldS_ok hT ho,aG,aI,aC]
    . cases h
  case load t x =>
    simp only [stepS] at h
    split at h
    . rename_i j off hx
      split at h
      . rename_i ps hps
        split at h
        . rename_i q hq
          injection h with h;subst h;obtain⟨y,hy,rfl,rfl⟩:=lookL_mem hps;obtain⟨h3,h4⟩:=loadS_ok hT (hL y hy) hq;refine⟨h3,λha hl=>?_⟩;have h1:=hev hx ha;unfold execOp;simp only [h1,SV.den,h4 (hl y hy),aG,aI,aC]
        . cases h
      . cases h
    . cases h
  case build t parts =>
    simp only [stepS] at h
    split at h
    . rename_i r hr
      split at h
      . rename_i hk
        split at h
        . rename_i ps hps
          injection h with h;subst h;obtain⟨h3,h4⟩:=findT_ok hT hr;have hf:=λ(G:zk)=>fill_ok (G:=G) hE (places:=placesP 0 r.zero) h3.2 rfl hps;refine⟨(hf (λ_=>0) (λx=>((evS E x).map (SV.den λ_=>0)).getD undef) (λx u hx=>by rw [hx];rfl)).1,λ{G a w} ha _=>?_⟩;have h5:=(hf G a.eval (λx u hx=>hev hx ha)).2;rw [<-built_eq h3 h4 (aO hk)] at h5;have h6:=run_build (P:=P) w t (parts.map λ(i,x)=>(i,a.eval x)) (catP ps) (by rw [jD];exact h5);unfold execOp;simp only [h6,SV.den,SQ.den,aG,aI,aC]
        . cases h
      . split at h
        . rename_i hk hpt
          injection h with h;subst h;obtain⟨h3,h4⟩:=findT_ok hT hr;have hpt':parts = #[]:=by simpa using hpt
          subst hpt';refine⟨h3.2,λ{G a w} _ _=>?_⟩;have h6:=run_build (P:=P) w t #[] (catP r.zero) (built_row1 h3 h4 (aO hk));unfold execOp;simp only [fW,iK,h6,SV.den,SQ.den,aG,aI,aC]
        . cases h
    . cases h
  case binOp op t x y t2 =>
    simp only [stepS] at h
    split at h
    . rename_i K m K' n hx hy
      split at h
      . rename_i hK
        obtain rfl:=ikB_ok hK;obtain⟨h1,h2⟩:=binS_ok (P:=P) (t:=t) hy h;refine⟨h1,λ{G a w} ha _=>?_⟩;have e1:=hev hx ha;have e2:=hev hy ha;have e3:(eqGuard op t x y (.int K m) (.int K n)).run P w = .ok () w:=by cases op<;>rfl
        unfold execOp;simp only [e1,e2,SV.den,SQ.den,SC.den,aG,e3,h2 G w,aI,aC]
      . cases h
    . rename_i p hx hy
      split at h
      . rename_i r hr
        obtain⟨h3,rfl⟩:=findT_ok hT hr;obtain⟨it,d,h5,h6, -, -, -, -, -, -,h7, -⟩:=h3.info;have hpt:r.pt=true->∃e,P.underlying r.t=some (.pointer e):=λhe=>by rw [he] at h7;cases d<;>first|(cases h7;done)|skip;exact⟨_,h6⟩
        have key:∀{G:zk} {a:Act} {w:yp},Fr N (denE G E) a->∀b:Bool,(binOp op r.t (.pointer p) (.pointer none)).run P w = .ok (.bool b) w->(execOp a.eval ⟨dst,.binOp op r.t x y t2,ty,pos,af,gd⟩).run P w = .ok (.value (.bool b)) w:=λ{G a w} ha b hb=>by
          have e1:=hev hx ha;have e2:=hev hy ha;have e3:(eqGuard op r.t x y (.pointer p) (.pointer none)).run P w = .ok () w:=by cases op<;>rfl
          unfold execOp;simp only [e1,e2,SV.den,SQ.den,SC.den,aG,e3,hb,aI,aC]
        have heq:∀w,r.pt=true->(Op.equal r.t (.pointer p) (.pointer none)).run P w = .ok p.isNone w:=λw he=>by obtain⟨e,hu⟩:=hpt he;unfold Op.equal Op.maxDepth;rw [show(10000:Nat)=9999+1 from rfl,cC];simp only [aG,run_underlying hu,aC];cases p<;>rfl
        split at h;all_goals first|(cases h;done)|skip;all_goals rename_i he;all_goals injection h with h;all_goals subst h;all_goals refine⟨trivial,λha _=>key ha _ ?_⟩;all_goals simp [binOp,heq _ he]
      . cases h
    . cases h
  case convert src dst' x =>
    simp only [stepS] at h
    split at h
    . rename_i r0 r K0 n h0 hr hx
      split at h
      . rename_i K hK
        injection h with h;subst h;have q1:=findT_ok hT h0;have q2:=findT_ok hT hr;clear h0 hr;obtain⟨q1,rfl⟩:=q1;obtain⟨q2,rfl⟩:=q2;obtain⟨it0,d0,_,h6, -⟩:=q1.info;obtain⟨it,d,_,h7, -, -, -, -, -,h8, -⟩:=q2.info;rw [hK] at h8;cases d<;>first|(cases h8;done)|skip;injection h8 with h8;subst h8;refine⟨trivial,λha _=>?_⟩;have e1:=hev hx ha;unfold execOp;simp only [e1,SV.den,SQ.den,SC.den];simp [convert,run_underlying h6,run_underlying h7,Conv.intToInt]
      . cases h
    . cases h
  case call c =>
    obtain⟨callee,args,ats⟩:=c
    cases callee
    case builtin bi =>
     cases bi
     case len =>
      obtain⟨args⟩:=args;obtain⟨ats⟩:=ats
      rcases args with _|⟨x,_|⟨y,r⟩⟩
      . cases h
      rcases ats with _|⟨t,_|⟨y,r⟩⟩
      all_goals first|(cases h;done)|skip
      simp only [stepS] at h
      split at h
      . rename_i r hr
        obtain⟨h3,rfl⟩:=findT_ok hT hr;obtain⟨it,d,h5,h6, -, -, -, -,h7, -⟩:=h3.info;have hu:∀e,r.el=some e->P.underlying r.t=some (.slice e):=λe he=>by rw [he] at h7;cases d<;>first|(cases h7;done)|skip;injection h7 with h7;subst h7;exact h6
        split at h
        . rename_i e A n cc he hx
          injection h with h;subst h;refine⟨trivial,λha _=>?_⟩;have h1:=hev hx ha;unfold execOp;simp only [resolve,invoke,builtin,fW,bA,iK,h1,SV.den,SQ.den,SC.den,aG,aI,aC,run_len (hu e he)]
        . rename_i e j off n cc he hx
          injection h with h;subst h;refine⟨trivial,λha _=>?_⟩;have h1:=hev hx ha;unfold execOp;simp only [resolve,invoke,builtin,fW,bA,iK,h1,SV.den,SQ.den,SC.den,aG,aI,aC,run_len (hu e he)]
        . cases h
      . cases h
     all_goals cases h
    all_goals cases h
  all_goals cases h
def wantS(ops:zp)(N:Nat)(E:SE)(o:yk):Option Bool :=
  match o.guard with
  | none=>some true
  | some (j,b)=>match (ops[j]?).bind (·.dst) with
    | some t=>match aU t N with
      | true=>match lookS E t with
        | some (.q (.c (.v (.bool true))))=>some b
        | some (.q (.c (.v (.bool false))))=>some (!b)
        | _=>none
      | false=>none
    | none=>none
theorem wantS_ok{ops:zp}{N:Nat}{G:zk}{E:SE}{a:Act}{o:yk}{q:Bool}(ha:Fr N (denE G E) a)(h:wantS ops N E o=some q):aQ o (yielded ops a.tmps)=q:=by
 refine wantG_ok ha ?_;unfold wantS at h;unfold wantG;cases hg:o.guard with
 | none =>
  rw [hg] at h;exact h
 | some p =>
  obtain⟨j,b⟩:=p;rw [hg] at h
  dsimp only at h ⊢
  cases hj:(ops[j]?).bind (·.dst) with
  | none =>
   rw [hj] at h
   cases h
  | some t =>
   rw [hj] at h
   dsimp only at h ⊢
   cases hN:aU t N with
   | false =>
    rw [hN] at h
    cases h
   | true =>
    rw [hN] at h
    dsimp only at h ⊢
    split at h
    .rename_i hc;rw [look_den,hc];exact h
    .rename_i hc;rw [look_den,hc];exact h
    .cases h
def farE(j:Nat)(E:SE):Bool:=E.all λx=>x.2.farB j
def newS(T:yw)(E:SE)(L:ze)(k:Nat):Op->Option (yn×zb)
  | .alloc ty=>match findT T ty,farL k L,farE k E with
    | some r,true,true=>some (ty,r.zero)
    | _,_,_=>none
  | .box ty x=>match evS E x,farL k L,farE k E with
    | some (.q (.p ps)),true,true=>some (ty,ps)
    | some (.q (.c s)),true,true=>match fitC s with
      | true=>some (ty,[.one s])
      | false=>none
    | _,_,_=>none
  | _=>none
def setS(T:yw)(E:SE)(L:ze):Op->Option (Nat×zb)
  | .store t x y=>match evS E x,evS E y with
    | some (.a j off),some (.q q)=>match lookL L j with
      | some ps=>match storeS T ps t off q with
        | some qs=>some (j,qs)
        | none=>none
      | none=>none
    | _,_=>none
  | _=>none
def autoS(T:yw)(ops:zp)(N:Nat):zo->SE->ze->zo×SE×ze
  | [],E,L=>([],E,L)
  | o::l,E,L=>match wantS ops N E o with
    | none=>(o::l,E,L)
    | some false=>match o.dst with
      | some k=>match aU k N with
        | true=>autoS T ops N l ((k,.v undef)::E) L
        | false=>(o::l,E,L)
      | none=>autoS T ops N l E L
    | some true=>match o.dst with
      | some k=>match aU k N with
        | true=>match stepS T E L o.op with
          | some v=>autoS T ops N l ((k,v)::E) L
          | none=>match newS T E L k o.op with
            | some (ty,ps)=>autoS T ops N l ((k,.a k 0)::E) (⟨k,none,ty,ps⟩::L)
            | none=>(bareO o::l,E,L)
        | false=>(o::l,E,L)
      | none=>match setS T E L o.op with
        | some (j,ps)=>autoS T ops N l E (putL L j ps)
        | none=>(bareO o::l,E,L)
def StW.okL{b:Base}{G:zk}{S:zm}{L:ze}{R:zd}{F M:zv}{w:yp}(h:StW b G S L R F M w):OkL L:=λx hx=>(h.var x hx).2.1
def StW.at{b:Base}{G:zk}{S:zm}{L:ze}{R:zd}{F M:zv}{w:yp}(h:StW b G S L R F M w):LAt G L w:=λx hx=>(h.var x hx).1
theorem farL_mem:∀{L:ze} {j:Nat},farL j L=true->j∉namesL L
 | [],_,_,h=>by cases h
 | x::r,j,h,hm=>by
  unfold farL at h;simp only [aN,Bool.not_eq_true'] at h;rcases aH.1 hm with e|hm
  .rw [e] at h;simp at h
  .exact farL_mem h.2 hm
theorem den_far{G:zk}{j g:Nat}{v:SV}(h:v.farB j=true):v.den (λi=>if i=j then g else G i)=v.den G:=by
 cases v with
 | q x=>rfl
 | a i off =>
  have:i≠j:=by rintro rfl;simp [SV.farB] at h
  simp [SV.den,this]
 | s i off n c =>
  have:i≠j:=by rintro rfl;simp [SV.farB] at h
  simp [SV.den,this]
 | t vs=>rfl
theorem denE_far{G:zk}{j g:Nat}:∀{E:SE},farE j E=true->denE (λi=>if i=j then g else G i) E=denE G E
 | [],_=>rfl
 | (k,v)::r,h=>by unfold farE at h;rw [List.all_cons,aN] at h;rw [denE,denE,den_far h.1,denE_far h.2]
section
variable{b:Base}{G:zk}{S:zm}{L:ze}{R:zd}{F M:zv}{w:yp}
def StW.new(h:StW b G S L R F M w){j:Nat}{t:yn}{ps:zb}(hj:farL j L=true)(hp:OkP ps):StW b (λi=>if i=j then w.heap.size else G i) S (⟨j,none,t,ps⟩::L) R F M (w.alloc (.cells (catP ps) t)):=by
 have hal:=(Below.refl w.heap.size w).alloc (aF _) (.cells (catP ps) t);have hn:=farL_mem hj;have hne:∀i,i∈namesL L->i≠j:=λi hi e=>hn (e▸hi);have hG:∀i∈namesL L,(if i=j then w.heap.size else G i)=G i:=λi hi=>if_neg (hne i hi);have hlt:∀i∈namesL L,G i<w.heap.size:=λi hi=>h.lt _ (.inr ⟨i,hi,rfl⟩);have h1:=h.later hal;have hM:∀k,Mine S (λi=>if i=j then w.heap.size else G i) (⟨j,none,t,ps⟩::L) k->k=w.heap.size\/Mine S G L k:=λk hk=>by
  rcases hk with hk|⟨i,hi,rfl⟩
  .exact .inr (.inl hk)
  .rcases aH.1 hi with rfl|hi
   .exact .inl (if_pos rfl)
   .exact .inr (.inr ⟨i,hi,(hG i hi).symm⟩)
 refine⟨λx hx=>?_,qV (λi hi=>?_) ?_,h1.res,λi hi=>?_,?_,?_,h1.chg,λk hk hlt=>?_,h.old⟩
 .rcases aH.1 hx with rfl|hx
  .refine⟨?_,hp,λg hg=>by cases hg⟩;show Blk _ (if j=j then w.heap.size else G j) t (catP ps);rw [if_pos rfl];exact Blk.new w _ _
  .rw [hG _ (aZ.2 ⟨x,hx,rfl⟩)];exact h1.var x hx
 .show(if j=j then w.heap.size else G j)≠_;rw [if_pos rfl,hG i hi];exact Nat.ne_of_gt (hlt i hi)
 .refine List.Pairwise.imp_of_mem (λ{x y} hx hy hxy=>?_) h.apart;rw [hG x hx,hG y hy];exact hxy
 .rcases aH.1 hi with rfl|hi
  .show ¬S (if i=i then w.heap.size else G i);rw [if_pos rfl];exact λhs=>gG _ (h.res.lt _ hs)
  .rw [hG i hi];exact h.sep i hi
 .refine h.fact.past (Chg.of_up hal) λi hi hd=>?_
  rcases hd with hd|hd
  .exact .inl hd
  .rcases hM i hd with rfl|hd
   .exact absurd hi (gG _)
   .exact .inr hd
 .refine h.fresh.past (Chg.of_up hal) λi hi hd=>?_
  rcases hd with hd|hd
  .exact .inl hd
  .rcases hM i hd with rfl|hd
   .exact absurd hi (gG _)
   .exact .inr hd
 .rcases hM k hk with rfl|hk
  .exact absurd (dC h.chg.size hlt) (gG _)
  .exact h.mine k hk hlt
theorem putL_mem{j:Nat}{ps:zb}:∀{L:ze},(namesL L).Nodup->∀y∈putL L j ps,(y∈L/\y.j≠j)\/∃x∈L,x.j=j/\y={ x with ps:=ps }
 | [],_,y,h=>by cases h
 | x::r,hd,y,h=>by
  unfold putL at h;have hd':=fV.1 hd;split at h
  .rename_i e
   have e:=aO e;rcases aH.1 h with rfl|h
   .exact .inr ⟨x,aM,e,rfl⟩
   .refine .inl ⟨aK _ h,λe2=>hd'.1 ?_⟩;show x.j∈namesL r;rw [e,<-e2];exact aZ.2 ⟨y,h,rfl⟩
  .rename_i e
   rcases aH.1 h with rfl|h
   .exact .inl ⟨aM,λe2=>by rw [e2] at e;simp at e⟩
   .rcases putL_mem hd'.2 y h with⟨h1,h2⟩|⟨z,h1,h2,h3⟩
    .exact .inl ⟨aK _ h1,h2⟩
    .exact .inr ⟨z,aK _ h1,h2,h3⟩
def StW.nodup(h:StW b G S L R F M w):(namesL L).Nodup:=h.apart.imp λhxy e=>hxy (congrArg G e)
def StW.set(h:StW b G S L R F M w){j:Nat}{ps:zb}(hj:j∈namesL L)(hp:OkP ps):StW b G S (putL L j ps) R F M (w.setRow (G j) (catP ps)):=by
 have hc:=Chg.row w (G j) (catP ps);have hmine:Mine S G L (G j):=.inr ⟨j,hj,rfl⟩;have hne:∀i∈namesL L,i≠j->G i≠G j:=λi hi e=>by
  have:=h.apart;obtain⟨p,hp,rfl⟩:=mK hi;obtain⟨q,hq,rfl⟩:=mK hj;rcases Nat.lt_trichotomy p q with h1|h1|h1
  .exact nK.1 this p q hp hq h1
  .subst h1;exact absurd rfl e
  .exact(nK.1 this q p hq hp h1).symm
 have hM:∀k,Mine S G (putL L j ps) k↔Mine S G L k:=λk=>by unfold Mine;rw [putL_names]
 refine⟨λy hy=>?_,by rw [putL_names];exact h.apart,h.res.keep λk hk=>hc.block k (h.res.lt k hk) (λe=>h.sep j hj (e▸hk)),by rw [putL_names];exact h.sep,?_,?_,h.chg.step hc (λi hi e=>by subst e;exact h.mine _ hmine hi),λk hk=>h.mine k ((hM k).1 hk),h.old⟩
 .rcases putL_mem h.nodup y hy with⟨h1,h2⟩|⟨x,h1,h2,rfl⟩
  .refine⟨(h.var y h1).1.rowFar (hne _ (aZ.2 ⟨y,h1,rfl⟩) h2) _,(h.var y h1).2⟩
  .subst h2;exact⟨(h.var x h1).1.row _,hp,(h.var x h1).2.2⟩
 .refine h.fact.past (D':=Dof b.X S G (putL L j ps)) (hc.mono (D':=Dof b.X S G L) λi _ e=>by subst e;exact .inr hmine) λi _ hd=>?_;exact hd.imp id (hM i).1
 .refine h.fresh.past (D':=Nof b S G (putL L j ps)) (hc.mono (D':=Nof b S G L) λi _ e=>by subst e;exact .inr hmine) λi _ hd=>?_;exact hd.imp id (hM i).1
end
def lS(P:ym)(b:Base)(ops:zp)(Q:zx)(N:Nat)(l:zo)(e:Env):Prop:=∀a w,St b N e a w->wpList P ops Q l a w
def runBox{P:ym}{o:yk}{ty:yn}{x:yo}(ho:o.op = .box ty x)(a:Act)(w:yp):(execOp a.eval o).run P w = .ok (.value (.pointer (some ⟨w.heap.size,0,none⟩))) (w.alloc (.cells (a.eval x).cells ty)):=by unfold execOp;simp [ho,Instr.box,newVar,newRow]
def lookL_name{L:ze}{j:Nat}{ps:zb}(h:lookL L j=some ps):j∈namesL L:=by obtain⟨x,hx,rfl,_⟩:=lookL_mem h;exact aZ.2 ⟨x,hx,rfl⟩
section
variable{P:ym}{b:Base}{T:yw}{ops:zp}{Q:zx}{N:Nat}{R:zd}{F M:zv}
def wpl_go{o:yk}{l:zo}{a:Act}{w w':yp}{v:yl}(hw:aQ o (yielded ops a.tmps)=true)(hr:(execOp a.eval o).run P w = .ok (.value v) w')(h:wpList P ops Q l (a.put o.dst v) w'):wpList P ops Q (o::l) a w:=by unfold wpList;rw [if_pos hw];refine .inl ?_;unfold fT;rw [hr];exact h
def wpl_skip{o:yk}{l:zo}{a:Act}{w w':yp}(hw:aQ o (yielded ops a.tmps)=true)(hr:(execOp a.eval o).run P w = .ok .skip w')(h:wpList P ops Q l (a.put o.dst undef) w'):wpList P ops Q (o::l) a w:=by unfold wpList;rw [if_pos hw];refine .inl ?_;unfold fT;rw [hr];exact h
def wpl_bare{o:yk}{l:zo}{a:Act}{w:yp}(hw:aQ o (yielded ops a.tmps)=true)(h:wpList P ops Q (bareO o::l) a w):wpList P ops Q (o::l) a w:=by obtain⟨dst,op,ty,pos,af,gd⟩:=o;unfold wpList at h ⊢;rw [if_pos hw];rw [if_pos (by rfl)] at h;exact h
def StA.put{e:Env}{G:zk}{S:zm}{a:Act}{w:yp}(h:StA b N e G S a w){k:Nat}(hk:aU k N=true){v:SV}(hv:v.Ok):StA b N { e with E:=(k,v)::e.E } G S (a.put (some k) (v.den G)) w:=⟨h.fr.put hk _,h.ok.cons hv,h.st⟩
theorem autoS_ok(hT:OkT P T):∀{l:zo} {E:SE} {L:ze},lS P b ops Q N (autoS T ops N l E L).1 ⟨(autoS T ops N l E L).2.1,(autoS T ops N l E L).2.2,R,F,M⟩->lS P b ops Q N l ⟨E,L,R,F,M⟩
 | [],_,_,h=>h
 | o::l,E,L,h=>by
  intro a w ⟨G,S,hs⟩;have hst:=hs.st;dsimp only at hst;unfold autoS at h;cases hw:wantS ops N E o with
  | none=>rw [hw] at h;exact h a w ⟨G,S,hs⟩
  | some q =>
   rw [hw] at h;have hwt:=wantS_ok hs.fr hw
   cases q with
   | false =>
    dsimp only at h
    have key:∀K,wpList P ops Q l (a.put o.dst undef) w->K=(o::l)->wpList P ops Q K a w:=λK hk e=>by rw [e];unfold wpList;rw [hwt,if_neg (by decide)];exact hk
    cases hd:o.dst with
    | none =>
     rw [hd] at h;exact key _ (by rw [hd];exact autoS_ok hT h a w ⟨G,S,hs⟩) rfl
    | some k =>
     rw [hd] at h
     dsimp only at h
     cases hk:aU k N with
     | false=>rw [hk] at h;exact h a w ⟨G,S,hs⟩
     | true =>
      rw [hk] at h;exact key _ (by rw [hd];exact autoS_ok hT h _ w ⟨G,S,hs.put (v:=.v undef) hk trivial⟩) rfl
   | true =>
    dsimp only at h
    cases hd:o.dst with
    | none =>
     rw [hd] at h
     dsimp only at h
     cases hv:setS T E L o.op with
     | none=>rw [hv] at h;exact wpl_bare hwt (h a w ⟨G,S,hs⟩)
     | some jp =>
      obtain⟨j,qs⟩:=jp;rw [hv] at h
      dsimp only at h
      obtain⟨dst,op,ty,pos,af,gd⟩:=o
      dsimp only at hv hd
      subst hd
      cases op<;>first|(cases hv;done)|skip
      rename_i t x y
      simp only [setS] at hv
      split at hv
      .rename_i i off q hx hy
       split at hv
       .rename_i ps hps
        split at hv
        .rename_i qs' hq;injection hv with hv;injection hv with e1 e2;subst e1 e2;obtain⟨z,hz,rfl,rfl⟩:=lookL_mem hps;obtain⟨h3,h4⟩:=storeS_ok hT (hst.okL z hz) (hs.ok.ev hy) hq;have e1:=hs.fr.eval (evS_ok hx);have e2:=hs.fr.eval (evS_ok hy);refine wpl_skip (w':=w.setRow (G z.j) (catP qs')) hwt ?_ (autoS_ok hT h _ _ ⟨G,S,hs.fr,hs.ok,hst.set (lookL_name hps) h3⟩);unfold execOp;simp only [e1,e2,SV.den,h4 (hst.at z hz),aG,aI,aC]
        .cases hv
       .cases hv
      .cases hv
    | some k =>
     rw [hd] at h
     dsimp only at h
     cases hk:aU k N with
     | false=>rw [hk] at h;exact h a w ⟨G,S,hs⟩
     | true =>
      rw [hk] at h
      dsimp only at h
      cases hv:stepS T E L o.op with
      | some v =>
       rw [hv] at h;obtain⟨h1,h2⟩:=stepS_ok hT hs.ok hst.okL hv;exact wpl_go hwt (h2 hs.fr hst.at) (by rw [hd];exact autoS_ok hT h _ w ⟨G,S,hs.put hk h1⟩)
      | none =>
       rw [hv] at h
       dsimp only at h
       cases hn:newS T E L k o.op with
       | none=>rw [hn] at h;exact wpl_bare hwt (h a w ⟨G,S,hs⟩)
       | some tp =>
        obtain⟨ty,ps⟩:=tp;rw [hn] at h
        dsimp only at h
        have key:OkP ps->farL k L=true->farE k E=true->(execOp a.eval o).run P w = .ok (.value (.pointer (some ⟨w.heap.size,0,none⟩))) (w.alloc (.cells (catP ps) ty))->wpList P ops Q (o::l) a w:=λhp hf hfe hr=>by refine wpl_go hwt hr ?_;rw [hd];have hfr:=hs.fr.put hk (.pointer (some ⟨w.heap.size,0,none⟩));refine autoS_ok hT h _ _ ⟨_,S,?_,hs.ok.cons trivial,hst.new hf hp⟩;show Fr N ((k,.pointer (some ⟨if k=k then w.heap.size else G k,0,none⟩))::denE _ E) _;rw [if_pos rfl,denE_far hfe];exact hfr
        obtain⟨dst,op,ty',pos,af,gd⟩:=o
        dsimp only at hn hd
        subst hd
        cases op<;>first|(cases hn;done)|skip
        .simp only [newS] at hn
         split at hn
         .rename_i r hr hf hfe;injection hn with hn;injection hn with e1 e2;subst e1 e2;obtain⟨h3,h4⟩:=findT_ok hT hr;subst h4;obtain⟨it,d,h5,_,_,h6,_⟩:=h3.info;exact key h3.2 hf hfe (exec_alloc rfl (by rw [h5];exact h6) a w)
         .cases hn
        .simp only [newS] at hn
         split at hn
         .rename_i qs hx hf hfe;injection hn with hn;injection hn with e1 e2;subst e1 e2;have e1:=hs.fr.eval (evS_ok hx);refine key (hs.ok.ev hx) hf hfe ?_;rw [runBox rfl,e1];rfl
         .rename_i s hx hf hfe
          split at hn
          .rename_i hfc;injection hn with hn;injection hn with e1 e2;subst e1 e2;have e1:=hs.fr.eval (evS_ok hx);have hso:s.Ok:=hs.ok.ev hx;obtain⟨h5,h6⟩:=fitC_ok hso hfc;refine key (λp hp=>by rw [aD.1 hp];exact⟨hso,h5,h6⟩) hf hfe ?_;rw [runBox rfl,e1];show _=Result.ok _ (w.alloc (.cells #[s.den] _));rw [<-h6];rfl
          .cases hn
         .cases hn
def l_autoS(hT:OkT P T){l l':zo}{E E':SE}{L L':ze}(h:autoS T ops N l E L=(l',E',L'))(hn:lS P b ops Q N l' ⟨E',L',R,F,M⟩):lS P b ops Q N l ⟨E,L,R,F,M⟩:=autoS_ok hT (by rw [h];exact hn)
end
end Go.Proofs.Q
