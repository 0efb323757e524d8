import Derived.Test.YtedhfbgocgnilaaGreatDoorRows
import Derived.WalkKit
import Derived.WalkSpells
import Derived.WalkLawsBesides
import Derived.Lib.Hide
import Derived.Laws.CopyOwn
import Derived.Deep.QuietTactic
import Derived.StillTail
import Derived.Deep.MidRow
import Derived.Laws.Bits64b
import Derived.Laws.BitsAllLaws
import Derived.Laws.Externs
import Derived.Maps.AppendAt
import Derived.Deep.OwnRows
import Derived.Great.BuildSlice
import Derived.Lib.SlBytesConst
import Derived.Laws.Tables
@[match_pattern] abbrev eE(g:Nat):Go.Value:=.pointer (some ⟨g,0,none⟩)
@[match_pattern] abbrev cj(g n c:Nat):Go.Value:=.slice (some ⟨g,0,none⟩) n c
abbrev aX:=List (List UInt8)
abbrev bK:=Go.Exit->Go.Act->Go.World->Prop
abbrev fg:=Go.Act->Go.World->Prop
abbrev aE:=Go.World->Prop
abbrev ae:=List UInt8
abbrev aO:=Option Go.Addr
abbrev ct:=Array Go.Value
abbrev cU:=List Go.Value
abbrev aZ:=Array Go.Oper
abbrev aN:=List Go.Oper
abbrev et:=Array Bool
abbrev cn:=Nat->Prop
abbrev aK:=Nat->Nat
abbrev aC:=List Nat
abbrev j5:=Option Nat
abbrev na:=Array Go.Operand
abbrev mX:=Array Go.TypeId
open List.cons renaming injEq->BM
open Go.World renaming size_alloc->wD
open Go.Addr renaming add_mid->lf
open Prod.mk renaming injEq->nS
open Option renaming map_some->kF
open Option.some renaming injEq->iv,inj->jm
open Go.Sem renaming run_bind->bI,run_pure->bM
open Go.Result renaming andThen_ok->bS
open Go renaming FuncId->yi,IntKind->yj,Oper->yk,Value->yl,Program->ym,TypeId->yn,Operand->yo,World->yp
set_option linter.defProp false
open Go.Proofs.Tryz
set_option maxRecDepth 20000
open Array renaming replicate->bD,any_eq_true'->dK,getElem?_setIfInBounds_ne->kK,size_setIfInBounds->tQ,getD_eq_getD_getElem?->wv,length_toList->kD,getElem?_eq_some_iff->po,getElem?_eq_getElem->xt,toList_append->wC,toArray_toList->BG,toList_map->Fp,getElem?_modify->P4
open Bool renaming or_eq_true->dR,false_eq_true->j1,not_true->uG,and_eq_true->dJ
open Classical renaming choose->qF,choose_spec->tF
open Go.Act renaming put_comm->kL,put->nO,eval->pK
open Go.Builtin renaming len_->oC
open Go.Code renaming region->pG
open Go.Extern.MathBitsCarry renaming m64->oR
open Go.Instr renaming sureAddr->gG,fill->jW,loadAt->kB,storeAt->nC
open Go.Next renaming value->oO
open Go.Op renaming equalIn->cO
open Go.Oper renaming upon->fE,wp->fW
open Go.Region renaming wanted->aU,ready->bC,binds->dE,Mode->dW,noSelect->iK,noSelect_spec->Ac
open Go.Value renaming cells->nW
open List renaming replicate->aB,getElem?_cons_zero->bV,range->dV,mem_range->iW,append_nil->fj,eq_nil_of_length_eq_zero->lB,length_append->aV,mem_singleton->bU,getElem?_eq_getElem->da,mem_cons->bT,getElem?_eq_some_iff->eY,mem_cons_of_mem->dS,mem_of_getElem?->eg,mem_cons_self->eh,length_take->du,append_assoc->ei,mem_map->dv,length_cons->fL,map_cons->eZ,mem_append->iA,getElem?_append_right->rz,take_append_drop->oN,pairwise_cons->qu,length_drop->k7,all_eq_true->pS,nil_append->lD,ext_getElem->qv,getElem?_append_left->uk,getElem?_take->uq,map_set->oW,set_cons_succ->Ah,map_toArray->yK,set_cons_zero->C7,map_nil->xV,getElem?_drop->Fg,mem_range'_1->Dr,mem_append_left->HO,nodup_cons->AF,mem_append_right->KZ,drop_eq_nil_of_le->Lb,take_zero->DG,pairwise_append->Lp,cons_append->AO,pairwise_iff_getElem->Pk,getElem_of_mem->Ly,getElem?_cons_succ->PZ,forIn_cons->Q8
open List.Pairwise renaming nil->qE,cons->rN
open Nat renaming blt->aW,beq->b9,add_right_comm->eH,ble->uF,zero_add->dI,le_refl->aQ,le_of_ble_eq_true->cL,zero_le->bl,eq_of_beq_eq_true->gq,lt_of_lt_of_le->nP,lt_of_le_of_lt->nc,add_assoc->kZ,add_zero->jP,add_sub_cancel_left->xD,and_two_pow_sub_one_eq_mod->KT,lt_irrefl->ze,add_comm->zh,pow_mul->AK
open Std.Legacy.Range renaming size->gC
open UInt8 renaming ofNat->bX
namespace Go.Proofs.Q
abbrev di(o:Go.Oper)(k N:Nat):Prop:=(o.guard,o.dst,Nat.blt k N)=(none,some k,true)
theorem eB{o:Go.Oper}{k N:Nat}(h:di o k N):o.guard=none:=congrArg (·.1) h
theorem eC{o:Go.Oper}{k N:Nat}(h:di o k N):o.dst=some k:=congrArg (·.2.1) h
theorem dQ{o:Go.Oper}{k N:Nat}(h:di o k N):Nat.blt k N=true:=congrArg (·.2.2) h
theorem lu{o:Go.Oper}{k N:Nat}(h:o.guard=none)(h2:o.dst=some k)(h3:Nat.blt k N=true):di o k N:=by show(_,_,_)=_;rw [h,h2,h3]
def br(v:Nat):ae:=[bX (v/72057594037927936),bX (v/281474976710656),bX (v/1099511627776),bX (v/4294967296),bX (v/16777216),bX (v/65536),bX (v/256),bX v]
def step(a:Nat)(x:UInt8):Nat:=(a*256+x.toNat)%18446744073709551616
def val(l:ae):Nat:=l.foldl step 0
def nQ(v:Nat):(br v).length=8:=rfl
def ai2(l:ae)(x:UInt8):val (l++[x])=step (val l) x:=by simp [val]
def aC4(a:Nat)(x:UInt8):step a x<18446744073709551616:=Nat.mod_lt _ (by omega)
def aEG(l:ae):val l<18446744073709551616:=by
 rcases List.eq_nil_or_concat l with rfl|⟨l',x,rfl⟩
 .simp [val]
 .rw [List.concat_eq_append,ai2];exact aC4 _ _
def aEE(v:Nat)(h:v<18446744073709551616):val (br v)=v:=by simp [val,br,step];omega
def qn(l:ae)(f k:Nat):ae×ae×Nat :=
  if f=0 then(if l.length<k then([],l,10) else(l.take k,l.drop k,0)) else([],l,f)
def aD0{l:ae}{f k:Nat}(h:f≠0):qn l f k=([],l,f):=by simp [qn,h]
def aD2{l:ae}{k:Nat}(h:l.length<k):qn l 0 k=([],l,10):=by simp [qn,h]
def aD1{l:ae}{k:Nat}(h:k<=l.length):qn l 0 k=(l.take k,l.drop k,0):=by simp only [qn,if_pos];rw [if_neg (by omega)]
def num(l:ae)(f:Nat):Nat×ae×Nat:=(val (qn l f 8).1,(qn l f 8).2)
def most(l:ae)(f lim:Nat):Nat×ae×Nat:=if lim<(num l f).1 then(0,(num l f).2.1,12) else num l f
def Nr(l:ae)(f:Nat):Nat:=if f=0 then(if l.length=0 then 0 else 11) else f
open Go.RowKit
def By(l:ae):cU:=l.map λx=>.int .u8 (x.toNat:Int)
def dH(l:ae):(By l).length=l.length:=by simp [By]
def MP(a b:ae):By (a++b)=By a++By b:=by simp [By]
def qp(l:ae):∀u∈By l,u.oneCell'=true:=by intro u hu;obtain⟨x,_,rfl⟩:=dv.1 hu;rfl
def Rr{l:ae}{j:Nat}{u:yl}(h:(By l)[j]?=some u):∃x,l[j]?=some x/\u = .int .u8 (x.toNat:Int):=by simp only [By,List.getElem?_map,Option.map_eq_some_iff] at h;obtain⟨x,hx,rfl⟩:=h;exact⟨x,hx,rfl⟩
def mm(w:yp)(lo hi:Nat)(A:aO)(l:ae):Prop :=
  0<l.length->∃ad,A=some ad/\lo<=ad.block/\ad.block<hi/\∀j x,l[j]?=some x->w.cell? (ad.add j)=some (.int .u8 (x.toNat:Int))
section
variable{w w':yp}{lo hi lo' hi':Nat}{A:aO}{l:ae}
def block_add(a:Addr)(n:Nat):(a.add n).block=a.block:=by unfold Addr.add;split<;>rfl
def akL(a:Addr)(i j:Nat):(a.add i).add j=a.add (i+j):=by unfold Addr.add;by_cases h1:i=0<;>by_cases h2:j=0<;>simp [h1,h2,kZ]
def mm.nil(w:yp)(lo hi:Nat)(A:aO):mm w lo hi A []:=λh=>absurd h (by simp)
def mm.more(h:mm w lo hi A l)(h1:lo'<=lo)(h2:hi<=hi'):mm w lo' hi' A l:=λhl=>by obtain⟨ad,e,ha,hb,hc⟩:=h hl;exact⟨ad,e,by omega,by omega,hc⟩
def mm.fO(h:mm w lo hi A l)(hk:∀k,lo<=k->k<hi->w'.heap[k]?=w.heap[k]?):mm w' lo hi A l:=λhl=>by obtain⟨ad,e,ha,hb,hc⟩:=h hl;exact⟨ad,e,ha,hb,λj x hx=>by rw [World.cell?_of_block (w:=w) (by rw [block_add];exact hk _ ha hb)];exact hc j x hx⟩
def mm.below(h:mm w lo hi A l){B:Nat}(hb:Below B w w')(aF:hi<=B):mm w' lo hi A l:=h.fO λk _ hk=>hb.block k (by omega)
def mm.grown(h:mm w lo hi A l){r:Nat}(hg:w.grownBy w' (some r))(aF:hi<=w.heap.size)(hr:r<lo\/hi<=r):mm w' lo hi A l :=
 h.fO λk h1 h2=>hg.block k (by omega) (λe=>by injection e with e;omega)
def mm.alloc(h:mm w lo hi A l)(o:Obj)(aF:hi<=w.heap.size):mm (w.alloc o) lo hi A l:=h.fO λk _ h2=>Below.heap_alloc w o k (by omega)
def mm.take(h:mm w lo hi A l)(k:Nat):mm w lo hi A (l.take k):=λhl=>by
 obtain⟨ad,e,ha,hb,hc⟩:=h (by simp at hl;omega);exact⟨ad,e,ha,hb,λj x hx=>hc j x (by
  rw [uq] at hx;split at hx
  .exact hx
  .cases hx)⟩
def mm.cut(h:mm w lo hi A l){k c:Nat}(hk:k<=l.length)(hc:l.length<=c):mm w lo hi (if c=k then A else A.map (·.add k)) (l.drop k):=λhl=>by simp only [k7] at hl;obtain⟨ad,rfl,ha,hb,p9⟩:=h (by omega);rw [if_neg (by omega)];exact⟨ad.add k,rfl,by rw [block_add];exact ha,by rw [block_add];exact hb,λj x hx=>by rw [akL];exact p9 (k+j) x (by rw [<-hx,Fg])⟩
end
def bB(w:yp)(g t:Nat)(cs:ct):Prop:=w.heap[g]?=some (.cells cs t (0,0))
section
variable{w w':yp}{g t:Nat}{cs:ct}
def bB.lt(h:bB w g t cs):g<w.heap.size:=(po.1 h).1
def bB.cell(h:bB w g t cs)(i:Nat):w.cell? ⟨g,i,none⟩=cs[i]?:=cell_of_row w g i cs t (0,0) h
def bB.free(h:bB w g t cs)(i:Nat):w.frozen? ⟨g,i,none⟩=false:=frozen_of_row w g i cs t h
def bB.new(w:yp)(t:Nat)(cs:ct):bB (w.alloc (.cells cs t)) w.heap.size t cs:=heap_alloc_new w _
def bB.alloc(h:bB w g t cs)(o:Obj):bB (w.alloc o) g t cs:=(Below.heap_alloc w o g h.lt).trans h
def bB.set(h:bB w g t cs)(i:Nat)(u:yl):bB (w.setCell ⟨g,i,none⟩ u) g t (cs.setIfInBounds i u):=by unfold bB at h ⊢;simp [World.setCell,P4,h]
def bB.nh(h:bB w g t cs){p:Addr}(hp:g≠p.block)(u:yl):bB (w.setCell p u) g t cs:=(heap_setCell_other w p g u hp).trans h
def bB.below{B:Nat}(h:bB w g t cs)(hb:Below B w w')(hg:g<B):bB w' g t cs:=(hb.block g hg).trans h
end
def gV(w:yp)(lo hi:Nat)(A:aO)(l:ae)(c:Nat):Prop :=
  l.length<=c/\c<=9223372036854775807/\(A=none->c=0)/\mm w lo hi A l
section
variable{w w':yp}{lo hi lo' hi' c:Nat}{A:aO}{l:ae}
def gV.more(h:gV w lo hi A l c)(h1:lo'<=lo)(h2:hi<=hi'):gV w lo' hi' A l c:=⟨h.1,h.2.1,h.2.2.1,h.2.2.2.more h1 h2⟩
def gV.below(h:gV w lo hi A l c){B:Nat}(hb:Below B w w')(aF:hi<=B):gV w' lo hi A l c:=⟨h.1,h.2.1,h.2.2.1,h.2.2.2.below hb aF⟩
def gV.alloc(h:gV w lo hi A l c)(o:Obj)(aF:hi<=w.heap.size):gV (w.alloc o) lo hi A l c:=⟨h.1,h.2.1,h.2.2.1,h.2.2.2.alloc o aF⟩
def gV.nil(w:yp)(lo hi:Nat):gV w lo hi none [] 0:=⟨by simp,by omega,λ_=>rfl,mm.nil _ _ _ _⟩
def gV.take(h:gV w lo hi A l c)(k:Nat):gV w lo hi A (l.take k) c:=⟨by have:=h.1;simp;omega,h.2.1,h.2.2.1,h.2.2.2.take k⟩
def gV.cut(h:gV w lo hi A l c){k:Nat}(hk:k<=l.length):gV w lo hi (if c=k then A else A.map (·.add k)) (l.drop k) (c-k):=by
 refine⟨by have:=h.1;simp;omega,by have:=h.2.1;omega,λhA=>?_,h.2.2.2.cut hk h.1⟩;split at hA
 .rw [h.2.2.1 hA];omega
 .cases A with
  | none=>rw [h.2.2.1 rfl];omega
  | some a=>cases hA
end
def gV.none_{w:yp}{lo hi c:Nat}{A:aO}{l:ae}(h:gV w lo hi A l c)(hA:A=none):l.length=0/\c=0:=by have:=h.2.2.1 hA;have:=h.1;omega
def gV.cells{w:yp}{lo hi c:Nat}{A:aO}{l:ae}(h:gV w lo hi A l c):∀ad,A=some ad->∀j u,(By l)[j]?=some u->w.cell? (ad.add j)=some u:=by
 intro ad hA j u hu;obtain⟨x,hx,rfl⟩:=Rr hu;have hl:0<l.length:=by have:=(eY.1 hx).1;omega
 obtain⟨ad',hA',_,_,hc⟩:=h.2.2.2 hl;rw [hA] at hA';injection hA' with hA';subst hA';exact hc j x hx
def xl(w:yp)(hi:Nat)(A:aO)(ls:aX):Prop :=
  0<ls.length->∃ad,A=some ad/\ad.block<hi/\∀(i:Nat) l,ls[i]?=some l->∃A' c,w.cell? (ad.add i)=some (.slice A' l.length c)/\gV w 0 hi A' l c
def xl.below{w w':yp}{hi B:Nat}{A:aO}{ls:aX}(h:xl w hi A ls)(hb:Below B w w')(aF:hi<=B):xl w' hi A ls:=λhl=>by obtain⟨ad,rfl,ha,hc⟩:=h hl;refine⟨ad,rfl,ha,λi l hi=>?_⟩;obtain⟨A',c,h1,h2⟩:=hc i l hi;exact⟨A',c,by rw [hb.cell (by rw [block_add];omega)];exact h1,h2.below hb aF⟩
theorem afP{P:ym}(w:yp)(ty:yn)(g:Nat)(cs eS:ct)(t:yn)(hg:w.heap[g]?=some (.cells eS t (0,0)))
 (hi:(P.info? ty).map (·.size)=some cs.size)(EV:eS.size=cs.size)(h1:∀v∈cs.toList,v.oneCell'=true) :
  (nC ty (eE g) (.agg cs)).run P w = .ok () (w.setRow g cs):=by
 have aa:=run_storeCells_at P g 0 t cs.toList 0 eS w hg (by simp;omega) h1;have hd:eS.toList.drop cs.toList.length=[]:=Lb (by simp;omega);simp only [jP,dI,DG,lD] at aa;rw [hd,fj,BG] at aa
 cases hq:P.info? ty with
 | none=>simp [hq] at hi
 | some i =>
  have hs:i.size=cs.size:=by simpa [hq] using hi
  simp [nC,gG,storeVar,sizeOf,typeInfo,hq,hs,nW,bI,aa]
def wpList_store_row{P:ym}{ops:aZ}{rest:aN}{o:yk}{a:Act}{w:yp}{Q:bK}(kN:o.guard=none)(ty:yn)(p x:yo)(ho:o.op = .store ty p x)
 (g:Nat)(hp:a.eval p = .pointer (some ⟨g,0,none⟩))(cs:ct)(hx:a.eval x = .agg cs)(t:yn)(eS:ct)(hg:w.heap[g]?=some (.cells eS t (0,0)))
 (hi:(P.info? ty).map (·.size)=some cs.size)(EV:eS.size=cs.size)(h1:∀v∈cs.toList,v.oneCell'=true)
 (h:wpList P ops Q rest (a.put o.dst (.tuple #[])) (w.setRow g cs)):wpList P ops Q (o::rest) a w :=
 wpList_plain kN λ_ hK=>by unfold fW execOp;simp only [ho,hp,hx,bI,bM,bS,afP w ty g cs eS t hg hi EV h1];exact hK _ _ h
def bB.row{w:yp}{g t:Nat}{cs:ct}(h:bB w g t cs)(cs':ct):bB (w.setRow g cs') g t cs':=setRow_heap w g cs cs' t _ h
def bB.Qv{w:yp}{g t:Nat}{cs:ct}(h:bB w g t cs){g':Nat}(b8:g≠g')(cs':ct):bB (w.setRow g' cs') g t cs:=by unfold bB at h ⊢;rw [World.setRow];simp only [P4];rw [if_neg (by omega)];exact h
def aHS(l:List Int):cU:=l.map (.int .i64)
def ub{l:ae}{j:Nat}(h:j<l.length):(By l).toArray[j]?=some (.int .u8 ((l[j]!).toNat:Int)):=by simp [By,h]
def bB.drew{w:yp}{g t:Nat}{cs:ct}(h:bB w g t cs):bB w.drew g t cs:=h
def Nf(w:yp)(t:Nat)(cs:ct)(o1 o2:Obj):bB (((w.alloc (.cells cs t)).alloc o1).alloc o2) w.heap.size t cs:=((bB.new w t cs).alloc o1).alloc o2
def Ek(w:yp)(t:Nat)(cs:ct)(o1 o2:Obj):bB (((w.alloc o1).alloc (.cells cs t)).alloc o2) (w.heap.size+1) t cs:=by
 have h:=(bB.new (w.alloc o1) t cs).alloc o2
 rwa [wD] at h
def Ju(w:yp)(t:Nat)(cs:ct)(o1 o2:Obj):bB (((w.alloc o1).alloc o2).alloc (.cells cs t)) (w.heap.size+1+1) t cs:=by
 have h:=bB.new ((w.alloc o1).alloc o2) t cs
 rwa [wD,wD] at h
def alN(w:yp)(t:Nat)(cs:ct)(o1 o2 o3:Obj):bB ((((w.alloc (.cells cs t)).alloc o1).alloc o2).alloc o3) w.heap.size t cs:=(((bB.new w t cs).alloc o1).alloc o2).alloc o3
def alO(w:yp)(t:Nat)(cs:ct)(o1 o2 o3:Obj):bB ((((w.alloc o1).alloc (.cells cs t)).alloc o2).alloc o3) (w.heap.size+1) t cs:=by
 have h:=((bB.new (w.alloc o1) t cs).alloc o2).alloc o3
 rwa [wD] at h
def alP(w:yp)(t:Nat)(cs:ct)(o1 o2 o3:Obj):bB ((((w.alloc o1).alloc o2).alloc (.cells cs t)).alloc o3) (w.heap.size+1+1) t cs:=by
 have h:=(bB.new ((w.alloc o1).alloc o2) t cs).alloc o3
 rwa [wD,wD] at h
def alQ(w:yp)(t:Nat)(cs:ct)(o1 o2 o3:Obj):bB ((((w.alloc o1).alloc o2).alloc o3).alloc (.cells cs t)) (w.heap.size+1+1+1) t cs:=by
 have h:=bB.new (((w.alloc o1).alloc o2).alloc o3) t cs
 rwa [wD,wD,wD] at h
def alD(w:yp)(o1 o2 o3 o4:Obj):Below w.heap.size w ((((w.alloc o1).alloc o2).alloc o3).alloc o4) :=
 ((((Below.refl _ _).alloc (aQ _) _).alloc (by simp) _).alloc (by simp;omega) _).alloc (by simp;omega) _
def z32:ct:=(By (aB 32 0)).toArray
def IQ(cs:ct)(h:cs.size=32):(prog.info? 47).map (·.size)=some cs.size:=by rw [h];kernel_rfl
def Rt(l:ae)(k:Nat)(x:UInt8):(By l).toArray.setIfInBounds k (.int .u8 (x.toNat:Int))=(By (l.set k x)).toArray:=by simp [By,oW]
def Uy{l:ae}(h:l.length=32):(By l).toArray.size=32:=by rw [List.size_toArray,dH,h]
def as3:(prog.info? 5).map (λi=>(i.zero,i.size,i.bytes))=some (some (.int .u8 0),1,1):=by kernel_rfl
def nu:=@underlying5
def adG(w:yp)(l:ae)(i:Nat)(hi:i<l.length):(part 5 (By l).toArray (i*1)).run prog w = .ok (.int .u8 (l[i].toNat:Int)) w:=by
 have EE:(isAgg 5).run prog w = .ok false w:=by unfold isAgg;rw [bI,run_underlying nu w];rfl
 have hc:(By l)[i]?=some (.int .u8 (l[i].toNat:Int)):=by simp [By,da hi]
 unfold part;simp [bI,EE,hc,bM]
def avH(d:Nat)(x y:UInt8)(w:yp):(cO (d+1) 5 (.int .u8 (x.toNat:Int)) (.int .u8 (y.toNat:Int))).run prog w = .ok (decide (x=y)) w:=by
 simp [cO,run_underlying nu];by_cases h:x=y
 .simp [h]
 .have h2:¬x.toNat=y.toNat:=λe=>h (UInt8.toNat.inj e);simp [h];intro e;exact h2 (by omega)
def Sj(d n t:Nat)(l m:ae)(ht:prog.underlying t=some (.array n 5))(hl:l.length=n)(hm:m.length=n)(w:yp) :
  (cO (d+2) t (.agg (By l).toArray) (.agg (By m).toArray)).run prog w = .ok (decide (l=m)) w:=by
 obtain⟨i0,qa,wS,vE,KS⟩:=info_parts as3
 have hI:∀(I:aC),(∀i∈I,i<n)->(forIn I ((none:Option Bool),()) λi _=>do
   let a <-part 5 (By l).toArray (i*1)
   let b <-part 5 (By m).toArray (i*1)
   let r <-cO (d+1) 5 a b
   if (!r)=true then pure (ForInStep.done (some false,())) else pure (ForInStep.yield (none,()))).run prog w = .ok (if ∀i∈I,l[i]! = m[i]! then(none,()) else(some false,())) w:=by
  intro I
  induction I with
  | nil=>intro _;simp [bM]
  | cons i I ih =>
   intro h
   have hi:i<l.length:=by have:=h i (by simp);omega
   have hj:i<m.length:=by have:=h i (by simp);omega
   have hp:=adG w l i hi;have hq:=adG w m i hj;have he:=avH d l[i] m[i] w;have e1:l[i]! = l[i]:=getElem!_pos l i hi;have e2:m[i]! = m[i]:=getElem!_pos m i hj
   by_cases hx:l[i]=m[i]
   .rw [show decide (l[i]=m[i])=true by simp [hx]] at he
    simp only [Q8,bI,hp,hq,bS,he,uG,j1,if_false,bM];rw [ih (λj hj=>h j (by simp [hj]))];congr 1;by_cases ha:∀i∈I,l[i]! = m[i]!
    .have hb:∀j∈i::I,l[j]! = m[j]!:=by
      intro j hj;rcases List.mem_cons.mp hj with rfl|hj
      .rw [e1,e2,hx]
      .exact ha j hj
     rw [if_pos ha,if_pos hb]
    .rw [if_neg ha,if_neg (λhb=>ha λj hj=>hb j (dS _ hj))]
   .rw [show decide (l[i]=m[i])=false by simp [hx]] at he;simp only [Q8,bI,hp,hq,bS,he,Bool.not_false,if_true,bM];rw [if_neg (λhb=>hx (by have:=hb i (eh ..);rw [e1,e2] at this;exact this))]
 rw [cO];simp only [bI,run_underlying ht,bS,sizeOf,typeInfo,run_program,qa,vE,bM,Std.Legacy.Range.forIn_eq_forIn_range']
 rw [hI _ (λi hi=>by have:=Dr.1 hi;simp [gC] at this;omega)]
 by_cases BZ:l=m
 .subst BZ;simp [bM]
 .have b8:¬ ∀i∈List.range' 0 n 1,l[i]! = m[i]!:=λha=>BZ (by
   apply qv (by rw [hl,hm]);intro i h1 h2;have:=ha i (Dr.2 (by omega))
   rwa [getElem!_pos l i h1,getElem!_pos m i h2] at this)
  have hs:gC [:n]=n:=by simp [gC]
  rw [hs,if_neg b8,show decide (l=m)=false by simp [BZ]];rfl
def dp:=@underlying47
def anT(l m:ae)(hl:l.length=32)(hm:m.length=32)(w:yp):(cO 10000 47 (.agg (By l).toArray) (.agg (By m).toArray)).run prog w = .ok (decide (l=m)) w:=Sj 9998 32 47 l m dp hl hm w
open Go.IntWalk
def qi:Op->Bool
  | .move _ | .assign _ | .pick .. | .alloc _ | .box .. | .build .. | .load .. | .store .. | .binOp .. | .unOp .. | .convert .. | .fieldAddr .. | .field .. | .indexAddr .. | .index .. | .extract .. | .slice .. | .makeInterface ..=>true
  | _=>false
def Lu:Op->Bool
  | .call c=>match c.callee with | .builtin .len=>false|_=>true
  | o=>!qi o
def axU{o:Op}(h:Lu o=true):qi o=false:=by cases o<;>first|rfl|exact absurd h (by simp [Lu,qi])
section
variable{P:ym}
theorem VT{s:Sem yl}{w w':yp}{n:Next}(h:(do pure (oO (<-s)):Sem Next).run P w = .ok n w'):∃v,n = .value v:=by
 rw [bI] at h;cases hs:s.run P w with
 | ok v w1 =>
  rw [hs] at h;simp only [bS,bM] at h
  injection h with h1 h2
  exact⟨v,h1.symm⟩
 | halt x w1 =>
  rw [hs] at h
  cases h
theorem aAK{s:Sem Unit}{w w':yp}{n:Next}(h:(do s;pure Next.skip:Sem Next).run P w = .ok n w'):n = .skip:=by
 rw [bI] at h;cases hs:s.run P w with
 | ok v w1 =>
  rw [hs] at h;simp only [bS,bM] at h
  injection h with h1 h2
  exact h1.symm
 | halt x w1 =>
  rw [hs] at h
  cases h
def adN{ρ:yo->yl}{o:yk}(hp:qi o.op=true){w w':yp}{n:Next}(h:(execOp ρ o).run P w = .ok n w'):(∃v,n = .value v)\/n = .skip:=by
  obtain⟨dst,op,ty,pos,af,gd⟩:=o;cases op<;>first
    | (cases hp;done)
    | exact .inl (VT h)
    | exact .inr (aAK h)
    | (refine .inl ?_
       unfold execOp at h
       simp only [bM] at h
       injection h with h1 h2
       exact⟨_,h1.symm⟩)
    | (refine .inl ?_
       unfold execOp at h
       exact VT (s:=do pure (if <-asBool _ then _ else _)) (by simpa using h))
end
section
variable{P:ym}{ops:aZ}{md:dW}{Q:bK}{C0:aE}
def tX(P:ym)(w:yp)(V:yl->Prop):Result Next->Prop
  | .ok (.value u) w'=>w'=w/\V u
  | .ok .skip w'=>w'=w/\V undef
  | .ok (.enter f args) w'=>w'=w/\Calls P f args w (λe w''=>∃v,e = .returned v/\V v/\Below w.heap.size w w'')
  | _=>False
def nN(P:ym)(o:yk)(a:Act)(w:yp)(V:yl->Prop):Prop:=tX P w V ((execOp a.eval o).run P w)
def Vs(P:ym)(o:yk)(a:Act)(C0:aE)(next:Act->Prop):Prop :=
  (∃v,(∀w,C0 w->nN P o a w (· = v))/\next (a.put o.dst v))\/(Lu o.op=true/\∃V,(∀w,C0 w->nN P o a w V)/\∀v,V v->next (a.put o.dst v))
def fQ(P:ym)(ops:aZ)(C0:aE)(Q:Act->Prop):aN->Act->Prop
  | [],a=>Q a
  | o::rest,a=>if aU o (yielded ops a.tmps) then Vs P o a C0 (fQ P ops C0 Q rest) else fQ P ops C0 Q rest (a.put o.dst undef)
def Gm{Q:Act->Prop}{a:Act}(h:Q a):fQ P ops C0 Q [] a:=h
def ay5{Q Q':Act->Prop}(h:∀a,Q a->Q' a){o:yk}{a:Act}(hh:Vs P o a C0 Q):Vs P o a C0 Q':=by
 rcases hh with⟨v,h1,h2⟩|⟨hp,V,h1,h2⟩
 .exact .inl ⟨v,h1,h _ h2⟩
 .exact .inr ⟨hp,V,h1,λv ab=>h _ (h2 v ab)⟩
theorem MH{Q Q':Act->Prop}(h:∀a,Q a->Q' a):∀(l:aN) (a:Act),fQ P ops C0 Q l a->fQ P ops C0 Q' l a
 | [],a,hh=>h a hh
 | o::l,a,hh=>by
  unfold fQ at hh ⊢;split
  .rename_i hw;simp only [hw,if_true] at hh;exact ay5 (MH h l) hh
  .rename_i hw;simp only [hw] at hh;exact MH h l _ (by simpa using hh)
def ru(P:ym)(ops:aZ)(C0:aE)(o:yk)(V:yl->Prop)(a:Act):Prop :=
  (aU o (yielded ops a.tmps)=true/\∀w,C0 w->nN P o a w V)\/(aU o (yielded ops a.tmps)=false/\V undef)
def ru.of_same{o:yk}{V:yl->Prop}{a a':Act}(hy:ru P ops C0 o V a)(he:execOp a'.eval o=execOp a.eval o)
 (hw:aU o (yielded ops a'.tmps)=aU o (yielded ops a.tmps)):ru P ops C0 o V a':=by
 unfold ru nN at *
 rw [he,hw];exact hy
def ru.any{o:yk}{V:yl->Prop}{a:Act}(hy:ru P ops C0 o V a){w:yp}(hC:C0 w):∃v,V v:=by
 rcases hy with⟨_,h⟩|⟨_,h⟩
 .have h3:=h w hC
  unfold nN at h3;generalize (execOp a.eval o).run P w=r at *;cases r with
  | ok n w' =>
   cases n<;>simp only [tX] at h3
   case value u=>exact⟨u,h3.2⟩
   case skip=>exact⟨_,h3.2⟩
   case enter f args =>
    obtain⟨e,w1,fr,⟨v,_,ab,_⟩,_⟩:=h3.2 [];exact⟨v,ab⟩
  | halt x w'=>simp only [tX] at h3
 .exact⟨_,h⟩
def ru.wpOp{i:Nat}{o:yk}{V:yl->Prop}{a:Act}(hi:ops[i]?=some o)(hy:ru P ops C0 o V a)
 {K:fg}{w:yp}(hC:C0 w)(h:∀v w',V v->Below w.heap.size w w'->K (a.put o.dst v) w'):wpOp P ops Q i K a w:=by
 unfold Go.wpOp
 simp only [hi]
 rcases hy with⟨hw,ab⟩|⟨hw,ab⟩
 .simp only [hw,if_true]
  refine .inl ?_;have h3:=ab w hC;unfold nN at h3;unfold fW;generalize (execOp a.eval o).run P w=r at *;cases r with
  | ok n w' =>
   cases n<;>simp only [tX] at h3<;>simp only [fE]
   case value u =>
    obtain⟨e1,e2⟩:=h3;rw [e1];exact h _ _ e2 (Below.refl _ _)
   case skip =>
    obtain⟨e1,e2⟩:=h3;rw [e1];exact h _ _ e2 (Below.refl _ _)
   case enter f args =>
    obtain⟨e1,hc⟩:=h3;rw [e1]
    exact hc.mono λe w'' ⟨v,he,ab,hw''⟩=>by subst he;exact h _ _ ab hw''
  | halt x w'=>simp only [tX] at h3
 .simp only [hw,j1,if_false];exact h _ _ ab (Below.refl _ _)
def WT{j:Nat}{oi oj:yk}{V:yl->Prop}(hj:ops[j]?=some oj)(iC:oi.apart ops oj=true)
 (Hy:∀cs b,oi.op ≠ .select cs b)(KM:∀cs b,oj.op ≠ .select cs b)(b8:∃v,V v)(ky:qi oj.op=true\/∃v,∀u,V u->u=v)
 (hQ:∀c a d v w,Q (.panic c) (a.put d v) w->Q (.panic c) a w){K:fg}{a:Act}{w:yp}
 (hy:ru P ops C0 oi V a)(h:∀v,V v->wpOp P ops Q j K (a.put oi.dst v) w) :
  wpOp P ops Q j (λa' w'=>ru P ops C0 oi V a'/\∀v,V v->K (a'.put oi.dst v) w') a w:=by
 obtain⟨h1,h2,h3⟩:=Oper.apart_spec iC
 have fO:∀(a:Act),ru P ops C0 oi V a->∀u,ru P ops C0 oi V (a.put oj.dst u):=λa hy u =>
  hy.of_same (execOp_put oi Hy a oj.dst u h3) (wanted_put oi a oj.dst u h3)
 have keepD:∀d,ru P ops C0 oi V { a with defers:=d::a.defers }:=λd=>hy.of_same rfl rfl;obtain⟨v0,nn⟩:=b8
 unfold wpOp at *
 simp only [hj] at *;have qh:∀v,aU oj (yielded ops (a.put oi.dst v).tmps)=aU oj (yielded ops a.tmps):=λv=>wanted_put oj a oi.dst v h1
 split
 .rename_i hw
  by_cases Zs:oj.asks P a w/\LetsOut Q
  .exact .inr Zs
  have hl:∀v,V v->oj.wp P (a.put oi.dst v) w K Q:=λv ab=>by
   have h5:=h v ab;rw [qh v] at h5;simp only [hw,if_true] at h5;rcases h5 with h5|⟨h5,h6⟩
   .exact h5
   .refine absurd ⟨?_,h6⟩ Zs;unfold Oper.asks at *;rw [execOp_put oj KM a oi.dst v h1] at h5;exact h5
  refine .inl ?_;unfold fW at *;have iJ:∀v,V v->oj.upon P (a.put oi.dst v) K Q ((execOp a.eval oj).run P w):=λv ab=>by have h5:=hl v ab;rw [execOp_put oj KM a oi.dst v h1] at h5;exact h5
  have hpn:=λn w'=>adN (P:=P) (ρ:=a.eval) (o:=oj) (w:=w) (w':=w') (n:=n);generalize (execOp a.eval oj).run P w=r at *;cases r with
  | ok n w' =>
   cases n
   case value u=>exact⟨fO a hy u,λv ab=>by rw [<-kL a v u h2];exact iJ v ab⟩
   case skip=>exact⟨fO a hy _,λv ab=>by rw [<-kL a v undef h2];exact iJ v ab⟩
   all_goals
    rcases ky with ky|⟨vv,Cg⟩
    .rcases hpn _ _ ky rfl with⟨v,ab⟩|ab<;>cases ab
   case enter.inr f args =>
    have h5:=iJ v0 nn;simp only [fE] at h5 ⊢;refine Calls.mono h5 λe w'' he=>?_
    cases e with
    | returned u=>exact⟨fO a hy u,λv ab=>by rw [Cg v ab,<-Cg v0 nn,<-kL a v0 u h2];exact he⟩
    | panicked c=>exact hQ _ _ _ _ _ he
    | outgrown=>exact he
   case row.inr row args =>
    have h5:=iJ v0 nn;simp only [fE] at h5 ⊢;exact Rows.mono h5 λu w'' he=>⟨fO a hy u,λv ab=>by rw [Cg v ab,<-Cg v0 nn,<-kL a v0 u h2];exact he⟩
   case defer.inr d =>
    refine⟨fO _ (keepD d) _,λv ab=>?_⟩;have h5:=iJ v ab;simp only [fE] at h5;rw [<-kL _ v undef h2,<-Act.put_defers];exact h5
   all_goals
    have h5:=iJ v0 nn;simp only [fE] at h5
  | halt x w' =>
   have h5:=iJ v0 nn
   cases x<;>simp only [fE] at h5 ⊢
   case panic u=>exact hQ _ _ _ _ _ h5
 .rename_i hw;refine⟨fO a hy _,λv ab=>?_⟩;have h5:=h v ab;rw [qh v] at h5;simp only [hw] at h5;rw [<-kL a v undef h2];simpa using h5
def ow(md:dW)(ops:aZ):Nat->Nat->Nat->Bool
  | 0,_,_=>false
  | f+1,j,i=>match ops[j]? with
    | none=>false
    | some oj=>oj.after.any λe=>dE md e&&(e.on==i||ow md ops f e.on i)
def nI(md:dW)(ops:aZ)(listed:et):Prop :=
  ∀j oj,ops[j]?=some oj->listed.getD j false=true->∀e∈oj.after,dE md e=true->listed.getD e.on false=true
theorem nI.waits{listed:et}(hc:nI md ops listed):∀(f j i:Nat) (oj:yk),ops[j]?=some oj->(∀e∈oj.after,dE md e=true->listed.getD e.on false=true) ->
  ow md ops f j i=true->listed.getD i false=true
 | 0,_,_,_,_,_,h=>by cases h
 | f+1,j,i,oj,hj,hl,h=>by
  unfold ow at h;rw [hj] at h;obtain⟨e,he,hb⟩:=dK.1 h;simp only [dJ,dR,beq_iff_eq] at hb;obtain⟨jy,jz⟩:=hb;have h1:=hl e he jy;rcases jz with jz|jz
  .rw [<-jz];exact h1
  .cases ho:ops[e.on]? with
   | none =>
    cases f with
    | zero=>cases jz
    | succ f=>unfold ow at jz;rw [ho] at jz;cases jz
   | some oe=>exact nI.waits hc f e.on i oe ho (hc e.on oe ho h1) jz
def nI.set{listed:et}(hc:nI md ops listed){i:Nat}(hi:i∈bC md ops listed):nI md ops (listed.setIfInBounds i true):=by
 obtain⟨_,oi,hoi,iP⟩:=mem_ready.1 hi;intro j oj hj hl e he hb;by_cases uA:i=j
 .subst uA;obtain rfl:oj=oi:=jm (hj.symm.trans hoi);exact getD_set_true (iP e he hb)
 .rw [getD_set_ne false uA] at hl;exact getD_set_true (hc j oj hj hl e he hb)
def nI.none(n:Nat):nI md ops (bD n false):=λj _ _ hl=>by rw [getD_replicate_false] at hl;cases hl
def tZ(P:ym)(md:dW)(ops:aZ)(C0:aE)(Q:bK)(n m:Nat):Nat->yp->et->Act->Prop
  | 0,w0,listed,a=>(∀j∈bC md ops listed,∀i,i<n->ow md ops ops.size j i=true)/\∀w,Below w0.heap.size w0 w->wpAny P md ops Q m listed a w
  | fuel+1,w0,listed,a =>
    bC md ops listed≠[] /\
    ∀i∈bC md ops listed,∀w,Below w0.heap.size w0 w->wpOp P ops Q i (λa' w'=>C0 w'/\tZ P md ops C0 Q n m fuel w' (listed.setIfInBounds i true) a') a w
theorem aiO{n m fuel:Nat}{w0 w1:yp}{listed:et}{a:Act}(hb:Below w0.heap.size w0 w1)(h:tZ P md ops C0 Q n m fuel w0 listed a):tZ P md ops C0 Q n m fuel w1 listed a:=by
 cases fuel with
 | zero=>exact⟨h.1,λw hw=>h.2 w (hb.trans (hw.mono hb.size))⟩
 | succ fuel=>exact⟨h.1,λi hi w hw=>h.2 i hi w (hb.trans (hw.mono hb.size))⟩
theorem Rh{n m:Nat}:∀(fuel:Nat) (listed:et) (a:Act) (w:yp),tZ P md ops C0 Q n m fuel w listed a->wpAny P md ops Q (m+fuel) listed a w
 | 0,_,_,w,h=>h.2 w (Below.refl _ _)
 | fuel+1,_,_,w,h=>⟨λh0=>absurd h0 h.1,λi hi=>wpOp_mono (λa' w' h'=>Rh fuel _ a' w' h'.2) (h.2 i hi w (Below.refl _ _))⟩
def Da{i:Nat}{listed:et}(hi:i∈bC md ops listed):listed.getD i false=false:=getD_both (mem_ready.1 hi).1
theorem aFQ{n m i F:Nat}{oi:yk}{V:yl->Prop}(fM:∀w w',C0 w->Below w.heap.size w w'->C0 w')(iR:i<n)(hi:ops[i]?=some oi)(mF:∀(j:Nat) (o:yk) cs b,ops[j]?=some o->o.op ≠ .select cs b)
 (hQ:∀c a d v w,Q (.panic c) (a.put d v) w->Q (.panic c) a w) :
  ∀(fuel:Nat) (w0:yp) (listed:et) (a:Act),C0 w0->nI md ops listed ->
   (∀j oj,ops[j]?=some oj->j≠i->listed.getD j true=false->(∀e∈oj.after,dE md e=true->e.on≠i)->oi.apart ops oj=true) ->
   ((∃v,∀u,V u->u=v)\/∀j oj,ops[j]?=some oj->j≠i->listed.getD j true=false->qi oj.op=true\/ow md ops F j i=true) ->
   i∈bC md ops listed->ru P ops C0 oi V a ->
   (∀v,V v->tZ P md ops C0 Q n m fuel w0 (listed.setIfInBounds i true) (a.put oi.dst v))->tZ P md ops C0 Q n m (fuel+1) w0 listed a:=by
 intro fuel
 induction fuel with
 | zero =>
  intro w0 listed a hC dN _ _ hr hy H
  refine⟨λh=>(by rw [h] at hr;cases hr),λj hj w hw=>?_⟩
  by_cases jg:j=i
  .subst jg;exact hy.wpOp hi (fM w0 w hC hw) λv w' ab hw'=>⟨fM w w' (fM w0 w hC hw) hw',aiO (hw.trans (hw'.mono hw.size)) (H v ab)⟩
  .obtain⟨v,ab⟩:=hy.any hC;have h1:=(H v ab).1 j (ready_mono hj jg) i iR;obtain⟨_,oj,qU,iP⟩:=mem_ready.1 hj;have h6:=dN.waits _ j i oj qU iP h1;rw [Da hr] at h6;cases h6
 | succ fuel ih =>
  intro w0 listed a hC dN De ky hr hy H
  refine⟨λh=>(by rw [h] at hr;cases hr),λj hj w hw=>?_⟩
  by_cases jg:j=i
  .subst jg;exact hy.wpOp hi (fM w0 w hC hw) λv w' ab hw'=>⟨fM w w' (fM w0 w hC hw) hw',aiO (hw.trans (hw'.mono hw.size)) (H v ab)⟩
  .obtain⟨BV,oj,qU,iP⟩:=mem_ready.1 hj
   have uC:∀e∈oj.after,dE md e=true->e.on≠i:=λe he hb heq=>by have h1:=iP e he hb;rw [heq,Da hr] at h1;cases h1
   have On:qi oj.op=true\/∃v,∀u,V u->u=v:=by
    rcases ky with ky|ky
    .exact .inr ky
    .rcases ky j oj qU jg BV with h5|h5
     .exact .inl h5
     .have h6:=dN.waits F j i oj qU iP h5;rw [Da hr] at h6;cases h6
   have h2:=WT qU (De j oj qU jg BV uC) (λcs b=>mF i oi cs b hi) (λcs b=>mF j oj cs b qU) (hy.any hC) On hQ hy
    (λv ab=>(H v ab).2 j (ready_mono hj jg) w hw)
   have hun':∀k,(listed.setIfInBounds j true).getD k true=false->listed.getD k true=false:=λk og=>by
    by_cases iT:j=k
    .subst iT;exact BV
    .rw [getD_set_ne true iT] at og;exact og
   refine wpOp_mono (λa' w' h3=>?_) h2;obtain⟨hy',h4⟩:=h3;obtain⟨v0,nn⟩:=hy.any hC;have hC':=(h4 v0 nn).1;refine⟨hC',ih w' (listed.setIfInBounds j true) a' hC' (dN.set hj) (λk ok hk ER og o7=>De k ok hk ER (hun' k og) o7) (ky.imp id λky k ok hk ER og=>ky k ok hk ER (hun' k og)) (ready_mono hr (Ne.symm jg)) hy' λv ab=>?_⟩;rw [Array.setIfInBounds_comm _ _ jg];exact(h4 v ab).2
def marks:Nat->Nat->et->et
  | 0,_,listed=>listed
  | n+1,k,listed=>marks n (k+1) (listed.setIfInBounds k true)
def QF(md:dW)(ops:aZ)(listed:et)(k:Nat):Bool :=
  match ops[k]? with
  | none=>true
  | some ok=>qi ok.op||(dV ops.size).all λj=>j==k||listed.getD j true||ow md ops ops.size j k||match ops[j]? with
    | some oj=>qi oj.op
    | none=>true
def aB5{listed:et}{k:Nat}{ok:yk}(hk:ops[k]?=some ok)(hp:qi ok.op=false)(h:QF md ops listed k=true)(j:Nat)(oj:yk)(hj:ops[j]?=some oj)(b8:j≠k)
 (og:listed.getD j true=false):qi oj.op=true\/ow md ops ops.size j k=true:=by
 unfold QF at h
 simp only [hk,hp,Bool.false_or,pS,iW] at h;have h1:=h j (po.1 hj).1;simp only [hj,dR,beq_iff_eq,b8,false_or,og,j1] at h1;exact h1.symm
def EJ(md:dW)(ops:aZ):Nat->Nat->et->Bool
  | 0,_,_=>true
  | fuel+1,k,listed=>(bC md ops listed).contains k&&Region.free md ops listed k&&QF md ops listed k&&EJ md ops fuel (k+1) (listed.setIfInBounds k true)
def xF(md:dW)(ops:aZ):Nat->Nat->et->Bool
  | 0,_,listed=>(bC md ops listed).isEmpty
  | fuel+1,k,listed=>decide (bC md ops listed=[k])&&xF md ops fuel (k+1) (listed.setIfInBounds k true)
def V3(md:dW)(ops:aZ)(n:Nat)(listed:et):Bool :=
  (bC md ops listed).all λj=>(dV n).all λi=>ow md ops ops.size j i
theorem Rg{n m:Nat}(fM:∀w w',C0 w->Below w.heap.size w w'->C0 w')(hs:iK ops=true)(hQ:∀c a d v w,Q (.panic c) (a.put d v) w->Q (.panic c) a w)(fuel:Nat)(w0:yp)(hC:C0 w0) :
  ∀(l:aN) (k:Nat) (listed:et) (a:Act),nI md ops listed->k+l.length<=n->(∀j,j<l.length->l[j]?=ops[k+j]?)->EJ md ops l.length k listed=true ->
  fQ P ops C0 (λa'=>tZ P md ops C0 Q n m fuel w0 (marks l.length k listed) a') l a->tZ P md ops C0 Q n m (fuel+l.length) w0 listed a
 | [],_,_,_,_,_,_,_,h=>h
 | o::l,k,listed,a,dN,hn,hl,aF,h=>by
  have h0:ops[k]?=some o:=by simpa using (hl 0 (by simp)).symm
  simp only [fL] at hn;simp only [fL,EJ,dJ] at aF;obtain⟨⟨⟨hr,hf⟩,hsf⟩,hB'⟩:=aF;have hr':k∈bC md ops listed:=by simpa using hr
  have hy:∃V,ru P ops C0 o V a/\((∃v,∀u,V u->u=v)\/qi o.op=false)/\∀v,V v->fQ P ops C0 (λa'=>tZ P md ops C0 Q n m fuel w0 (marks (l.length+1) k listed) a') l (a.put o.dst v):=by
   by_cases hw:aU o (yielded ops a.tmps)=true
   .simp only [fQ,hw,if_true,fL] at h
    rcases h with⟨v,h1,h2⟩|⟨hp,V,h1,h2⟩
    .exact⟨(· = v),.inl ⟨hw,h1⟩,.inl ⟨v,λ_ hu=>hu⟩,λu hu=>by rw [hu];exact h2⟩
    .exact⟨V,.inl ⟨hw,h1⟩,.inr (axU hp),h2⟩
   .simp only [fQ,hw,fL] at h;exact⟨(· = undef),.inr ⟨by simpa using hw,rfl⟩,.inl ⟨undef,λ_ hu=>hu⟩,λu hu=>by rw [hu];simpa using h⟩
  obtain⟨V,hy,hV,hK⟩:=hy;rw [fL,<-kZ];exact aFQ fM (by omega) h0 (Ac hs) hQ (fuel+l.length) w0 listed a hC dN (Region.free_spec h0 hf) (hV.imp id λhp=>aB5 h0 hp hsf) hr' hy λv ab =>
   Rg fM hs hQ fuel w0 hC l (k+1) _ _ (dN.set hr') (by omega) (λj hj=>by have:=hl (j+1) (by simpa using hj);simpa [kZ,zh 1 j] using this) hB' (hK v ab)
theorem I3:∀(l:aN) (k:Nat) (listed:et) (a:Act) (w:yp),(∀j,j<l.length->l[j]?=ops[k+j]?)->xF md ops l.length k listed=true ->
  wpList P ops Q l a w->wpAny P md ops Q l.length listed a w
 | [],_,_,_,_,_,aF,h=>⟨by simpa [xF] using aF,h⟩
 | o::l,k,listed,a,w,hl,aF,h=>by
  have h0:ops[k]?=some o:=by simpa using (hl 0 (by simp)).symm
  simp only [fL,xF,dJ,decide_eq_true_eq] at aF;obtain⟨hr,hB'⟩:=aF;refine⟨λe=>(by rw [hr] at e;cases e),λi hi=>?_⟩;rw [hr,bU] at hi;subst hi;have hl':∀j,j<l.length->l[j]?=ops[i+1+j]?:=λj hj=>by have:=hl (j+1) (by simpa using hj);simpa [kZ,zh 1 j] using this
  unfold wpOp;simp only [h0];unfold wpList at h;split
  .rename_i hw;simp only [hw,if_true] at h;exact h.imp (Oper.wp_mono λa' w' h'=>I3 l (i+1) _ a' w' hl' hB' h') id
  .rename_i hw;simp only [hw] at h;exact I3 l (i+1) _ _ _ hl' hB' (by simpa using h)
def Bj(ops:aZ)(n:Nat)(k:Nat)(m:Nat):Bool :=
  iK ops&&EJ .any ops n 0 (bD ops.size false)&&decide (ops.size=m+k+n) &&
    V3 .any ops (k+n) (marks k n (marks n 0 (bD ops.size false)))&&xF .any ops m (k+n) (marks k n (marks n 0 (bD ops.size false)))
def aFU{id:Nat}{a:Act}{w:yp}{L T:aN}(C0:aE)(hm:P.follows .mixedOrders=true)(aF:Bj (L++T).toArray L.length 0 T.length=true)
 (fM:∀w w',C0 w->Below w.heap.size w w'->C0 w')(hC:C0 w.drew)(hQ:∀c a d v w,Q (.panic c) (a.put d v) w->Q (.panic c) a w)
 (h:fQ P (L++T).toArray C0 (λa'=>∀w',C0 w'->wpList P (L++T).toArray Q T a' w') L a):(pG id (L++T).toArray true).wp P Q a w:=by
 simp only [Bj,dJ,decide_eq_true_eq,dI,jP,marks] at aF;obtain⟨⟨⟨⟨hs,hh⟩,hz⟩,EZ⟩,hf⟩:=aF;refine wp_region_any hm ?_
 have hG:tZ P .any (L++T).toArray C0 Q L.length T.length (0+L.length) w.drew (bD (L++T).toArray.size false) a:=by
  refine Rg fM hs hQ 0 w.drew hC L 0 _ a (nI.none _) (by omega) (λj hj=>by simp [uk hj]) hh ?_;refine MH (λa' h'=>⟨λj hj i hi=>?_,λw' hw'=>?_⟩) L a h
  .have h1:=pS.1 EZ j hj;exact pS.1 h1 i (iW.2 hi)
  .exact I3 T L.length _ a' w' (λj _=>by simp [rz]) hf (h' w' (fM _ _ hC hw'))
 have h2:=Rh (0+L.length) _ a w.drew hG;rw [dI,<-hz] at h2;exact h2
def aiP{n m ia base fuel ty:Nat}{zs:ct}{w0:yp}{listed:et}{a:Act}{oa:yk}(ho:ops[ia]?=some oa)(hg:oa.guard=none)
 (iy:∀(a:Act) w,(execOp a.eval oa).run P w = .ok (.value (eE w.heap.size)) (w.alloc (.cells zs ty)))
 (fM:∀w w',C0 w->Below w.heap.size w w'->C0 w')(hb:∀w,C0 w->base<=w.heap.size)(hC:C0 w0)
 (h:∀w,Below w0.heap.size w0 w->C0 w->base<=w.heap.size->tZ P md ops C0 Q n m fuel (w.alloc (.cells zs ty)) (listed.setIfInBounds ia true) (a.put oa.dst (eE w.heap.size))) :
  ∀w,Below w0.heap.size w0 w->wpOp P ops Q ia (λa' w'=>C0 w'/\tZ P md ops C0 Q n m fuel w' (listed.setIfInBounds ia true) a') a w:=by
 intro w hw
 unfold wpOp
 simp only [ho];rw [if_pos (by simp [aU,hg])];refine .inl ?_
 unfold fW
 rw [iy];have BP:=fM w0 w hC hw;exact⟨fM w _ BP ((Below.refl w.heap.size w).alloc (aQ _) (.cells zs ty)),h w hw BP (hb w BP)⟩
def bB.later{w w':yp}{g t:Nat}{cs:ct}(h:bB w g t cs)(hb:Below w.heap.size w w'):bB w' g t cs:=h.below hb h.lt
end
section
variable{P:ym}{ops:aZ}{C0:aE}{Q:Act->Prop}{a:Act}{o:yk}{rest:aN}
def aFR(h:∀K:Act->Prop,(∀a,fQ P ops C0 Q rest a->K a)->if aU o (yielded ops a.tmps) then ∃v,(∀w,C0 w->tX P w (· = v) ((execOp a.eval o).run P w))/\K (a.put o.dst v) else K (a.put o.dst undef)):fQ P ops C0 Q (o::rest) a:=by
 have h1:=h _ (λ_ h=>h);unfold fQ;split
 .rename_i hw;rw [if_pos hw] at h1;exact .inl h1
 .rename_i hw;rw [if_neg hw] at h1;exact h1
def RO(hg:aU o (yielded ops a.tmps)=true){v:yl}(h:∀w,C0 w->nN P o a w (· = v))(hk:fQ P ops C0 Q rest (a.put o.dst v)):fQ P ops C0 Q (o::rest) a :=
 aFR λK hK=>by rw [if_pos hg];exact⟨v,h,hK _ hk⟩
def BD{v:yl}(hg:aU o (yielded ops a.tmps)=true)(h:∀w,C0 w->(execOp a.eval o).run P w = .ok (.value v) w)(hk:fQ P ops C0 Q rest (a.put o.dst v)):fQ P ops C0 Q (o::rest) a :=
 RO hg (λw hw=>by unfold nN;rw [h w hw];exact⟨rfl,rfl⟩) hk
def al3{t t':yn}{x y:yo}{q:Bool}(xs ys:ct)(hg:aU o (yielded ops a.tmps)=true)(ho:o.op = .binOp .eql t x y t')(hx:a.eval x = .agg xs)(hy:a.eval y = .agg ys)
 (hd:P.eqGuardType P.depth t=false)(he:∀w,(cO 10000 t (.agg xs) (.agg ys)).run P w = .ok q w)(hk:fQ P ops C0 Q rest (a.put o.dst (.bool q))):fQ P ops C0 Q (o::rest) a :=
 BD hg (λw _=>by unfold execOp;simp only [ho,hx,hy,bI,run_eqGuard_agg (hm:=hd),bS,binOp,Op.equal,Op.maxDepth,he,bM]) hk
def al1{f:yi}{args:ct}(V:yl->Prop)(hg:aU o (yielded ops a.tmps)=true)(hp:Lu o.op=true)
 (hc:∀w,C0 w->Calls P f args w (λe w'=>∃v,e = .returned v/\V v/\Below w.heap.size w w'))(he:∀w,(execOp a.eval o).run P w = .ok (.enter f args) w)(hk:∀v,V v->fQ P ops C0 Q rest (a.put o.dst v)):fQ P ops C0 Q (o::rest) a:=by
 unfold fQ
 rw [if_pos hg];refine .inr ⟨hp,V,λw hw=>?_,hk⟩
 unfold nN
 rw [he];exact⟨rfl,hc w hw⟩
def Na{f:yi}{args:ct}{v:yl}(hg:aU o (yielded ops a.tmps)=true)
 (hc:∀w,C0 w->Calls P f args w (λe w'=>e = .returned v/\Below w.heap.size w w'))(he:∀w,(execOp a.eval o).run P w = .ok (.enter f args) w)(hk:fQ P ops C0 Q rest (a.put o.dst v)):fQ P ops C0 Q (o::rest) a :=
 RO hg (λw hw=>by unfold nN;rw [he];exact⟨rfl,(hc w hw).mono λe w' ⟨h1,h2⟩=>⟨v,h1,rfl,h2⟩⟩) hk
def al4(hg:aU o (yielded ops a.tmps)=true)(ty:yn)(x:yo)(ho:o.op = .load ty x)(b off:Nat)(hx:a.eval x = .pointer (some ⟨b,off,none⟩))(cs:cU)(d:TypeDesc)
 (hc:∀w,C0 w->w.rangeAt b off cs)(hu:P.underlying ty=some d)(hd:d.isRow=true)(hi:(P.info? ty).map (·.size)=some cs.length)
 (hk:fQ P ops C0 Q rest (a.put o.dst (.agg cs.toArray))):fQ P ops C0 Q (o::rest) a :=
 RO hg (λw hw=>by unfold nN execOp;simp only [ho,hx,kB,gG,bI,bM,bS,run_loadVar_mid w b off ty cs d (hc w hw) hu hd hi];exact⟨rfl,rfl⟩) hk
end
def bB.range{w:yp}{g t:Nat}{l:cU}(h:bB w g t l.toArray):w.rangeAt g 0 l:=λj v ab=>by rw [dI,h.cell j];simpa using ab
section
variable{P:ym}{Q:bK}{id:Nat}{a:Act}{w:yp}{l:aN}
def ayT(n:Nat)(C0:aE)(hn:n<=l.length)(hm:P.follows .mixedOrders=true)(aF:Bj l.toArray n 0 (l.drop n).length=true)
 (fM:∀w w',C0 w->Below w.heap.size w w'->C0 w')(hC:C0 w.drew)(hQ:∀c a d v w,Q (.panic c) (a.put d v) w->Q (.panic c) a w)
 (h:fQ P l.toArray C0 (λa'=>∀w',C0 w'->wpList P l.toArray Q (l.drop n) a' w') (l.take n) a):(pG id l.toArray true).wp P Q a w:=by
 have e:l=l.take n++l.drop n:=(oN n l).symm
 have hL:(l.take n).length=n:=by rw [du];omega
 generalize l.take n=L at *;generalize l.drop n=T at *;subst e;exact aFU C0 hm (by rw [hL];exact aF) fM hC hQ h
end
section
variable{P:ym}{Q:bK}{id:Nat}{a:Act}{w:yp}{l:aN}
def cA(w w':yp):Prop:=Below w.heap.size w w'
def cA.refl(w:yp):cA w w:=Below.refl _ _
def cA.drew(w:yp):cA w w.drew:=(Below.refl _ _).drew
def cA.step{w w1 w2:yp}(h:cA w w1)(k:Below w1.heap.size w1 w2):cA w w2:=Below.trans h (k.mono h.size)
def cA.z7{w w1:yp}{g t:Nat}{cs:ct}(h:cA w w1)(k:bB w g t cs):bB w1 g t cs:=k.later h
def cA.alloc{w w1:yp}(h:cA w w1)(o:Obj):cA w (w1.alloc o):=h.step ((Below.refl _ _).alloc (aQ _) _)
def Nc{w W W':yp}(h:Below w.heap.size w W)(k:cA W W'):Below w.heap.size w W':=Below.trans h (Below.mono k h.size)
def WU{P:ym}{c:Code}{Q:bK}{a:Act}{w0:yp}(F:aE)(h0:F w0)(h:∀W,F W->c.wp P Q a W):c.wp P Q a w0:=h w0 h0
theorem MI{ops:aZ}{T:aN}:∀(L:aN) (a:Act) (w w0:yp),cA w0 w->fQ P ops (cA w0) (λa'=>∀w',cA w0 w'->wpList P ops Q T a' w') L a->wpList P ops Q (L++T) a w
 | [],a,w,w0,hw,h=>h w hw
 | o::L,a,w,w0,hw,h=>by
  have key:∀V:yl->Prop,nN P o a w V->(∀v w',V v->Below w.heap.size w w'->wpList P ops Q (L++T) (a.put o.dst v) w')->o.wp P a w (wpList P ops Q (L++T)) Q:=λV h3 hk=>by
   unfold nN at h3;unfold fW;generalize (execOp a.eval o).run P w=r at *;cases r with
   | ok n w' =>
    cases n<;>simp only [tX] at h3<;>simp only [fE]
    case value u =>
     obtain⟨e1,e2⟩:=h3;rw [e1];exact hk _ _ e2 (Below.refl _ _)
    case skip =>
     obtain⟨e1,e2⟩:=h3;rw [e1];exact hk _ _ e2 (Below.refl _ _)
    case enter f args =>
     obtain⟨e1,hc⟩:=h3;rw [e1]
     exact hc.mono λe w'' ⟨v,he,ab,hw''⟩=>by subst he;exact hk _ _ ab hw''
   | halt x w'=>simp only [tX] at h3
  show wpList P ops Q (o::(L++T)) a w;unfold fQ at h;unfold wpList;split
  .rename_i qh
   rw [if_pos qh] at h;refine .inl ?_;rcases h with⟨v,h1,h2⟩|⟨_,V,h1,h2⟩
   .exact key (· = v) (h1 w hw) λu w' hu hw'=>by rw [hu];exact MI L _ w' w0 (hw.step hw') h2
   .exact key V (h1 w hw) λu w' hu hw'=>MI L _ w' w0 (hw.step hw') (h2 u hu)
  .rename_i qh;rw [if_neg qh] at h;exact MI L _ w w0 hw h
def ayP(hm:P.follows .mixedOrders=true)(aF:Bj l.toArray l.length 0 0=true)(hQ:∀c a d v w,Q (.panic c) (a.put d v) w->Q (.panic c) a w)
 (h:fQ P l.toArray (cA w) (λa'=>∀w',cA w w'->Q .normal a' w') l a):(pG id l.toArray true).wp P Q a w :=
 ayT (l:=l) l.length (cA w) (aQ _) hm (by rw [List.drop_length];exact aF) (λ_ _ h k=>h.step k) (cA.drew w) hQ (by rw [List.drop_length,List.take_length];exact h)
def ayQ(h:fQ P l.toArray (cA w) (λa'=>∀w',cA w w'->Q .normal a' w') l a):(pG id l.toArray false).wp P Q a w:=by
 refine wp_region_lit ?_;have h1:=MI (Q:=Q) (T:=[]) l a w w (cA.refl w) h
 rwa [fj] at h1
def ayR(n:Nat)(h:fQ P l.toArray (cA w) (λa'=>∀w',cA w w'->wpList P l.toArray Q (l.drop n) a' w') (l.take n) a):(pG id l.toArray false).wp P Q a w:=by
 refine wp_region_lit ?_;have h1:=MI (Q:=Q) (T:=l.drop n) (l.take n) a w w (cA.refl w) h
 rwa [oN] at h1
def Ww{w w1:yp}{g:Nat}(h:cA w w1)(hg:w.heap.size<=g)(cs:ct):cA w (w1.setRow g cs):=below_setRow h hg _
end
theorem aoH{α:Type}(V A O Z:List α)(m k:Nat)(hm:m+k=A.length)(hl:O.length=V.length) :
  (V.zipIdx k).foldl (λ(cs:Array α) (p:α×Nat)=>cs.setIfInBounds (m+p.2) p.1) (A++(O++Z)).toArray=(A++(V++Z)).toArray:=by
 induction V generalizing A O k with
 | nil =>
  obtain rfl:O=[]:=lB hl
  rfl
 | cons c V ih =>
  obtain⟨o,O,rfl⟩:∃o O',O=o::O':=by
   cases O with
   | nil=>simp at hl
   | cons o O=>exact⟨o,O,rfl⟩
  rw [List.zipIdx_cons,List.foldl_cons]
  have e:((A++(o::O++Z)).toArray.setIfInBounds (m+k) c)=(A++[c]++(O++Z)).toArray:=by rw [hm];simp
  rw [e,ih (A++[c]) O (k+1) (by simp;omega) (by simpa using hl)]
  simp
def ao8(place:Nat->Option (Nat×Nat))(i n:Nat)(A O Z V:cU)(rest:List (Nat×yl))(hp:place i=some (A.length,n))(hV:V.length=n)(hO:O.length=n) :
  jW place (A++(O++Z)).toArray ((i,.agg V.toArray)::rest)=jW place (A++(V++Z)).toArray rest:=by
 rw [jW];simp only [hp];rw [if_neg (by simp [nW,hV,hO])]
 congr 1
 have h:=aoH V A O Z A.length 0 rfl (by rw [hV,hO]);rw [<-h]
 simp [nW,Array.zipIdx,List.mapIdx_eq_zipIdx_map]
def aA0{P:ym}(ty:yn)(cs:ct)(w:yp):(Instr.box ty (.agg cs)).run P w = .ok (eE w.heap.size) (w.alloc (.cells cs ty)):=by simp [Instr.box,newVar,newRow,nW]
theorem azU{P:ym}{ty:yn}{zs:ct}(h:(P.info? ty).bind (λi=>i.zero.map (·.cells))=some zs)(eS:yl)(w:yp) :
  (Instr.alloc ty true eS).run P w = .ok (eE w.heap.size) (w.alloc (.cells zs ty)):=by
 cases hi:P.info? ty with
 | none=>simp [hi] at h
 | some i =>
  cases hz:i.zero with
  | none=>simp [hi,hz] at h
  | some z =>
   simp only [hi,Option.bind_some,hz,kF] at h
   injection h with h
   subst h
   simp [Instr.alloc,zeroValue,typeInfo,hi,hz,newVar,newRow]
def GQ{P:ym}{o:yk}{ty:yn}{zs:ct}(ho:o.op = .alloc ty)(h:(P.info? ty).bind (λi=>i.zero.map (·.cells))=some zs)(a:Act)(w:yp) :
  (execOp a.eval o).run P w = .ok (.value (eE w.heap.size)) (w.alloc (.cells zs ty)):=by
 obtain⟨dst,op,t,pos,af,gd⟩:=o;simp only at ho;subst ho
 unfold execOp
 simp only [bI,azU h,bS,bM]
section
variable{P:ym}{ops:aZ}{rest:aN}{o:yk}{a:Act}{w:yp}{Q:bK}
def I4{ty:yn}{zs:ct}(hg:o.guard=none)(ho:o.op = .alloc ty)(hz:(P.info? ty).bind (λi=>i.zero.map (·.cells))=some zs)
 (h:wpList P ops Q rest (a.put o.dst (eE w.heap.size)) (w.alloc (.cells zs ty))):wpList P ops Q (o::rest) a w :=
 wpList_plain hg λ_ hK=>by unfold fW;rw [GQ ho hz];exact hK _ _ h
def aiT{ty:yn}{x:yo}(cs:ct)(hg:o.guard=none)(ho:o.op = .box ty x)(hx:a.eval x = .agg cs)
 (h:wpList P ops Q rest (a.put o.dst (eE w.heap.size)) (w.alloc (.cells cs ty))):wpList P ops Q (o::rest) a w :=
 wpList_plain hg λ_ hK=>by unfold fW execOp;simp only [ho,hx,bI,aA0,bS,bM];exact hK _ _ h
def D9(h:Q .normal a w):wpList P ops Q [] a w:=h
end
section
variable{md:dW}{ops:aZ}
def sf(md:dW)(o:yk)(i:Nat):Bool:=o.after.any λe=>dE md e&&e.on==i
def aiF{f j i:Nat}{o:yk}(hj:ops[j]?=some o)(h:sf md o i=true):ow md ops (f+1) j i=true:=by unfold ow;rw [hj];unfold sf at h;obtain⟨e,he,hb⟩:=dK.1 h;simp only [dJ,beq_iff_eq] at hb;exact dK.2 ⟨e,he,by simp [hb.1,hb.2]⟩
def aF4{f j m i:Nat}{o:yk}(hj:ops[j]?=some o)(h:sf md o m=true)(hm:ow md ops f m i=true):ow md ops (f+1) j i=true:=by unfold ow;rw [hj];unfold sf at h;obtain⟨e,he,hb⟩:=dK.1 h;simp only [dJ,beq_iff_eq] at hb;exact dK.2 ⟨e,he,by simp [hb.1,hb.2,hm]⟩
theorem MD:∀{f g j i:Nat},f<=g->ow md ops f j i=true->ow md ops g j i=true
 | 0,_,_,_,_,h=>by cases h
 | f+1,0,_,_,hle,_=>absurd hle (by omega)
 | f+1,g+1,j,i,hle,h=>by
  unfold ow at h ⊢;cases ho:ops[j]? with
  | none=>rw [ho] at h;cases h
  | some o =>
   rw [ho] at h;obtain⟨e,he,hb⟩:=dK.1 h;refine dK.2 ⟨e,he,?_⟩;simp only [dJ,dR,beq_iff_eq] at hb ⊢;exact⟨hb.1,hb.2.imp id (MD (by omega))⟩
def O2(md:dW)(o:yk)(i:Nat):Bool:=o.after.any λe=>(match e.ground with
  | .chain=>true
  | _=>false)&&(dE md e&&e.on==i)
def anH{o:yk}{i:Nat}(h:O2 md o i=true):sf md o i=true:=by unfold O2 at h;obtain⟨e,he,hb⟩:=dK.1 h;simp only [dJ] at hb;exact dK.2 ⟨e,he,by simp only [dJ];exact hb.2⟩
def chainB(md:dW):aN->Nat->j5->Bool
  | [],_,_=>true
  | o::l,k,prev=>if qi o.op then chainB md l (k+1) (match prev with
      | none=>none
      | some i=>if O2 md o i then some k else some i)
    else(match prev with
    | none=>true
    | some i=>sf md o i)&&chainB md l (k+1) (some k)
def CM(ops:aZ)(i:Nat):Prop:=∃o,ops[i]?=some o/\qi o.op=false
def Jp(md:dW)(ops:aZ)(p:Nat):Prop:=∀i,i<p->CM ops i->ow md ops (p-i) p i=true
def aiE{p k:Nat}{o:yk}(hk:ops[k]?=some o)(he:sf md o p=true)(hp:p<k)(hW:Jp md ops p)(iP:∀i,i<k->CM ops i->i<=p):Jp md ops k:=by
 intro i hi hc;by_cases hip:i=p
 .subst hip;exact MD (f:=1) (by omega) (aiF hk he)
 .have h1:=iP i hi hc;exact MD (by omega) (aF4 hk he (hW i (by omega) hc))
theorem JB:∀(l:aN) (k:Nat) (prev:j5),(∀j,j<l.length->l[j]?=ops[k+j]?)->chainB md l k prev=true ->
  (∀p,prev=some p->p<k/\Jp md ops p)->(∀i,i<k->CM ops i->∃p,prev=some p/\i<=p) ->
  ∀j,k<=j->j<k+l.length->CM ops j->Jp md ops j
 | [],k,_,_,_,_,_,j,h1,h2,_=>absurd h2 (by simp;omega)
 | x::l,k,prev,hl,aF,hp,hq,j,h1,h2,hj=>by
  have h0:ops[k]?=some x:=by simpa using (hl 0 (by simp)).symm
  have hl':∀j,j<l.length->l[j]?=ops[k+1+j]?:=λj hj=>by have:=hl (j+1) (by simpa using hj);simpa [kZ,zh 1 j] using this
  simp only [fL] at h2;unfold chainB at aF;by_cases hx:qi x.op=true
  .rw [if_pos hx] at aF
   have o7:¬CM ops k:=by rintro⟨o',ho',hpo⟩;rw [h0] at ho';cases ho';rw [hx] at hpo;cases hpo
   have iT:j≠k:=by rintro rfl;exact o7 hj
   have kx:∀i,i<k+1->CM ops i->i<k:=λi hi hc=>by
    by_cases Kt:i=k
    .subst Kt;exact absurd hc o7
    .omega
   cases prev with
   | none=>exact JB l (k+1) none hl' aF (λp h=>by cases h) (λi hi hc=>hq i (kx i hi hc) hc) j (by omega) (by omega) hj
   | some p =>
    simp only at aF;obtain⟨KD,NU⟩:=hp p rfl
    have iP:∀i,i<k->CM ops i->i<=p:=λi hi hc=>by obtain⟨p',e,h⟩:=hq i hi hc;cases e;exact h
    by_cases Kw:O2 md x p=true
    .rw [if_pos Kw] at aF;refine JB l (k+1) (some k) hl' aF (λp' h=>?_) (λi hi _=>⟨k,rfl,by omega⟩) j (by omega) (by omega) hj;cases h;exact⟨by omega,aiE h0 (anH Kw) KD NU iP⟩
    .rw [if_neg Kw] at aF;refine JB l (k+1) (some p) hl' aF (λp' h=>?_) (λi hi hc=>⟨p,rfl,iP i (kx i hi hc) hc⟩) j (by omega) (by omega) hj;cases h;exact⟨by omega,NU⟩
  .rw [if_neg hx] at aF
   simp only [dJ] at aF;have Zh:Jp md ops k:=by
    cases prev with
    | none =>
     intro i hi hc
     obtain⟨p,e,_⟩:=hq i hi hc
     cases e
    | some p =>
     obtain⟨KD,NU⟩:=hp p rfl;refine aiE h0 aF.1 KD NU (λi hi hc=>?_);obtain⟨p',e,h⟩:=hq i hi hc
     cases e
     exact h
   by_cases iT:j=k
   .subst iT;exact Zh
   .refine JB l (k+1) (some k) hl' aF.2 (λp' h=>?_) (λi hi _=>⟨k,rfl,by omega⟩) j (by omega) (by omega) hj;cases h;exact⟨by omega,Zh⟩
def amD(aF:chainB md ops.toList 0 none=true)(j:Nat)(o:yk)(hj:ops[j]?=some o)(ky:qi o.op=false)(i:Nat)(uA:i<j)(hi:CM ops i):ow md ops (j-i) j i=true :=
 JB ops.toList 0 none (λj _=>by simp) aF (λp h=>by cases h) (λi hi=>absurd hi (by omega)) j (by omega) (by simpa using (po.1 hj).1) ⟨o,hj,ky⟩ i uA hi
def PQ(md:dW)(ops:aZ)(o:yk)(k:Nat):aN->Bool
  | []=>true
  | x::l=>(sf md x k||o.apart ops x)&&PQ md ops o k l
def EK(md:dW)(ops:aZ):Nat->aN->Nat->Bool
  | 0,_,_=>true
  | _+1,[],_=>false
  | n+1,o::l,k=>o.after.all (λe=>!Region.binds md e||decide (e.on<k))&&PQ md ops o k l&&EK md ops n l (k+1)
def Inv(ops:aZ)(k:Nat)(listed:et):Prop:=∀j,j<ops.size->listed[j]?=some (decide (j<k))
def Inv.set{k:Nat}{listed:et}(h:Inv ops k listed):Inv ops (k+1) (listed.setIfInBounds k true):=by
 intro j hj;rw [Array.getElem?_setIfInBounds];by_cases iT:k=j
 .subst iT;have h1:=h k hj;have al:=(po.1 h1).1;rw [if_pos rfl,if_pos al];simp
 .rw [if_neg iT,h j hj];congr 1;simp only [decide_eq_decide];omega
def Inv.start:Inv ops 0 (bD ops.size false):=by intro j hj;simp [hj]
theorem Inv.marks{listed:et}:∀(n:Nat) {k:Nat} {listed:et},Inv ops k listed->Inv ops (k+n) (marks n k listed)
 | 0,_,_,h=>h
 | n+1,k,_,h=>by
  have:=Inv.marks (listed:=listed) n h.set
  rwa [show k+1+n=k+(n+1) by omega] at this
def Inv.tB{k:Nat}{listed:et}(h:Inv ops k listed){j:Nat}(hj:j<ops.size)(hk:j<k)(d:Bool):listed.getD j d=true:=by have h1:=h j hj;rw [wv,h1];simp [hk]
def Inv.out{k:Nat}{listed:et}(h:Inv ops k listed){j:Nat}(hj:j<ops.size)(hk:k<=j)(d:Bool):listed.getD j d=false:=by have h1:=h j hj;rw [wv,h1];simp;omega
theorem acY{o:yk}{k:Nat}:∀{l:aN},PQ md ops o k l=true->∀x∈l,sf md x k=true\/o.apart ops x=true
 | [],_,_,hx=>absurd hx (by simp)
 | y::l,h,x,hx=>by
  simp only [PQ,dJ,dR] at h;rcases bT.1 hx with rfl|hx
  .exact h.1
  .exact acY h.2 x hx
theorem Th(fX:chainB md ops.toList 0 none=true):∀(n:Nat) (l:aN) (k:Nat) (listed:et),Inv ops k listed->l=ops.toList.drop k->EK md ops n l k=true->EJ md ops n k listed=true
 | 0,_,_,_,_,_,_=>rfl
 | n+1,[],_,_,_,_,h=>by cases h
 | n+1,o::l,k,listed,hI,hl,h=>by
  simp only [EK,dJ] at h;obtain⟨⟨hr,ho⟩,hn⟩:=h;have hk:k<ops.size:=by have h1:=congrArg List.length hl;simp only [fL,k7,kD] at h1;omega
  have h2:ops.toList.drop k=ops.toList[k]'(by simpa using hk)::ops.toList.drop (k+1):=List.drop_eq_getElem_cons (by simpa using hk);rw [<-hl] at h2;injection h2 with h3 h4;have Hi:ops[k]?=some o:=by rw [xt hk,h3];simp
  unfold EJ;simp only [dJ];refine⟨⟨⟨?_,?_⟩,?_⟩,Th fX n l (k+1) _ hI.set h4 hn⟩
  .rw [List.contains_iff_mem];refine mem_ready.2 ⟨by rw [wv,hI k hk];simp,o,Hi,λe he hb=>?_⟩;have h5:=Array.all_eq_true'.1 hr e he;simp only [hb,uG,Bool.false_or,decide_eq_true_eq] at h5;exact hI.tB (by omega) h5 false
  .unfold Region.free
   simp only [Hi];rw [pS];intro j hj;have hj':j<ops.size:=by simpa using hj
   simp only [dR,beq_iff_eq];by_cases iT:j=k
   .exact .inl (.inl iT)
   .by_cases al:j<k
    .exact .inl (.inr (hI.tB hj' al true))
    .right
     have hx:ops[j]?=some ops[j]:=xt hj';rw [hx];have hm:ops[j]∈l:=by rw [h4];rw [List.mem_iff_getElem?];exact⟨j-(k+1),by rw [Fg,show k+1+(j-(k+1))=j by omega];simp [hj']⟩
     rcases acY ho _ hm with h6|h6
     .simp only [dR];exact .inl h6
     .simp only [dR];exact .inr h6
  .unfold QF
   simp only [Hi,dR];by_cases hp:qi o.op=true
   .exact .inl hp
   .right
    rw [pS];intro j hj;have hj':j<ops.size:=by simpa using hj
    simp only [dR,beq_iff_eq];by_cases iT:j=k
    .exact .inl (.inl (.inl iT))
    .by_cases al:j<k
     .exact .inl (.inl (.inr (hI.tB hj' al true)))
     .have hx:ops[j]?=some ops[j]:=xt hj'
      by_cases On:qi ops[j].op=true
      .right;rw [hx];exact On
      .left;right;exact MD (by omega) (amD fX j _ hx (by simpa using On) k (by omega) ⟨o,Hi,by simpa using hp⟩)
def agI(md:dW)(ops:aZ)(N:Nat):Bool:=match ops[N]? with
  | none=>true
  | some o=>(dV N).all λi=>sf md o i||ow md ops (min 4 ops.size) N i
def ah3(ops:aZ)(n k m:Nat):Bool :=
  iK ops&&EK .any ops n ops.toList 0&&chainB .any ops.toList 0 none&&decide (ops.size=m+k+n)&&agI .any ops (k+n) &&
    xF .any ops m (k+n) (marks k n (marks n 0 (bD ops.size false)))
def aCX{n k m:Nat}(h:ah3 ops n k m=true):Bj ops n k m=true:=by
 simp only [ah3,dJ,decide_eq_true_eq] at h;obtain⟨⟨⟨⟨⟨h1,h2⟩,h3⟩,h4⟩,h5⟩,h6⟩:=h;have hI1:Inv ops n (marks n 0 (bD ops.size false)):=by
  have:=Inv.marks (listed:=#[]) n (Inv.start (ops:=ops))
  rwa [dI] at this
 have Zb:Inv ops (k+n) (marks k n (marks n 0 (bD ops.size false))):=by
  have:=Inv.marks (listed:=#[]) k hI1
  rwa [zh n k] at this
 have hr:∀j∈bC .any ops (marks k n (marks n 0 (bD ops.size false))),j=k+n:=by
  intro j hj;cases m with
  | zero =>
   simp only [xF,List.isEmpty_iff] at h6;rw [h6] at hj
   cases hj
  | succ m =>
   simp only [xF,dJ,decide_eq_true_eq] at h6;rw [h6.1] at hj
   simpa using hj
 simp only [Bj,dJ,decide_eq_true_eq];refine⟨⟨⟨⟨h1,Th h3 n ops.toList 0 _ Inv.start rfl h2⟩,h4⟩,?_⟩,h6⟩;unfold V3;rw [pS];intro j hj;have iT:=hr j hj;subst iT;obtain⟨_,o,ho,_⟩:=mem_ready.1 hj;unfold agI at h5;rw [ho] at h5;simp only [pS,iW] at h5 ⊢;intro i hi;have hz:0<ops.size:=nc (bl _) (po.1 ho).1;obtain⟨f,hf⟩:∃f,ops.size=f+1:=⟨ops.size-1,by omega⟩;have h7:=h5 i hi;simp only [dR] at h7;rcases h7 with h7|h7
 .rw [hf];exact aiF ho h7
 .exact MD (Nat.min_le_right _ _) h7
end
def Own(f:yi):Prop:=∀(args:ct) (w:yp),(callFunc f args).run prog w = .ok (.enter f args) w
def IL{a:Act}{o:yk}{f:yi}{xs:na}{ats:mX}(hf:Own f)(ho:o.op = .call { callee:=.value (.func f),args:=xs,argTypes:=ats })(w:yp) :
  (execOp a.eval o).run prog w = .ok (.enter f (xs.map a.eval)) w:=by
 obtain⟨dst,op,ty,pos,af,gd⟩:=o;simp only at ho;subst ho;have h:=hf (xs.map a.eval) w
 go_simp
def ya{a:Act}{xs:na}{args:ct}(h:xs.toList.map a.eval=args.toList):xs.map a.eval=args:=by apply Array.toList_inj.1;rw [Fp,h]
section
variable{ops:aZ}{C0:aE}{Q:Act->Prop}{a:Act}{o:yk}{rest:aN}
def XG{f:yi}{xs:na}{ats:mX}{args:ct}{v:yl}(hg:aU o (yielded ops a.tmps)=true)
 (hf:Own f)(hc:∀w,Calls prog f args w (λe w'=>e = .returned v/\Below w.heap.size w w'))
 (ho:o.op = .call { callee:=.value (.func f),args:=xs,argTypes:=ats })(hx:xs.toList.map a.eval=args.toList)(hk:fQ prog ops C0 Q rest (a.put o.dst v)):fQ prog ops C0 Q (o::rest) a :=
 Na (f:=f) (args:=args) hg (λw _=>hc w) (λw=>by rw [IL hf ho,ya hx]) hk
end
def al0{P:ym}{ops:aZ}{C0:aE}{Q:Act->Prop}{a:Act}{o:yk}{rest:aN}{x:yo}(hg:aU o (yielded ops a.tmps)=true)(ho:o.op = .assign x)(hk:fQ P ops C0 Q rest (a.put o.dst (a.eval x))):fQ P ops C0 Q (o::rest) a :=
 BD hg (λw _=>by unfold execOp;simp only [ho,bM]) hk
def pM:Op->Bool
  | .buildSlice .. | .makeSlice .. | .sliceToArrayPointer .. | .makeFunc .. | .nilCheck _=>true
  | .call c=>match c.callee with | .builtin .len=>true | .builtin .min=>true | .builtin .max=>true|_=>false
  | o=>qi o
def Ct:Op->Bool
  | .alloc _ | .box ..=>true
  | o=>Lu o
section
variable{P:ym}
def Qy{y:yl}{w w':yp}{n:Next}(h:(pure (oO y):Sem Next).run P w = .ok n w'):∃v,n = .value v:=by rw [bM] at h;injection h with h1 h2;exact⟨_,h1.symm⟩
def Qx{w w':yp}{n:Next}(h:(runtimePanic .nilDeref:Sem Next).run P w = .ok n w'):False:=by simp [runtimePanic,goPanic] at h
theorem RT{α β:Type}{s:Sem α}{f:α->Sem β}{n:β}{w w':yp}(h:(s >>= f).run P w = .ok n w'):∃a w1,(f a).run P w1 = .ok n w':=by
 rw [bI] at h;cases hs:s.run P w with
 | ok v w1 =>
  rw [hs] at h;exact⟨v,w1,h⟩
 | halt x w1 =>
  rw [hs] at h
  cases h
def av3{ρ:yo->yl}{o:yk}{x:yo}(ho:o.op = .nilCheck x){w w':yp}{n:Next}(h:(execOp ρ o).run P w = .ok n w'):∃v,n = .value v:=by
 unfold execOp at h;rw [ho] at h;dsimp only at h;split at h
 .exact(Qx h).elim
 .exact(Qx h).elim
 .exact(Qx h).elim
 .split at h
  .exact(Qx h).elim
  .obtain⟨_,_,h⟩:=RT h
   obtain⟨_,_,h⟩:=RT h;split at h
   .obtain⟨_,_,h⟩:=RT h;exact Qy h
   .exact Qy h
  .exact Qy h
 .exact Qy h
def V7{ρ:yo->yl}{o:yk}(hp:pM o.op=true){w w':yp}{n:Next}(h:(execOp ρ o).run P w = .ok n w'):(∃v,n = .value v)\/n = .skip:=by
 by_cases hb:qi o.op=true
 .exact adN hb h
 obtain⟨dst,op,ty,pos,af,gd⟩:=o;cases op<;>first
  | (exfalso;exact hb hp)
  | exact .inl (VT h)
  | exact .inl (av3 rfl h)
  | skip
 next c =>
  obtain⟨callee,args,ats⟩:=c
  cases callee with
  | builtin b =>
   cases b<;>first
    | (cases hp;done)
    | skip
   all_goals
    unfold execOp at h
    simp only [resolve,invoke,builtin,bI,bM,bS] at h;refine .inl ?_
    revert h
    generalize Sem.run P _ w=r
    intro h
    cases r with
    | ok v w1 =>
     simp only [bS] at h
     injection h with h1 h2
     exact⟨v,h1.symm⟩
    | halt x w1=>simp [Result.andThen] at h
  | _=>cases hp
end
class MX (Rel:yp->aE):Prop where
  below:∀w w',Below w.heap.size w w'->Rel w w'
def zQ(w w':yp):Prop:=Below w.heap.size w w'
instance:MX zQ:=⟨λ_ _ h=>h⟩
def tY(P:ym)(Rel:yp->aE)(w:yp)(V:yl->aE):Result Next->Prop
  | .ok (.value u) w'=>Rel w w'/\V u w'
  | .ok .skip w'=>Rel w w'/\V undef w'
  | .ok (.enter f args) w'=>w'=w/\Calls P f args w (λe w''=>∃v,e = .returned v/\Rel w w''/\V v w'')
  | _=>False
def Ee(Rel:yp->aE)(p:aE):Prop:=∀w w',p w->Rel w w'->p w'
abbrev lx:=Nat->aE
def pN(F:lx)(k:Nat)(p:aE):lx:=λj=>if j=k then p else F j
def xd(F:lx)(k:Nat)(p:aE):pN F k p k=p:=if_pos rfl
def pO{F:lx}{k j:Nat}{p:aE}(h:j≠k):pN F k p j=F j:=if_neg h
def stepG(P:ym)(Rel:yp->aE)(C0:aE)(F:lx)(o:yk)(a:Act)(next:aE->Act->Prop):Prop :=
  ∃V:yl->aE,(∀v,Ee Rel (V v))/\((∃v,∀u w,V u w->u=v)\/Ct o.op=true) /\
    (∀w,C0 w->(∀e∈o.after,dE .any e=true->F e.on w)->tY P Rel w V ((execOp a.eval o).run P w)) /\
    ∀v w,C0 w->(∀k,F k w)->V v w->next (V v) (a.put o.dst v)
def gO(P:ym)(Rel:yp->aE)(ops:aZ)(C0:aE)(Q:lx->Act->Prop):List (Nat×yk)->lx->Act->Prop
  | [],F,a=>Q F a
  | x::l,F,a=>if aU x.2 (yielded ops a.tmps) then stepG P Rel C0 F x.2 a (λp a'=>gO P Rel ops C0 Q l (pN F x.1 p) a') else gO P Rel ops C0 Q l (pN F x.1 λ_=>True) (a.put x.2.dst undef)
section
variable{P:ym}{Rel:yp->aE}{ops:aZ}{C0:aE}{Q:lx->Act->Prop}
theorem WS(hQ:∀F F' a,(∀k w,F' k w->F k w)->Q F a->Q F' a):∀(l:List (Nat×yk)) (F F':lx) (a:Act),(∀k w,F' k w->F k w)->gO P Rel ops C0 Q l F a->gO P Rel ops C0 Q l F' a
 | [],F,F',a,h,hh=>hQ F F' a h hh
 | x::l,F,F',a,h,hh=>by
  have KO:∀p,∀k w,pN F' x.1 p k w->pN F x.1 p k w:=λp k w h'=>by
   by_cases e:k=x.1
   .subst e
    rwa [xd] at h' ⊢
   .rw [pO e] at h' ⊢;exact h k w h'
  unfold gO at hh ⊢;split
  .rename_i hw;rw [if_pos hw] at hh;obtain⟨V,h1,h2,h3,h4⟩:=hh;exact⟨V,h1,h2,λw hw he=>h3 w hw λe hm hb=>h _ _ (he e hm hb),λv w hw hF hV=>WS hQ l _ _ _ (KO _) (h4 v w hw (λk=>h k w (hF k)) hV)⟩
  .rename_i hw;rw [if_neg hw] at hh;exact WS hQ l _ _ _ (KO _) hh
structure yx(Rel:yp->aE)(C0:aE)(F:lx)(w:yp):Prop where
  pers:∀k,Ee Rel (F k)
  cls:C0 w
  all:∀k,F k w
def yx.up{F:lx}{w w':yp}{k:Nat}{p:aE}(h:yx Rel C0 F w)(hp:Ee Rel p)(hC:C0 w')(hF:∀k,F k w')(hpw:p w'):yx Rel C0 (pN F k p) w':=by
 refine⟨λj=>?_,hC,λj=>?_⟩
 .by_cases e:j=k
  .subst e;rw [xd];exact hp
  .rw [pO e];exact h.pers j
 .by_cases e:j=k
  .subst e;rw [xd];exact hpw
  .rw [pO e];exact hF j
def CS(l:List (Nat×yk))(F:lx):Prop:=∀x∈l,∀w,F x.1 w
def CS.up{l:List (Nat×yk)}{F:lx}{k:Nat}{p:aE}(h:CS l F)(hk:k∉l.map (·.1)):CS l (pN F k p):=λx hx w=>by have e:x.1≠k:=λe=>hk (dv.2 ⟨x,hx,e⟩);rw [pO e];exact h x hx w
theorem tY.any{w:yp}{V:yl->aE}{r:Result Next}(h:tY P Rel w V r):∃v w',Rel w w'/\V v w':=by
 cases r with
 | ok n w' =>
  cases n<;>simp only [tY] at h
  case value u=>exact⟨u,w',h⟩
  case skip=>exact⟨_,w',h⟩
  case enter f args =>
   obtain⟨e,w1,fr,⟨v,_,h1,h2⟩,_⟩:=h.2 [];exact⟨v,w1,h1,h2⟩
 | halt x w'=>simp only [tY] at h
def aFS{x:Nat×yk}{l l':List (Nat×yk)}{F:lx}{a:Act}{w0:yp}(hG:yx Rel C0 F w0)(hU:CS l F)(hx:x.1∉l.map (·.1))
 (h:∀F a w,yx Rel C0 F w->CS l F->gO P Rel ops C0 Q l F a->gO P Rel ops C0 Q l' F a)(hh:gO P Rel ops C0 Q (x::l) F a):gO P Rel ops C0 Q (x::l') F a:=by
 unfold gO at hh ⊢
 split
 .rename_i hw;rw [if_pos hw] at hh;obtain⟨V,h1,h2,h3,h4⟩:=hh;exact⟨V,h1,h2,h3,λv w hw hF hV=>h _ _ w (hG.up (h1 v) hw hF hV) (hU.up hx) (h4 v w hw hF hV)⟩
 .rename_i hw;rw [if_neg hw] at hh;exact h _ _ w0 (hG.up (λ_ _ _ _=>trivial) hG.cls hG.all trivial) (hU.up hx) hh
structure RB(ops:aZ)(x y:Nat×yk):Prop where
  ne:x.1≠y.1
  apart:x.2.apart ops y.2=true
  noY:∀e∈y.2.after,dE .any e=true->e.on≠x.1
  noX:∀e∈x.2.after,dE .any e=true->e.on≠y.1
  kind:pM y.2.op=true\/Ct x.2.op=false
  selX:∀cs b,x.2.op ≠ .select cs b
  selY:∀cs b,y.2.op ≠ .select cs b
def aCE(fM:∀w w',C0 w->Rel w w'->C0 w')(hQ:∀F F' a,(∀k w,F' k w->F k w)->Q F a->Q F' a){x y:Nat×yk}{l:List (Nat×yk)}{F:lx}{a:Act}{w0:yp}(hp:RB ops x y)(hG:yx Rel C0 F w0)(hj:∀w,F y.1 w)
 (h:gO P Rel ops C0 Q (x::y::l) F a):gO P Rel ops C0 Q (y::x::l) F a:=by
 obtain⟨i,oi⟩:=x;obtain⟨j,oj⟩:=y;obtain⟨b8,iC,BT,ZH,yZ,Hy,KM⟩:=hp;obtain⟨h1,h2,h3⟩:=Oper.apart_spec iC
 dsimp only at *
 have OD:∀v,aU oj (yielded ops (a.put oi.dst v).tmps)=aU oj (yielded ops a.tmps):=λv=>wanted_put oj a oi.dst v h1;have Fc:∀v,aU oi (yielded ops (a.put oj.dst v).tmps)=aU oi (yielded ops a.tmps):=λv=>wanted_put oi a oj.dst v h3;have N2:∀v u,(a.put oi.dst v).put oj.dst u=(a.put oj.dst u).put oi.dst v:=λv u=>kL a v u h2
 have OA:∀(p q:aE),pN (pN F i p) j q=pN (pN F j q) i p:=λp q=>by
  funext k;by_cases e:k=i
  .subst e;rw [xd,pO b8,xd]
  .by_cases e2:k=j
   .subst e2;rw [xd,pO e,xd]
   .rw [pO e2,pO e,pO e,pO e2]
 by_cases wi:aU oi (yielded ops a.tmps)=true
 .unfold gO at h
  rw [if_pos wi] at h;obtain⟨Vx,pX,kX,yX,nX⟩:=h;by_cases wj:aU oj (yielded ops a.tmps)=true
  .obtain⟨v0,w1,jy,Zg⟩:=(yX w0 hG.cls (λe _ _=>hG.all e.on)).any
   have BP:=fM _ _ hG.cls jy;have hF1:∀k,F k w1:=λk=>hG.pers k _ _ (hG.all k) jy;have key:∀v,(∃w,C0 w/\(∀k,F k w)/\Vx v w)->stepG P Rel C0 (pN F i (Vx v)) oj (a.put oi.dst v) (λp a'=>gO P Rel ops C0 Q l (pN (pN F i (Vx v)) j p) a'):=by
    rintro v ⟨w,hw,hF,hV⟩;have h5:=nX v w hw hF hV;unfold gO at h5
    rwa [OD,if_pos wj] at h5
   have key':∀v,∃V:yl->aE,(∃w,C0 w/\(∀k,F k w)/\Vx v w)->(∀v,Ee Rel (V v))/\((∃v,∀u w,V u w->u=v)\/Ct oj.op=true) /\
     (∀w,C0 w->(∀e∈oj.after,dE .any e=true->pN F i (Vx v) e.on w)->tY P Rel w V ((execOp (a.put oi.dst v).eval oj).run P w)) /\
     ∀u w,C0 w->(∀k,pN F i (Vx v) k w)->V u w->gO P Rel ops C0 Q l (pN (pN F i (Vx v)) j (V u)) ((a.put oi.dst v).put oj.dst u):=λv=>by
    by_cases ab:∃w,C0 w/\(∀k,F k w)/\Vx v w
    .obtain⟨V,hV⟩:=key v ab;exact⟨V,λ_=>hV⟩
    .exact⟨λ_ _=>True,λh=>absurd h ab⟩
   clear key;obtain⟨Vy,hy⟩:=Classical.axiomOfChoice key';clear key';have nn:∃w,C0 w/\(∀k,F k w)/\Vx v0 w:=⟨w1,BP,hF1,Zg⟩;unfold gO;rw [if_pos wj];refine⟨λu w=>∀v,(∃w,C0 w/\(∀k,F k w)/\Vx v w)->Vy v u w,λu w w' h hb v ab=>(hy v ab).1 u w w' (h v ab) hb,?_,?_,?_⟩
   .rcases(hy v0 nn).2.1 with⟨u0,hu⟩|hm
    .exact .inl ⟨u0,λu w h=>hu u w (h v0 nn)⟩
    .exact .inr hm
   .intro w hw EW
    have hr:∀v,(∃w,C0 w/\(∀k,F k w)/\Vx v w)->tY P Rel w (Vy v) ((execOp a.eval oj).run P w):=λv ab=>by
     have h5:=(hy v ab).2.2.1 w hw (λe he hb=>by rw [pO (BT e he hb)];exact EW e he hb)
     rwa [execOp_put oj KM a oi.dst v h1] at h5
    have aa:=λn w'=>V7 (P:=P) (ρ:=a.eval) (o:=oj) (w:=w) (w':=w') (n:=n);generalize (execOp a.eval oj).run P w=r at *;cases r with
    | ok n w' =>
     cases n
     case value u=>exact⟨(hr v0 nn).1,λv ab=>(hr v ab).2⟩
     case skip=>exact⟨(hr v0 nn).1,λv ab=>(hr v ab).2⟩
     case enter f args =>
      rcases yZ with yZ|yZ
      .rcases aa _ _ yZ rfl with⟨v,ab⟩|ab<;>cases ab
      .rcases kX with⟨vv,Cg⟩|hm
       .obtain⟨e1,hc⟩:=hr v0 nn;refine⟨e1,hc.mono λe w'' ⟨u,he,hb,hV⟩=>⟨u,he,hb,λv ab=>?_⟩⟩;obtain⟨w3,_,_,E8⟩:=ab;have e2:v=v0:=(Cg _ _ E8).trans (Cg _ _ Zg).symm;rw [e2];exact hV
       .rw [yZ] at hm;cases hm
     all_goals exact absurd (hr v0 nn) (by simp [tY])
    | halt x w'=>exact absurd (hr v0 nn) (by simp [tY])
   .intro u w hw hF hVu
    unfold gO;rw [Fc,if_pos wi];refine⟨Vx,pX,kX,?_,?_⟩
    .intro w2 ln EW;rw [execOp_put oi Hy a oj.dst u h3];exact yX w2 ln (λe he hb=>by have h5:=EW e he hb;rwa [pO (ZH e he hb)] at h5)
    .intro v w2 ln GW EA
     have Za:∀k,F k w2:=λk=>by
      by_cases e:k=j
      .subst e;exact hj w2
      .have h5:=GW k
       rwa [pO e] at h5
     have ab:∃w,C0 w/\(∀k,F k w)/\Vx v w:=⟨w2,ln,Za,EA⟩;have hVy:Vy v u w2:=by have h5:=GW j;rw [xd] at h5;exact h5 v ab
     have h6:=(hy v ab).2.2.2 u w2 ln (λk=>by
      by_cases e:k=i
      .subst e;rw [xd];exact EA
      .rw [pO e];exact Za k) hVy
     rw [N2,OA] at h6;refine WS hQ l _ _ _ (λk w h7=>?_) h6;by_cases e:k=i
     .subst e
      rwa [xd] at h7 ⊢
     .rw [pO e] at h7 ⊢
      by_cases e2:k=j
      .subst e2;rw [xd] at h7 ⊢;exact h7 v ab
      .rwa [pO e2] at h7 ⊢
  .unfold gO
   rw [if_neg wj];unfold gO;rw [Fc,if_pos wi];refine⟨Vx,pX,kX,?_,?_⟩
   .intro w2 ln EW;rw [execOp_put oi Hy a oj.dst undef h3];exact yX w2 ln (λe he hb=>by have h5:=EW e he hb;rwa [pO (ZH e he hb)] at h5)
   .intro v w2 ln GW EA
    have h5:=nX v w2 ln (λk=>by
     by_cases e:k=j
     .subst e;exact hj w2
     .have h5:=GW k
      rwa [pO e] at h5) EA
    unfold gO at h5;rw [OD,if_neg wj,N2,OA] at h5;exact h5
 .unfold gO at h
  rw [if_neg wi] at h;unfold gO at h;by_cases wj:aU oj (yielded ops a.tmps)=true
  .rw [OD,if_pos wj] at h
   obtain⟨Vy,pY,kY,yY,nY⟩:=h;unfold gO;rw [if_pos wj];refine⟨Vy,pY,kY,?_,?_⟩
   .intro w hw EW
    have h5:=yY w hw (λe he hb=>by rw [pO (BT e he hb)];exact EW e he hb)
    rwa [execOp_put oj KM a oi.dst undef h1] at h5
   .intro u w hw hF hV
    have h5:=nY u w hw (λk=>by
     by_cases e:k=i
     .subst e;rw [xd];trivial
     .rw [pO e];exact hF k) hV
    unfold gO;rw [Fc,if_neg wi];rw [N2,OA] at h5;exact h5
  .rw [OD,if_neg wj] at h;unfold gO;rw [if_neg wj];unfold gO;rw [Fc,if_neg wi];rw [N2,OA] at h;exact h
theorem YQ(fM:∀w w',C0 w->Rel w w'->C0 w')(hQ:∀F F' a,(∀k w,F' k w->F k w)->Q F a->Q F' a)(y:Nat×yk)(l2:List (Nat×yk)):∀(l1:List (Nat×yk)) (F:lx) (a:Act) (w0:yp),(∀x∈l1,RB ops x y)->((l1++y::l2).map (·.1)).Nodup ->
  yx Rel C0 F w0->CS (l1++y::l2) F->gO P Rel ops C0 Q (l1++y::l2) F a->gO P Rel ops C0 Q (y::(l1++l2)) F a
 | [],F,a,w0,_,_,_,_,h=>h
 | x::l1,F,a,w0,hp,xQ,hG,hU,h=>by
  have Z8:x.1∉(l1++y::l2).map (·.1)/\((l1++y::l2).map (·.1)).Nodup:=by simpa [AF] using xQ
  have h':gO P Rel ops C0 Q (x::(y::(l1++l2))) F a :=
   aFS (l:=l1++y::l2) hG (λz hz=>hU z (dS _ hz)) Z8.1
    (λF a w hG hU h=>YQ fM hQ y l2 l1 F a w (λz hz=>hp z (dS _ hz)) Z8.2 hG hU h) h
  exact aCE fM hQ (hp x (by simp)) hG (hU y (by simp)) h'
end
section
variable{ops:aZ}{C0:aE}{Q:Act->Prop}{a:Act}{o:yk}{rest:aN}
def al5{f:yi}{xs:na}{ats:mX}{args:ct}{v:yl}(hg:aU o (yielded ops a.tmps)=true)
 (hf:Own f)(hc:∀w,C0 w->Calls prog f args w (λe w'=>e = .returned v/\Below w.heap.size w w'))
 (ho:o.op = .call { callee:=.value (.func f),args:=xs,argTypes:=ats })(hx:xs.toList.map a.eval=args.toList)(hk:fQ prog ops C0 Q rest (a.put o.dst v)):fQ prog ops C0 Q (o::rest) a :=
 Na (f:=f) (args:=args) hg hc (λw=>by rw [IL hf ho,ya hx]) hk
end
section
variable{ops:aZ}{C0:aE}{Q:Act->Prop}{a:Act}{o:yk}{rest:aN}
def al2{f:yi}{xs:na}{ats:mX}{args:ct}(V:yl->Prop)(hg:aU o (yielded ops a.tmps)=true)
 (hf:Own f)(hc:∀w,C0 w->Calls prog f args w (λe w'=>∃v,e = .returned v/\V v/\Below w.heap.size w w'))
 (ho:o.op = .call { callee:=.value (.func f),args:=xs,argTypes:=ats })(hx:xs.toList.map a.eval=args.toList)(hk:∀v,V v->fQ prog ops C0 Q rest (a.put o.dst v)):fQ prog ops C0 Q (o::rest) a :=
 al1 (f:=f) (args:=args) V hg (by rw [ho];rfl) hc (λw=>by rw [IL hf ho,ya hx]) hk
end
def look:List (Nat×yl)->Nat->Option yl
  | [],_=>none
  | (k,v)::r,j=>match b9 k j with
    | true=>some v
    | false=>look r j
def uK(k j:Nat)(v:yl)(r:List (Nat×yl)):look ((k,v)::r) j=if k=j then some v else look r j:=by
 show(match b9 k j with|true=>some v|false=>look r j)=_;by_cases h:k=j
 .subst h;rw [if_pos rfl,Nat.beq_refl]
 .rw [if_neg h]
  cases e:b9 k j with
  | true=>exact absurd (gq e) h
  | false=>rfl
def dy(E:List (Nat×yl)):yo->Option yl
  | .tmp t=>look E t
  | .const v=>some v
  | .global g=>some (.pointer (some ⟨g,0,none⟩))
  | .func f=>some (.func (.func f) #[] #[])
def Sub:List (Nat×yl)->List (Nat×yl)->Prop
  | [],_=>True
  | p::r,E=>look E p.1=some p.2/\Sub r E
structure Fr(N:Nat)(E:List (Nat×yl))(a:Act):Prop where
  size:a.tmps.size=N
  defers:a.defers=[]
  get:∀k v,look E k=some v->a.eval (.tmp k)=v
section
variable{N:Nat}{E E':List (Nat×yl)}{a:Act}
theorem Fr.eval(h:Fr N E a){x:yo}{v:yl}(hx:dy E x=some v):a.eval x=v:=by
 cases x with
 | tmp t=>exact h.get t v hx
 | const u=>exact jm hx
 | global g=>exact jm hx
 | func f=>exact jm hx
def Fr.put(h:Fr N E a){k:Nat}(hk:aW k N=true)(v:yl):Fr N ((k,v)::E) (a.put (some k) v):=by
 have hk:k<N:=by simpa using hk
 refine⟨by simp [nO,h.size],h.defers,λj u hj=>?_⟩;rw [uK] at hj;have hs:k<a.tmps.size:=by rw [h.size];exact hk
 by_cases e:k=j
 .subst e;rw [if_pos rfl] at hj;cases hj;simp [nO,pK,hs]
 .rw [if_neg e] at hj;have h1:=h.get j u hj;simp only [nO,pK,wv] at h1 ⊢;rw [kK (by omega)];exact h1
theorem Fr.sub(h:Fr N E a)(hs:Sub E' E):Fr N E' a:=by
 refine⟨h.size,h.defers,?_⟩;induction E' with
 | nil=>intro k v hk;cases hk
 | cons p r ih =>
  intro k v hk
  obtain⟨j,u⟩:=p;rw [uK] at hk
  by_cases e:j=k
  .subst e;rw [if_pos rfl] at hk;cases hk;exact h.get _ _ hs.1
  .rw [if_neg e] at hk;exact ih hs.2 k v hk
def Fr.start{args:ct}{n:Nat}(h:args.size+n=N)(E:List (Nat×yl))(hE:∀k v,look E k=some v->args[k]?=some v) :
  Fr N E { tmps:=args++bD n undef,defers:=[] }:=by
 refine⟨by simp [h],rfl,λk v hk=>?_⟩;have h1:=hE k v hk;have h2:=(po.1 h1).1;simp only [pK,wv];rw [Array.getElem?_append_left h2,h1]
 rfl
end
def tf(P:ym)(c:Code)(Q:bK)(N:Nat)(E:List (Nat×yl))(w:yp):Prop:=∀a,Fr N E a->c.wp P Q a w
def jc(P:ym)(ops:aZ)(C0:aE)(Q:Act->Prop)(l:aN)(N:Nat)(E:List (Nat×yl)):Prop:=∀a,Fr N E a->fQ P ops C0 Q l a
def jo(P:ym)(ops:aZ)(Q:bK)(l:aN)(N:Nat)(E:List (Nat×yl))(w:yp):Prop:=∀a,Fr N E a->wpList P ops Q l a w
def HT(K:fg)(N:Nat)(E:List (Nat×yl))(w:yp):Prop:=∀a,Fr N E a->K a w
section
variable{P:ym}{Q:bK}{N:Nat}{E E':List (Nat×yl)}{w:yp}
def Jx{x y:Code}(h:∀K:fg,(∀E' w',tf P y Q N E' w'->HT K N E' w')->tf P x (Exit.then K Q) N E w):tf P (.seq x y) Q N E w:=λa ha =>
 wp_seq_k λK hK=>h K (λ_ _ h' a' ha'=>hK _ _ (h' a' ha')) a ha
def XP(h:HT (Q .ret) N E w):tf P .ret Q N E w:=λa ha=>wp_ret (h a ha)
def least{σ:Type}(m:σ->Nat)(p:σ->Prop):(∃s,p s)->∃s,p s/\∀s',p s'->m s<=m s':=by
 rintro⟨s,hs⟩;have key:∀n s,m s<=n->p s->∃s,p s/\∀s',p s'->m s<=m s':=by
  intro n;induction n with
  | zero=>exact λs hn hs=>⟨s,hs,λs' _=>by omega⟩
  | succ n ih =>
   intro s hn hs
   by_cases h:∃s',p s'/\m s'<m s
   .obtain⟨s',h1,h2⟩:=h;exact ih s' (by omega) h1
   .exact⟨s,hs,λs' h1=>by
     by_cases h2:m s'<m s
     .exact absurd ⟨s',h1,h2⟩ h
     .omega⟩
 exact key (m s) s (aQ _) hs
open Classical in
theorem am4{σ:Type}{c:Code}(m:σ->Nat)(F:σ->List (Nat×yl))(R:σ->aE)
 (round:∀s w,R s w->tf P c (Exit.then (λa' w'=>∃s',R s' w'/\Fr N (F s') a'/\m s'<m s) Q) N (F s) w)(s0:σ)(h0:R s0 w):tf P (.loop c) Q N (F s0) w:=λa ha=>by
 let T:Act->yp->σ->Prop:=λa w s=>R s w/\Fr N (F s) a
 let μ:Act->yp->Nat:=λa w=>if h:∃s,T a w s then m (qF (least m (T a w) h)) else 0
 have hμ:∀a w (h:∃s,T a w s),∃s,T a w s/\(∀s',T a w s'->m s<=m s')/\μ a w=m s:=λa w h=>by refine⟨qF (least m (T a w) h),(tF (least m (T a w) h)).1,(tF (least m (T a w) h)).2,?_⟩;show(if h:∃s,T a w s then m (qF (least m (T a w) h)) else 0)=_;rw [dif_pos h]
 refine wp_loop (λa w=>∃s,T a w s) μ ⟨s0,h0,ha⟩ λa w hI=>?_;obtain⟨s,hs,_,e⟩:=hμ a w hI;refine wp_mono (round s w hs.1 a hs.2) λx a' w' hx=>?_
 cases x with
 | normal =>
  obtain⟨s',h1,h2,h3⟩:=hx;have hI':∃s,T a' w' s:=⟨s',h1,h2⟩;obtain⟨s2,uH,xO,e2⟩:=hμ a' w' hI';refine⟨hI',?_⟩;rw [e,e2];exact nc (xO s' ⟨h1,h2⟩) h3
 | exit _=>exact hx
 | goto _=>exact hx
 | ret=>exact hx
 | panic _=>exact hx
 | outgrown=>exact hx
end
section
variable{P:ym}{Q:bK}{N:Nat}{E:List (Nat×yl)}{w:yp}{id:Nat}{l:aN}
def am5(h:jc P l.toArray (cA w) (λa'=>∀w',cA w w'->Q .normal a' w') l N E):tf P (.region id l.toArray false) Q N E w:=λa ha=>ayQ (h a ha)
def am6(n:Nat)(h:jc P l.toArray (cA w) (λa'=>∀w',cA w w'->wpList P l.toArray Q (l.drop n) a' w') (l.take n) N E):tf P (.region id l.toArray false) Q N E w:=λa ha=>ayR n (h a ha)
def XN(h:jo P l.toArray Q l N E w):tf P (.region id l.toArray false) Q N E w:=λa ha=>wp_region_lit (h a ha)
end
section
variable{P:ym}{ops:aZ}{C0:aE}{Q:Act->Prop}{N:Nat}{E:List (Nat×yl)}{o:yk}{rest:aN}{k:Nat}
def yL(v:yl)(hg:o.guard=none)(hd:o.dst=some k)(hk:aW k N=true)(h:∀a,Fr N E a->∀w,C0 w->(execOp a.eval o).run P w = .ok (.value v) w)(hn:jc P ops C0 Q rest N ((k,v)::E)) :
  jc P ops C0 Q (o::rest) N E:=λa ha=>BD (by simp [aU,hg]) (h a ha) (by rw [hd];exact hn _ (ha.put hk v))
def NC{x:yo}(v:yl)(hq:di o k N)(ho:o.op = .move x)(hx:dy E x=some v)(hn:jc P ops C0 Q rest N ((k,v)::E)):jc P ops C0 Q (o::rest) N E :=
 yL v (eB hq) (eC hq) (dQ hq) (λa ha w _=>by have h1:=ha.eval hx;unfold execOp;simp only [ho,h1,bM]) hn
def ao0{x:yo}(v:yl)(hq:di o k N)(ho:o.op = .assign x)(hx:dy E x=some v)(hn:jc P ops C0 Q rest N ((k,v)::E)):jc P ops C0 Q (o::rest) N E :=
 yL v (eB hq) (eC hq) (dQ hq) (λa ha w _=>by have h1:=ha.eval hx;unfold execOp;simp only [ho,h1,bM]) hn
end
def ao2{P:ym}{ops:aZ}{Q:bK}{N:Nat}{E:List (Nat×yl)}{w:yp}(h:∀w',cA w w'->HT (Q .normal) N E w') :
  jc P ops (cA w) (λa'=>∀w',cA w w'->Q .normal a' w') [] N E:=λa ha=>Gm λw' hw'=>h w' hw' a ha
section
variable{ops:aZ}{C0:aE}{Q:Act->Prop}{N:Nat}{E:List (Nat×yl)}{o:yk}{rest:aN}{k:Nat}
def GR{f:yi}{xs:na}{ats:mX}(args:ct)(v:yl)(hg:o.guard=none)(hd:o.dst=some k)(hk:aW k N=true)
 (hf:Own f)(hc:∀w,C0 w->Calls prog f args w (λe w'=>e = .returned v/\Below w.heap.size w w'))
 (ho:o.op = .call { callee:=.value (.func f),args:=xs,argTypes:=ats })(hx:xs.toList.map (dy E)=args.toList.map some)(hn:jc prog ops C0 Q rest N ((k,v)::E)):jc prog ops C0 Q (o::rest) N E:=λa ha=>by
 refine al5 (v:=v) (args:=args) (by simp [aU,hg]) hf hc ho ?_ (by rw [hd];exact hn _ (ha.put hk v))
 have key:∀(l:List yo) (m:cU),l.map (dy E)=m.map some->l.map a.eval=m:=by
  intro l;induction l with
  | nil=>intro m h;cases m with
   | nil=>rfl
   | cons=>cases h
  | cons y l ih=>intro m h;cases m with
   | nil=>cases h
   | cons u m =>
    simp only [eZ,BM] at h ⊢;exact⟨ha.eval h.1,ih m h.2⟩
 exact key _ _ hx
end
inductive GC (ops:aZ):Nat->cn
  | edge {j i:Nat} {o:yk} (hj:ops[j]?=some o) (h:sf .any o i=true):GC ops j i
  | via {j m i:Nat} {o:yk} (hj:ops[j]?=some o) (h:sf .any o m=true) (hm:GC ops m i):GC ops j i
def Nx{o:yk}{i:Nat}(h:sf .any o i=true):∃e∈o.after,dE .any e=true/\e.on=i:=by unfold sf at h;obtain⟨e,he,hb⟩:=dK.1 h;simp only [dJ,beq_iff_eq] at hb;exact⟨e,he,hb.1,hb.2⟩
theorem nI.aiD{ops:aZ}{listed:et}(hc:nI .any ops listed){j i:Nat}(h:GC ops j i):∀o,ops[j]?=some o->(∀e∈o.after,dE .any e=true->listed.getD e.on false=true)->listed.getD i false=true:=by
 induction h with
 | edge hj h =>
  intro o ho hl
  obtain rfl:=jm (hj.symm.trans ho);obtain⟨e,he,hb,rfl⟩:=Nx h;exact hl e he hb
 | @via j m i o' hj h hm ih =>
  intro o ho hl
  obtain rfl:=jm (hj.symm.trans ho);obtain⟨e,he,hb,rfl⟩:=Nx h;have h1:=hl e he hb
  obtain⟨om,hom⟩:∃om,ops[e.on]?=some om:=by cases hm with
   | edge hj _=>exact⟨_,hj⟩
   | via hj _ _=>exact⟨_,hj⟩
  exact ih om hom (hc _ om hom h1)
def Ik(ms:aC):List Edge->Nat
  | []=>0
  | e::l=>if dE .any e then(2^e.on ||| ms.getD e.on 0) ||| Ik ms l else Ik ms l
def AP:aN->aC->aC
  | [],ms=>ms
  | o::l,ms=>AP l (ms++[Ik ms o.after.toList])
theorem UF{ms:aC}{i:Nat}:∀{l:List Edge},(Ik ms l).testBit i=true->∃e∈l,dE .any e=true/\(e.on=i\/∃b,ms[e.on]?=some b/\b.testBit i=true)
 | [],h=>by simp [Ik] at h
 | e::l,h=>by
  unfold Ik at h;split at h
  .rename_i hb
   rw [Nat.testBit_or,Nat.testBit_or] at h;simp only [dR] at h;rcases h with(h|h)|h
   .refine⟨e,by simp,hb,.inl ?_⟩;rw [Nat.testBit_two_pow] at h;simpa using h
   .refine⟨e,by simp,hb,.inr ?_⟩
    rw [List.getD_eq_getElem?_getD] at h;cases hm:ms[e.on]? with
    | none=>rw [hm] at h;simp at h
    | some b=>rw [hm] at h;exact⟨b,rfl,h⟩
   .obtain⟨e',he,h'⟩:=UF h;exact⟨e',dS _ he,h'⟩
  .obtain⟨e',he,h'⟩:=UF h;exact⟨e',dS _ he,h'⟩
def Rx(ops:aZ)(ms:aC):Prop:=∀j b i:Nat,ms[j]?=some b->b.testBit i=true->GC ops j i
theorem abU{ops:aZ}:∀(l:aN) (ms:aC),(∀j,j<l.length->l[j]?=ops[ms.length+j]?)->Rx ops ms->Rx ops (AP l ms)
 | [],_,_,h=>h
 | o::l,ms,hl,h=>by
  unfold AP;refine abU l _ (λj hj=>?_) ?_
  .have:=hl (j+1) (by simpa using hj);simpa [kZ,zh 1 j] using this
  .intro j b i hj hb
   rw [List.getElem?_append] at hj;split at hj
   .exact h j b i hj hb
   .rename_i al
    have h0:j-ms.length=0:=by
     by_cases e:j-ms.length=0
     .exact e
     .exfalso;obtain⟨k,hk⟩:∃k,j-ms.length=k+1:=⟨j-ms.length-1,by omega⟩;rw [hk] at hj;simp at hj
    obtain rfl:j=ms.length:=by omega
    rw [h0] at hj;simp only [bV,iv] at hj;subst hj;have ho:ops[ms.length]?=some o:=by simpa using (hl 0 (by simp)).symm
    obtain⟨e,he,hbd,h5⟩:=UF hb;have he':e∈o.after:=by simpa using he
    have BT:sf .any o e.on=true:=by unfold sf;exact dK.2 ⟨e,he',by simp [hbd]⟩
    rcases h5 with rfl|⟨b,jy,jz⟩
    .exact .edge ho BT
    .exact .via ho BT (h _ b i jy jz)
def LJ(ops:aZ)(o:yk)(k:Nat):aN->aC->Bool
  | [],_=>true
  | _::_,[]=>false
  | x::l,m::ms=>(m.testBit k||(o.apart ops x&&(pM x.op || !Ct o.op)))&&LJ ops o k l ms
def Dd(ops:aZ):aN->aC->Nat->Bool
  | [],_,_=>true
  | _::_,[],_=>false
  | o::l,_::ms,k=>o.after.all (λe=>!Region.binds .any e||decide (e.on<k))&&LJ ops o k l ms&&Dd ops l ms (k+1)
def D3(ops:aZ)(n m:Nat):Bool :=
  iK ops&&Dd ops (ops.toList.take n) (AP ops.toList []) 0&&(match (AP ops.toList [])[n]? with|none=>true|some b=>(dV n).all b.testBit) &&
    decide (ops.size=m+n)&&xF .any ops m n (marks n 0 (bD ops.size false))
theorem acX{ops:aZ}{o:yk}{k:Nat}:∀{l:aN} {ms:aC},LJ ops o k l ms=true->∀(j:Nat) (x:yk),l[j]?=some x->∃m,ms[j]?=some m/\(m.testBit k=true\/(o.apart ops x=true/\(pM x.op=true\/Ct o.op=false)))
 | [],_,_,j,x,hx=>by simp at hx
 | _::_,[],h,_,_,_=>by cases h
 | y::l,m::ms,h,0,x,hx=>by simp only [bV,iv] at hx;subst hx;simp only [LJ,dJ,dR,Bool.not_eq_true'] at h;exact⟨m,rfl,h.1⟩
 | y::l,m::ms,h,j+1,x,hx=>by simp only [LJ,dJ] at h;obtain⟨m',h1,h2⟩:=acX h.2 j x (by simpa using hx);exact⟨m',by simpa using h1,h2⟩
theorem ZG{ops:aZ}:∀{l:aN} {ms:aC} {k:Nat},Dd ops l ms k=true->∀(i j:Nat) (x y:yk),i<j->l[i]?=some x->l[j]?=some y->∃m,ms[j]?=some m/\(m.testBit (k+i)=true\/(x.apart ops y=true/\(pM y.op=true\/Ct x.op=false)))
 | [],_,_,_,i,_,x,_,_,hx,_=>by simp at hx
 | _::_,[],_,h,_,_,_,_,_,_,_=>by cases h
 | o::l,m::ms,k,h,0,0,x,y,uA,_,_=>absurd uA (by omega)
 | o::l,m::ms,k,h,0,j+1,x,y,_,hx,hy=>by simp only [Dd,dJ] at h;simp only [bV,iv] at hx;subst hx;obtain⟨m',h1,h2⟩:=acX h.1.2 j y (by simpa using hy);exact⟨m',by simpa using h1,h2⟩
 | o::l,m::ms,k,h,i+1,0,x,y,uA,_,_=>absurd uA (by omega)
 | o::l,m::ms,k,h,i+1,j+1,x,y,uA,hx,hy=>by simp only [Dd,dJ] at h;obtain⟨m',h1,h2⟩:=ZG h.2 i j x y (by omega) (by simpa using hx) (by simpa using hy);exact⟨m',by simpa using h1,by rwa [show k+(i+1)=k+1+i by omega]⟩
theorem Ti{ops:aZ}:∀{l:aN} {ms:aC} {k:Nat},Dd ops l ms k=true->∀(i:Nat) (x:yk),l[i]?=some x->∀e∈x.after,dE .any e=true->e.on<k+i
 | [],_,_,_,i,x,hx=>by simp at hx
 | _::_,[],_,h,_,_,_=>by cases h
 | o::l,m::ms,k,h,0,x,hx=>λe he hb=>by simp only [Dd,dJ] at h;simp only [bV,iv] at hx;subst hx;have h5:=Array.all_eq_true'.1 h.1.1 e he;simpa [hb] using h5
 | o::l,m::ms,k,h,i+1,x,hx=>λe he hb=>by simp only [Dd,dJ] at h;have:=Ti h.2 i x (by simpa using hx) e he hb;omega
structure Jj(ops:aZ)(n:Nat)(l:List (Nat×yk))(listed:et):Prop where
  size:listed.size=ops.size
  mem:∀x∈l,ops[x.1]?=some x.2/\x.1<n/\listed.getD x.1 true=false
  out:∀j o,j<n->ops[j]?=some o->listed.getD j true=false->(j,o)∈l
  tail:∀j,n<=j->j<ops.size->listed.getD j true=false
  sort:l.Pairwise λx y=>x.1<y.1
  closed:nI .any ops listed
def getD_in{listed:et}{j:Nat}(h:j<listed.size):listed.getD j true=listed.getD j false:=by simp only [wv];rw [xt h];rfl
def Jj.step{ops:aZ}{n i:Nat}{o:yk}{l1 l2:List (Nat×yk)}{listed:et}(h:Jj ops n (l1++(i,o)::l2) listed)(hr:i∈bC .any ops listed):Jj ops n (l1++l2) (listed.setIfInBounds i true):=by
 have hs:=h.sort;rw [Lp,qu] at hs;have hm:=h.mem (i,o) (by simp);have sw:i<listed.size:=by rw [h.size];exact(po.1 hm.1).1
 refine⟨by rw [tQ,h.size],λx hx=>?_,λj o' hj ho hl=>?_,λj hj hjs=>?_,?_,h.closed.set hr⟩
 .have b8:i≠x.1:=by
   rcases iA.1 hx with h1|h1
   .have:=hs.2.2 x h1 (i,o) (by simp);dsimp only at this;omega
   .have:=hs.2.1.1 x h1;dsimp only at this;omega
  obtain⟨h1,h2,h3⟩:=h.mem x (by
   rcases iA.1 hx with h1|h1
   .exact HO _ h1
   .exact KZ _ (dS _ h1))
  exact⟨h1,h2,by rw [getD_set_ne true b8];exact h3⟩
 .by_cases e:i=j
  .subst e;simp [sw] at hl
  .rw [getD_set_ne true e] at hl
   have h1:=h.out j o' hj ho hl;rcases iA.1 h1 with h2|h2
   .exact HO _ h2
   .rcases bT.1 h2 with h3|h3
    .injection h3 with h4 h5;exact absurd h4.symm e
    .exact KZ _ h3
 .rw [getD_set_ne true (by have:=hm.2.1;dsimp only at this;omega)];exact h.tail j hj hjs
 .exact h.sort.sublist (List.Sublist.append (List.Sublist.refl _) (List.sublist_cons_self _ _))
def xC(P:ym)(ops:aZ)(Q:bK)(C0:aE)(T:aN)(F:lx)(a:Act):Prop:=∀w,C0 w->(∀k,F k w)->wpList P ops Q T a w
def anL{P:ym}{ops:aZ}{Q:bK}{C0:aE}{T:aN}:∀(F F':lx) (a:Act),(∀k w,F' k w->F k w)->xC P ops Q C0 T F a->xC P ops Q C0 T F' a :=
 λ_ _ _ h hh w hw hF=>hh w hw λk=>h k w (hF k)
section
variable{P:ym}{Rel:yp->aE}{ops:aZ}{Q:bK}{C0:aE}
theorem ayO(fM:∀w w',C0 w->Rel w w'->C0 w'){n:Nat}{T:aN}(aF:D3 ops n T.length=true)(hT:∀j,j<T.length->T[j]?=ops[n+j]?) :
  ∀(N:Nat) (l:List (Nat×yk)) (listed:et) (F:lx) (a:Act) (w:yp),l.length=N->Jj ops n l listed->yx Rel C0 F w->CS l F ->
   gO P Rel ops C0 (xC P ops Q C0 T) l F a->wpAny P .any ops Q (T.length+N) listed a w:=by
 simp only [D3,dJ,decide_eq_true_eq] at aF;obtain⟨⟨⟨⟨mF,hh⟩,EZ⟩,gT⟩,hf⟩:=aF;have hM:Rx ops (AP ops.toList []):=abU ops.toList [] (λj _=>by simp) (λj b i hj=>by simp at hj)
 have hS:∀(j:Nat) (o:yk),j<n->ops[j]?=some o->(ops.toList.take n)[j]?=some o:=λj o hj ho=>by rw [uq,if_pos hj];simpa using ho
 have hI:Inv ops n (marks n 0 (bD ops.size false)):=by
  have:=Inv.marks (listed:=#[]) n (Inv.start (ops:=ops))
  rwa [dI] at this
 intro N
 induction N with
 | zero =>
  intro l listed F a w hl hP hG hU h
  obtain rfl:=lB hl
  have e:listed=marks n 0 (bD ops.size false):=by
   have Hm:∀(k m:Nat) (x:et),(marks k m x).size=x.size:=by
    intro k;induction k with
    | zero=>intro m x;rfl
    | succ k ih=>intro m x;rw [marks,ih,tQ]
   refine Array.ext (by rw [Hm,hP.size,Array.size_replicate]) λj h1 h2=>?_;have hj:j<ops.size:=by rw [<-hP.size];exact h1
   have h3:=hI j hj;rw [xt h2] at h3;injection h3 with h3;rw [h3];have h4:listed.getD j true=listed[j]:=by simp only [wv];rw [xt h1];rfl
   by_cases Ao:j<n
   .rw [decide_eq_true Ao]
    cases ab:listed[j] with
    | true=>rfl
    | false =>
     have h5:=hP.out j ops[j] Ao (xt hj) (h4.trans ab)
     simp at h5
   .rw [decide_eq_false Ao,<-h4];exact hP.tail j (by omega) hj
  exact I3 T n listed a w hT (by rw [e];exact hf) (h w hG.cls hG.all)
 | succ N ih =>
  intro l listed F a w hl hP hG hU h
  obtain⟨x0,l0,rfl⟩:∃x l',l=x::l':=by cases l with
   | nil=>simp at hl
   | cons x l=>exact⟨x,l,rfl⟩
  have vy:=hP.mem x0 (by simp);have xT:=qu.1 hP.sort
  have np:x0.1∈bC .any ops listed:=by
   refine mem_ready.2 ⟨vy.2.2,x0.2,vy.1,λe he hb=>?_⟩;have Kx:=Ti hh x0.1 x0.2 (hS _ _ vy.2.1 vy.1) e he hb;rw [dI] at Kx;have Ha:e.on<ops.size:=Nat.lt_trans Kx (po.1 vy.1).1;cases ab:listed.getD e.on false with
   | true=>rfl
   | false =>
    rw [<-getD_in (by rw [hP.size];exact Ha)] at ab;have h5:=hP.out e.on ops[e.on] (by omega) (xt Ha) ab
    rcases bT.1 h5 with h6|h6
    .rw [<-h6] at Kx;exact absurd Kx (by simp)
    .have:=xT.1 _ h6;dsimp only at this;omega
  refine⟨λh0=>(by rw [h0] at np;cases np),λi hi=>?_⟩;obtain⟨hiu,o,Df,iP⟩:=mem_ready.1 hi;have his:=(po.1 Df).1
  have iR:i<n:=by
   by_cases iR:i<n
   .exact iR
   .exfalso
    have hr:i∈bC .any ops (marks n 0 (bD ops.size false)):=mem_ready.2 ⟨hI.out his (by omega) true,o,Df,λe he hb=>by
     have h5:=iP e he hb;have Ha:e.on<ops.size:=by
      rcases Nat.lt_or_ge e.on listed.size with h6|h6
      .rw [<-hP.size];exact h6
      .simp [Array.getElem?_eq_none h6] at h5
     by_cases hen:e.on<n
     .exact hI.tB Ha hen false
     .have h6:=hP.tail e.on (by omega) Ha;rw [getD_in (by rw [hP.size];exact Ha),h5] at h6;cases h6⟩
    have hw:GC ops i x0.1:=by
     cases SH:T.length with
     | zero =>
      rw [SH] at hf;simp only [xF,List.isEmpty_iff] at hf;rw [hf] at hr
      cases hr
     | succ m =>
      rw [SH] at hf;simp only [xF,dJ,decide_eq_true_eq] at hf;rw [hf.1,bU] at hr;subst hr
      cases Hm:(AP ops.toList [])[i]? with
      | none =>
       exfalso
       have hlen:∀(l:aN) (ms:aC),(AP l ms).length=l.length+ms.length:=by
        intro l;induction l with
        | nil=>intro ms;simp [AP]
        | cons o l ih=>intro ms;rw [AP,ih];simp;omega
       rw [List.getElem?_eq_none_iff,hlen] at Hm
       simp at Hm
       omega
      | some b =>
       rw [Hm] at EZ;simp only [pS,iW] at EZ;exact hM i b x0.1 Hm (EZ x0.1 vy.2.1)
    have h7:=hP.closed.aiD hw o Df iP;have h8:=Da np;rw [h7] at h8;cases h8
  have sw:(i,o)∈x0::l0:=hP.out i o iR Df hiu;generalize x0::l0=l at *;clear vy xT np;obtain⟨l1,l2,rfl⟩:=List.append_of_mem sw;have hs:=hP.sort;have hs':=hs;rw [Lp,qu] at hs';have xQ:((l1++(i,o)::l2).map (·.1)).Nodup:=List.Pairwise.map _ (λ_ _ h=>Nat.ne_of_lt h) hs
  have hp:∀x∈l1,RB ops x (i,o):=λx hx=>by
   have al:=hs'.2.2 x hx (i,o) (by simp);dsimp only at al;have hm:=hP.mem x (HO _ hx);have OH:=hm.2.2;have T7:x.1<listed.size:=by rw [hP.size];exact(po.1 hm.1).1
   rw [getD_in T7] at OH;obtain⟨m,h1,h2⟩:=ZG hh x.1 i x.2 o al (hS _ _ hm.2.1 hm.1) (hS _ _ iR Df);rw [dI] at h2;have h3:x.2.apart ops o=true/\(pM o.op=true\/Ct x.2.op=false):=by
    rcases h2 with h2|h2
    .have h7:=hP.closed.aiD (hM i m x.1 h1 h2) o Df iP;rw [h7] at OH;cases OH
    .exact h2
   refine⟨Nat.ne_of_lt al,h3.1,λe he hb l9=>?_,λe he hb l9=>?_,h3.2,λcs b=>Ac mF x.1 x.2 cs b hm.1,λcs b=>Ac mF i o cs b Df⟩
   .have h7:=iP e he hb;rw [l9,OH] at h7;cases h7
   .have h7:=Ti hh x.1 x.2 (hS _ _ hm.2.1 hm.1) e he hb;dsimp only at l9;omega
  have h9:=YQ fM anL (i,o) l2 l1 F a w hp xQ hG hU h;have hP':=hP.step hi
  have hU':CS (l1++l2) F:=λx hx=>hU x (by
   rcases iA.1 hx with h1|h1
   .exact HO _ h1
   .exact KZ _ (dS _ h1))
  have hi':i∉(l1++l2).map (·.1):=λKy=>by
   obtain⟨x,hx,Dn⟩:=dv.1 Ky;rcases iA.1 hx with h1|h1
   .have:=hs'.2.2 x h1 (i,o) (by simp);dsimp only at this Dn;omega
   .have:=hs'.2.1.1 x h1;dsimp only at this Dn;omega
  have hlen:(l1++l2).length=N:=by simp only [aV,fL] at hl ⊢;omega
  unfold wpOp
  simp only [Df]
  unfold gO at h9
  dsimp only at h9
  split
  .rename_i hw
   rw [if_pos hw] at h9;obtain⟨V,Hs,_,hy,hn⟩:=h9;refine .inl ?_;have h3:=hy w hG.cls (λe _ _=>hG.all e.on);have fin:∀u w',Rel w w'->V u w'->wpAny P .any ops Q (T.length+N) (listed.setIfInBounds i true) (a.put o.dst u) w':=λu w' hb hV=>by have hC:=fM _ _ hG.cls hb;have hF:∀k,F k w':=λk=>hG.pers k _ _ (hG.all k) hb;exact ih (l1++l2) _ _ _ w' hlen hP' (hG.up (Hs u) hC hF hV) (hU'.up hi') (hn u w' hC hF hV)
   unfold fW;generalize (execOp a.eval o).run P w=r at *;cases r with
   | ok n w' =>
    cases n<;>simp only [tY] at h3<;>simp only [fE]
    case value u=>exact fin u w' h3.1 h3.2
    case skip=>exact fin _ w' h3.1 h3.2
    case enter f args =>
     obtain⟨e1,hc⟩:=h3;rw [e1]
     exact hc.mono λe w'' ⟨v,he,hb,hV⟩=>by subst he;exact fin v w'' hb hV
   | halt x w'=>simp only [tY] at h3
  .rename_i hw;rw [if_neg hw] at h9;exact ih (l1++l2) _ _ _ w hlen hP' (hG.up (λ_ _ _ _=>trivial) hG.cls hG.all trivial) (hU'.up hi') h9
theorem VG(fM:∀w w',C0 w->Rel w w'->C0 w'){T:aN}:∀(l:List (Nat×yk)) (F:lx) (a:Act) (w:yp),yx Rel C0 F w->gO P Rel ops C0 (xC P ops Q C0 T) l F a->wpList P ops Q (l.map (·.2)++T) a w
 | [],F,a,w,hG,h=>h w hG.cls hG.all
 | x::l,F,a,w,hG,h=>by
  rw [eZ,AO];unfold wpList;unfold gO at h;split
  .rename_i hw
   rw [if_pos hw] at h;obtain⟨V,Hs,_,hy,hn⟩:=h;refine .inl ?_;have h3:=hy w hG.cls (λe _ _=>hG.all e.on);have fin:∀u w',Rel w w'->V u w'->wpList P ops Q (l.map (·.2)++T) (a.put x.2.dst u) w':=λu w' hb hV=>by have hC:=fM _ _ hG.cls hb;have hF:∀k,F k w':=λk=>hG.pers k _ _ (hG.all k) hb;exact VG fM l _ _ w' (hG.up (Hs u) hC hF hV) (hn u w' hC hF hV)
   unfold fW;generalize (execOp a.eval x.2).run P w=r at *;cases r with
   | ok n w' =>
    cases n<;>simp only [tY] at h3<;>simp only [fE]
    case value u=>exact fin u w' h3.1 h3.2
    case skip=>exact fin _ w' h3.1 h3.2
    case enter f args =>
     obtain⟨e1,hc⟩:=h3;rw [e1]
     exact hc.mono λe w'' ⟨v,he,hb,hV⟩=>by subst he;exact fin v w'' hb hV
   | halt x w'=>simp only [tY] at h3
  .rename_i hw;rw [if_neg hw] at h;exact VG fM l _ _ w (hG.up (λ_ _ _ _=>trivial) hG.cls hG.all trivial) h
end
def idx:Nat->aN->List (Nat×yk)
  | _,[]=>[]
  | k,o::l=>(k,o)::idx (k+1) l
theorem aaF:∀(k:Nat) (l:aN),(idx k l).map (·.2)=l
 | _,[]=>rfl
 | k,o::l=>by rw [idx,eZ,aaF]
theorem aaE:∀(k:Nat) (l:aN),(idx k l).length=l.length
 | _,[]=>rfl
 | k,o::l=>by rw [idx,fL,aaE,fL]
theorem Uc:∀{k:Nat} {l:aN} {x:Nat×yk},x∈idx k l->k<=x.1/\l[x.1-k]?=some x.2
 | _,[],_,h=>by simp [idx] at h
 | k,o::l,x,h=>by
  rcases bT.1 h with rfl|h
  .exact⟨aQ _,by simp⟩
  .obtain⟨h1,h2⟩:=Uc h;refine⟨by omega,?_⟩;rw [show x.1-k=x.1-(k+1)+1 by omega];simpa using h2
theorem abX:∀{k:Nat} {l:aN} {j:Nat} {o:yk},l[j]?=some o->(k+j,o)∈idx k l
 | _,[],_,_,h=>by simp at h
 | k,x::l,0,o,h=>by simp only [bV,iv] at h;subst h;exact eh
 | k,x::l,j+1,o,h=>by have h1:=abX (k:=k+1) (l:=l) (j:=j) (o:=o) (by simpa using h);rw [show k+(j+1)=k+1+j by omega];exact dS _ h1
theorem aaG:∀(k:Nat) (l:aN),(idx k l).Pairwise λx y=>x.1<y.1
 | _,[]=>qE
 | k,o::l=>rN (λx hx=>by have:=(Uc hx).1;dsimp only;omega) (aaG (k+1) l)
abbrev Told:=List (Nat×aE)
def Ie:Told->Nat->Option aE
  | [],_=>none
  | (k,p)::r,j=>match b9 k j with
    | true=>some p
    | false=>Ie r j
def mw(i:Nat)(Fa:Told):Bool:=Fa.all λx=>!Nat.beq x.1 i
def Bu(Fa:Told)(F:lx):Prop:=∀x∈Fa,∀w,F x.1 w->x.2 w
theorem O5:∀{Fa:Told} {j:Nat} {p:aE},Ie Fa j=some p->(j,p)∈Fa
 | [],_,_,h=>by cases h
 | (k,q)::r,j,p,h=>by
  unfold Ie at h;split at h
  .rename_i e;obtain rfl:=gq e;cases h;exact eh
  .exact dS _ (O5 h)
def Bu.up{Fa:Told}{F:lx}{i:Nat}{p:aE}(h:Bu Fa F)(hf:mw i Fa=true):Bu Fa (pN F i p):=λx hx w hw=>by
 have h1:=pS.1 hf x hx;have e:x.1≠i:=by rintro rfl;simp at h1
 rw [pO e] at hw;exact h x hx w hw
def Bu.more{Fa:Told}{F:lx}{i:Nat}{p:aE}(h:Bu Fa F)(hf:mw i Fa=true):Bu ((i,p)::Fa) (pN F i p):=λx hx w hw=>by
 rcases bT.1 hx with rfl|hx
 .rwa [xd] at hw
 .exact h.up hf x hx w hw
def sk(P:ym)(Rel:yp->aE)(ops:aZ)(C0:aE)(Q:lx->Act->Prop)(l:List (Nat×yk))(N:Nat)(E:List (Nat×yl))(Fa:Told):Prop :=
  ∀a F,Fr N E a->Bu Fa F->gO P Rel ops C0 Q l F a
def Uses(o:yk)(Fa:Told)(w:yp):Prop:=∀j p,Ie Fa j=some p->sf .any o j=true->p w
section
variable{P:ym}{Rel:yp->aE}{C0:aE}{Q:bK}{N:Nat}{E:List (Nat×yl)}{w:yp}{id:Nat}{l:aN}
def am2(n:Nat)(fM:∀w w',C0 w->Rel w w'->C0 w')(h0:C0 w.drew)(hn:n<=l.length)(hm:P.follows .mixedOrders=true)(aF:D3 l.toArray n (l.drop n).length=true)
 (h:sk P Rel l.toArray C0 (xC P l.toArray Q C0 (l.drop n)) (idx 0 (l.take n)) N E []):tf P (.region id l.toArray true) Q N E w:=λa ha=>by
 refine wp_region_any hm ?_
 have hL:(l.take n).length=n:=by rw [du];omega
 have hG:yx Rel C0 (λ_ _=>True) w.drew:=⟨λ_ _ _ _ _=>trivial,h0,λ_=>trivial⟩
 have hP:Jj l.toArray n (idx 0 (l.take n)) (bD l.toArray.size false):=by
  refine⟨by simp,λx hx=>?_,λj o hj ho _=>?_,λj _ hj=>by
   have hj':j<l.length:=by simpa using hj
   simp [hj'],aaG _ _,nI.none _⟩
  .obtain⟨_,h2⟩:=Uc hx
   rw [Nat.sub_zero,uq] at h2;split at h2
   .rename_i al;have h3:x.1<l.length:=(eY.1 h2).1;exact⟨by simpa using h2,al,by simp [h3]⟩
   .cases h2
  .have h1:=abX (k:=0) (l:=l.take n) (j:=j) (o:=o) (by rw [uq,if_pos hj];simpa using ho)
   rwa [dI] at h1
 have h2:=ayO (Q:=Q) fM aF (λj _=>by simp) n (idx 0 (l.take n)) _ _ a w.drew (by rw [aaE,hL]) hP hG (λ_ _ _=>trivial) (h a _ ha (λx hx=>by cases hx))
 have e:(l.drop n).length+n=l.toArray.size:=by simp;omega
 rw [e] at h2;exact h2
def am3(n:Nat)(fM:∀w w',C0 w->Rel w w'->C0 w')(h0:C0 w)(h:sk P Rel l.toArray C0 (xC P l.toArray Q C0 (l.drop n)) (idx 0 (l.take n)) N E []):tf P (.region id l.toArray false) Q N E w:=λa ha=>by refine wp_region_lit ?_;have hG:yx Rel C0 (λ_ _=>True) w:=⟨λ_ _ _ _ _=>trivial,h0,λ_=>trivial⟩;have h2:=VG (Q:=Q) fM (idx 0 (l.take n)) _ a w hG (h a _ ha (λx hx=>by cases hx));rw [aaF,oN] at h2;exact h2
end
section
variable{P:ym}{Q:bK}{N:Nat}{E:List (Nat×yl)}{w:yp}{id:Nat}{l:aN}
def c_g(n:Nat)(hn:n<=l.length)(hm:P.follows .mixedOrders=true)(aF:D3 l.toArray n (l.drop n).length=true)
 (h:sk P zQ l.toArray (cA w) (xC P l.toArray Q (cA w) (l.drop n)) (idx 0 (l.take n)) N E []):tf P (.region id l.toArray true) Q N E w:=am2 (Rel:=zQ) (C0:=cA w) n (λ_ _ h k=>cA.step h k) (cA.drew w) hn hm aF h
def am1(n:Nat)(h:sk P zQ l.toArray (cA w) (xC P l.toArray Q (cA w) (l.drop n)) (idx 0 (l.take n)) N E []):tf P (.region id l.toArray false) Q N E w:=am3 (Rel:=zQ) (C0:=cA w) n (λ_ _ h k=>cA.step h k) (cA.refl w) h
end
section
variable{P:ym}{Rel:yp->aE}{ops:aZ}{C0:aE}{Q:lx->Act->Prop}{N:Nat}{E:List (Nat×yl)}{Fa:Told}{o:yk}{rest:List (Nat×yk)}{i k:Nat}
def NI(V:yl->aE)(hg:o.guard=none)(hd:o.dst=some k)(hk:aW k N=true)(hf:mw i Fa=true)(hm:Ct o.op=true)(hp:∀v,Ee Rel (V v))
 (h:∀a,Fr N E a->∀w,C0 w->Uses o Fa w->tY P Rel w V ((execOp a.eval o).run P w))(hn:∀v w,C0 w->V v w->sk P Rel ops C0 Q rest N ((k,v)::E) ((i,V v)::Fa)):sk P Rel ops C0 Q ((i,o)::rest) N E Fa:=λa F ha hF=>by
 unfold gO
 rw [if_pos (by simp [aU,hg])];refine⟨V,hp,.inr hm,λw hw he=>h a ha w hw λj p hj BT=>?_,λv w hw _ hV=>hn v w hw hV _ _ (by dsimp only;rw [hd];exact ha.put hk v) (hF.more hf)⟩;obtain⟨e,h1,h2,rfl⟩:=Nx BT;exact hF _ (O5 hj) w (he e h1 h2)
def yO[hR:MX Rel](hf:mw i Fa=true)(h:jc P ops (λw=>C0 w/\Uses o Fa w) (λa'=>∀F,Bu Fa F->gO P Rel ops C0 Q rest F a') [o] N E):sk P Rel ops C0 Q ((i,o)::rest) N E Fa:=λa F ha hF=>by
 have h1:=h a ha;unfold fQ at h1;unfold gO;split
 .rename_i hw
  rw [if_pos hw] at h1;have aaB:∀w,(∀e∈o.after,dE .any e=true->F e.on w)->Uses o Fa w:=λw he j p hj BT=>by obtain⟨e,h1,h2,rfl⟩:=Nx BT;exact hF _ (O5 hj) w (he e h1 h2)
  have KO:∀(V:yl->Prop) (w:yp) (r:Result Next),tX P w V r->tY P Rel w (λu _=>V u) r:=λV w r hr=>by
   cases r with
   | ok n w' =>
    cases n<;>simp only [tX] at hr<;>simp only [tY]
    case value u=>obtain⟨rfl,h⟩:=hr;exact⟨hR.below _ _ (Below.refl _ _),h⟩
    case skip=>obtain⟨rfl,h⟩:=hr;exact⟨hR.below _ _ (Below.refl _ _),h⟩
    case enter f args =>
     obtain⟨rfl,h⟩:=hr;exact⟨rfl,h.mono λe w'' ⟨v,h1,h2,h3⟩=>⟨v,h1,hR.below _ _ h3,h2⟩⟩
   | halt x w'=>simp only [tX] at hr
  rcases h1 with⟨v,h2,h3⟩|⟨hp,V,h2,h3⟩
  .exact⟨λu _=>u=v,λ_ _ _ h _=>h,.inl ⟨v,λ_ _ h=>h⟩,λw hw he=>KO (· = v) _ _ (h2 w ⟨hw,aaB w he⟩),λu w _ _ hu=>by rw [hu];exact h3 _ (hF.up hf)⟩
  .refine⟨λu _=>V u,λ_ _ _ h _=>h,.inr ?_,λw hw he=>KO V _ _ (h2 w ⟨hw,aaB w he⟩),λu w _ _ hu=>h3 u hu _ (hF.up hf)⟩;unfold Ct;split<;>first|rfl|exact hp
 .rename_i hw;rw [if_neg hw] at h1;exact h1 _ (hF.up hf)
def yN(h:sk P Rel ops C0 Q rest N E Fa):jc P ops (λw=>C0 w/\Uses o Fa w) (λa'=>∀F,Bu Fa F->gO P Rel ops C0 Q rest F a') [] N E:=λa ha=>Gm λF hF=>h a F ha hF
def NH{Q:bK}{T:aN}(h:∀w,C0 w->(∀j p,Ie Fa j=some p->p w)->jo P ops Q T N E w):sk P Rel ops C0 (xC P ops Q C0 T) [] N E Fa:=λa _ ha hF w hw hFw =>
 h w hw (λj _ hj=>hF _ (O5 hj) w (hFw j)) a ha
end
def av(l:aC):cU:=l.map λx:Nat=>.int .u64 (x:Int)
def nM(l:aC):(av l).length=l.length:=by simp [av]
def Bv(l:aC):∀u∈av l,u.oneCell'=true:=by intro u hu;obtain⟨x,_,rfl⟩:=dv.1 hu;rfl
def xo{l:aC}{j:Nat}(h:j<l.length):(av l).toArray[j]?=some (.int .u64 (l[j]! : Nat)):=by simp [av,h]
def RE(l:aC)(k x:Nat):(av l).toArray.setIfInBounds k (.int .u64 (x:Int))=(av (l.set k x)).toArray:=by simp [av,oW]
def Il(a:Nat)(ha:a<18446744073709551616):bits .and .u64 (a:Int) 2251799813685247=((a%2251799813685248:Nat):Int):=by have h:=u64_and_nat a 2251799813685247 ha (by omega);have e:a &&& 2251799813685247=a%2251799813685248:=KT a 51;rw [e] at h;exact h
def PO(i x y:Nat)(hx:x%2^i=0)(hy:y<2^i)(h1:x<18446744073709551616)(h2:y<18446744073709551616):bits .or .u64 (x:Int) (y:Int)=((x+y:Nat):Int):=by rw [u64_or_nat x y h1 h2,nat_join i x y hx hy]
def Pb(a:Nat)(ha:a<18446744073709551616):bits .and .u64 (a:Int) 4294967295=((a%4294967296:Nat):Int):=by have h:=u64_and_nat a 4294967295 ha (by omega);have e:a &&& 4294967295=a%4294967296:=KT a 32;rw [e] at h;exact h
def Yg(a:Nat):(a:Int)/4294967296=((a/4294967296:Nat):Int):=by omega
def an5(a:Nat):(a:Int)/2251799813685248=((a/2251799813685248:Nat):Int):=by omega
def auQ(a b:Nat):(a:Int)*(b:Int)=((a*b:Nat):Int):=(Int.natCast_mul a b).symm
def akK(a b:Nat):(a:Int)+(b:Int)=((a+b:Nat):Int):=(Int.natCast_add a b).symm
def mU(a:Nat)(ha:a<18446744073709551616):IntKind.u64.wrap (a:Int)=(a:Int):=by rw [Go.IntKind.wrap_u64];omega
def aiU(a:Nat):IntKind.u64.wrap (a:Int)=((a%18446744073709551616:Nat):Int):=by rw [Go.IntKind.wrap_u64];omega
def agZ:ct->Sem yl:=λargs=>do
  let (x,y,b) <-Extern.MathBitsCarry.three "Sub64" args
  pure (Extern.MathBitsCarry.pair ((x+oR-y-b)%oR) (if x<y+b then 1 else 0))
def aAJ{P:ym}(x y b:Nat)(hb:b<=1)(w:yp) :
  (agZ #[.int .u64 x,.int .u64 y,.int .u64 b]).run P w =
   .ok (.tuple #[.int .u64 (((x+18446744073709551616-y-b)%18446744073709551616:Nat):Int),.int .u64 ((if x<y+b then 1 else 0:Nat):Int)]) w:=by
 have:b=0\/b=1:=by omega
 rcases this with rfl|rfl<;>rfl
def ku(l:ae)(n:Nat):ae:=(dV 32).map λm=>if m<n then l[m]! else 0
def JP(l:ae)(n:Nat):(ku l n).length=32:=by simp [ku]
def So(l:ae):ku l 0=aB 32 0:=by apply qv (by simp [ku]);intro i h1 h2;rw [List.getElem_replicate];simp [ku]
def Sm{l:ae}(h:l.length=32):ku l 32=l:=by
 apply qv (by simp [ku,h]);intro i h1 h2;have h3:i<32:=by simpa [ku] using h1
 simp [ku,h3,h2]
def Sn(l:ae){n:Nat}:(ku l n).set n l[n]! = ku l (n+1):=by
 apply qv (by simp [ku]);intro j h1 h2;rw [List.getElem_set];simp only [ku,List.getElem_map,List.getElem_range];by_cases iT:n=j
 .subst iT;simp
 .rw [if_neg iT]
  by_cases al:j<n
  .rw [if_pos al,if_pos (by omega)]
  .rw [if_neg al,if_neg (by omega)]
def wd(L k:Nat):Nat:=L/18446744073709551616^k%18446744073709551616
def aiK(L k j:Nat)(hj:j<8):wd L k/2^(8*j)%256=L/256^(8*k+j)%256:=by
 have e1:(256:Nat)^(8*k+j)=18446744073709551616^k*256^j:=by rw [Nat.pow_add,AK]
 have e2:(2:Nat)^(8*j)=256^j:=by rw [AK]
 rw [e1,e2,<-Nat.div_div_eq_div_mul];unfold wd;generalize L/18446744073709551616^k=z;have h8:j=0\/j=1\/j=2\/j=3\/j=4\/j=5\/j=6\/j=7:=by omega
 rcases h8 with rfl|rfl|rfl|rfl|rfl|rfl|rfl|rfl<;>simp only [Nat.reducePow]<;>omega
structure akA(w:yp)(g:Nat)(l:cU):Prop where
  lt:g<w.heap.size
  cell:∀j v,l[j]?=some v->w.cell? ⟨g,j,none⟩=some v
  free:∀j,j<l.length->w.frozen? ⟨g,j,none⟩=false
def By_at?{l:ae}{j:Nat}(h:j<l.length):(By l)[j]?=some (.int .u8 ((l[j]!).toNat:Int)):=by have h1:=ub h;simpa using h1
def ao6{P:ym}{ops:aZ}{Q:bK}{T:aN}{N:Nat}{E:List (Nat×yl)}{w:yp}(h:∀w',cA w w'->jo P ops Q T N E w') :
  jc P ops (cA w) (λa'=>∀w',cA w w'->wpList P ops Q T a' w') [] N E:=λa ha=>Gm λw' hw'=>h w' hw' a ha
section
variable{P:ym}{ops:aZ}{Q:bK}{N:Nat}{E:List (Nat×yl)}{w:yp}{o:yk}{rest:aN}{k:Nat}
def OW(h:HT (Q .normal) N E w):jo P ops Q [] N E w:=λa ha=>D9 (h a ha)
def Ia{w':yp}(v:yl)(hg:o.guard=none)(hd:o.dst=some k)(hk:aW k N=true)(h:∀a,Fr N E a->(execOp a.eval o).run P w = .ok (.value v) w')(hn:jo P ops Q rest N ((k,v)::E) w'):jo P ops Q (o::rest) N E w:=λa ha=>by have h1:=h a ha;have h2:=hn _ (ha.put hk v);unfold wpList;rw [if_pos (by simp [aU,hg])];refine .inl ?_;unfold fW;rw [h1];simp only [fE,hd];exact h2
def aaZ{x:yo}(v:yl)(hq:di o k N)(ho:o.op = .move x)(hx:dy E x=some v)(hn:jo P ops Q rest N ((k,v)::E) w):jo P ops Q (o::rest) N E w :=
 Ia v (eB hq) (eC hq) (dQ hq) (λa ha=>by have h1:=ha.eval hx;unfold execOp;simp only [ho,h1,bM]) hn
def aaW{x:yo}(v:yl)(hq:di o k N)(ho:o.op = .assign x)(hx:dy E x=some v)(hn:jo P ops Q rest N ((k,v)::E) w):jo P ops Q (o::rest) N E w :=
 Ia v (eB hq) (eC hq) (dQ hq) (λa ha=>by have h1:=ha.eval hx;unfold execOp;simp only [ho,h1,bM]) hn
end
structure wa where
  t:Nat
  ty:yn
  zs:ct
abbrev lV:=List wa
section
variable{P:ym}{N:Nat}
def US(P:ym)(N:Nat)(o:yk)(v:wa):Prop:=o.guard=none/\o.dst=some v.t/\aW v.t N=true/\o.op = .alloc v.ty/\(P.info? v.ty).bind (λi=>i.zero.map (·.cells))=some v.zs
def Iq(P:ym)(N:Nat):aN->lV->Prop
  | _,[]=>True
  | [],_::_=>False
  | o::l,v::vs=>US P N o v/\Iq P N l vs
theorem acI:∀{l:aN} {vs:lV},Iq P N l vs->∀(j:Nat) (v:wa),vs[j]?=some v->∃o:yk,l[j]?=some o/\US P N o v
 | _,[],_,j,v,ab=>by simp at ab
 | [],_::_,h,_,_,_=>h.elim
 | o::l,v0::vs,h,0,v,ab=>by simp only [bV,iv] at ab;subst ab;exact⟨o,rfl,h.1⟩
 | o::l,v0::vs,h,j+1,v,ab=>by simp only [PZ] at ab;obtain⟨o',h1,h2⟩:=acI h.2 j v ab;exact⟨o',by simpa using h1,h2⟩
end
def rP:lV->Nat->aK->List (Nat×yl)->List (Nat×yl)
  | [],_,_,E=>E
  | v::vs,j,gs,E=>(v.t,.pointer (some ⟨gs j,0,none⟩))::rP vs (j+1) gs E
def nh(E:List (Nat×yl)):lV->Prop
  | []=>True
  | v::vs=>look E v.t=none/\nh E vs
theorem Sl{E:List (Nat×yl)}:∀{vs:lV},nh E vs->∀(j:Nat) (v:wa),vs[j]?=some v->look E v.t=none
 | [],_,j,v,ab=>by simp at ab
 | v0::vs,h,0,v,ab=>by simp only [bV,iv] at ab;subst ab;exact h.1
 | v0::vs,h,j+1,v,ab=>Sl h.2 j v (by simpa using ab)
section
variable{N:Nat}{E:List (Nat×yl)}{a:Act}
def Fr.Vo(h:Fr N E a){k:Nat}(hk:look E k=none)(v:yl):Fr N E (a.put (some k) v):=by
 refine⟨by simp [nO,h.size],h.defers,λj u hj=>?_⟩;have e:k≠j:=by rintro rfl;rw [hk] at hj;cases hj
 have h1:=h.get j u hj;simp only [nO,pK,wv] at h1 ⊢;rw [kK (by omega)];exact h1
def Fr.more(h:Fr N E a){k:Nat}{v:yl}(ab:a.eval (.tmp k)=v):Fr N ((k,v)::E) a:=by
 refine⟨h.size,h.defers,λj u hj=>?_⟩;rw [uK] at hj;by_cases e:k=j
 .subst e;rw [if_pos rfl] at hj;cases hj;exact ab
 .rw [if_neg e] at hj;exact h.get j u hj
def NB(h:Fr N E a){k:Nat}(hk:aW k N=true)(v:yl):(a.put (some k) v).eval (.tmp k)=v:=(h.put hk v).get k v (by rw [uK,if_pos rfl])
def anY{k j:Nat}(hk:k≠j)(v:yl):(a.put (some k) v).eval (.tmp j)=a.eval (.tmp j):=by simp only [nO,pK,wv];rw [kK (by omega)]
theorem Fr.rP(h:Fr N E a)(gs:aK):∀(vs:lV) (j0:Nat),(∀(j:Nat) (v:wa),vs[j]?=some v->a.eval (.tmp v.t) = .pointer (some ⟨gs (j0+j),0,none⟩))->Fr N (rP vs j0 gs E) a
 | [],_,_=>h
 | v::vs,j0,ab=>by
  refine Fr.more (Fr.rP h gs vs (j0+1) λj u hu=>?_) (ab 0 v rfl);have:=ab (j+1) u (by simpa using hu)
  rwa [<-kZ,eH] at this
end
def FJ(ops:aZ)(n:Nat)(lend:et):Nat->aC->et->Bool
  | 0,_,listed=>decide (listed=lend)
  | f+1,rem,listed=>decide (bC .any ops listed=rem.map (n + ·))&&rem.all λj=>FJ ops n lend f (rem.erase j) (listed.setIfInBounds (n+j) true)
def vO:lV->Bool
  | []=>true
  | v::vs=>(vs.all λu=>!(v.t==u.t))&&vO vs
theorem Wo:∀{vs:lV},vO vs=true->∀(i j:Nat) (vi vj:wa),i<j->vs[i]?=some vi->vs[j]?=some vj->vi.t≠vj.t
 | [],_,i,j,vi,vj,_,hi,_=>by simp at hi
 | v::vs,h,0,j+1,vi,vj,_,hi,hj=>by simp only [vO,dJ,pS] at h;simp only [bV,iv,PZ] at hi hj;subst hi;have:=h.1 vj (eg hj);simpa using this
 | v::vs,h,i+1,j+1,vi,vj,uA,hi,hj=>by simp only [vO,dJ] at h;exact Wo h.2 i j vi vj (by omega) (by simpa using hi) (by simpa using hj)
def ahD{vs:lV}(h:vO vs=true){i j:Nat}{vi vj:wa}(uA:i≠j)(hi:vs[i]?=some vi)(hj:vs[j]?=some vj):vi.t≠vj.t:=by
 rcases Nat.lt_or_gt_of_ne uA with h1|h1
 .exact Wo h i j vi vj h1 hi hj
 .exact(Wo h j i vj vi h1 hj hi).symm
section
variable{P:ym}{Q:bK}{N:Nat}{E:List (Nat×yl)}{w:yp}
def auY(P:ym)(ops:aZ)(Q:bK)(w:yp)(vs:lV)(T:aN)(N:Nat)(E:List (Nat×yl)):Prop :=
  ∀gs w',(∀j,j<vs.length->w.heap.size<=gs j)->(∀i j,i<vs.length->j<vs.length->i≠j->gs i≠gs j)->cA w w'->(∀(j:Nat) (v:wa),vs[j]?=some v->bB w' (gs j) v.ty v.zs)->jo P ops Q T N (rP vs 0 gs E) w'
def DL(P:ym)(ops:aZ)(Q:bK)(w:yp)(vs:lV)(T:aN)(N:Nat)(a':Act):Prop :=
  ∃E',Fr N E' a'/\nh E' vs/\auY P ops Q w vs T N E'
theorem ac9{ops:aZ}{n m M:Nat}{lend:et}(vs:lV)(iC:vO vs=true)(Hp:∀j v,vs[j]?=some v->∃o,ops[n+j]?=some o/\US P N o v)(hE:nh E vs)
 (fin:∀gs w0 a,cA w w0->Fr N (rP vs 0 gs E) a->(∀j,j<vs.length->w.heap.size<=gs j)->(∀i j,i<vs.length->j<vs.length->i≠j->gs i≠gs j)->(∀(j:Nat) (v:wa),vs[j]?=some v->bB w0 (gs j) v.ty v.zs) ->
   tZ P .any ops (cA w) Q M m 0 w0 lend a) :
  ∀(f:Nat) (rem:aC) (listed:et) (w0:yp) (a:Act) (gs:aK),FJ ops n lend f rem listed=true->rem.Nodup->f=rem.length->(∀j∈rem,j<vs.length)->cA w w0->Fr N E a ->
   (∀(j:Nat) (v:wa),j∉rem->vs[j]?=some v->w.heap.size<=gs j/\bB w0 (gs j) v.ty v.zs/\a.eval (.tmp v.t) = .pointer (some ⟨gs j,0,none⟩)) ->
   (∀i j,i<vs.length->j<vs.length->i∉rem->j∉rem->i≠j->gs i≠gs j)->tZ P .any ops (cA w) Q M m f w0 listed a
 | 0,rem,listed,w0,a,gs,hc,_,hf,_,hU,hF,hd,hg=>by
  obtain rfl:rem=[]:=lB hf.symm;simp only [FJ,decide_eq_true_eq] at hc;subst hc;refine fin gs w0 a hU (hF.rP gs vs 0 λj v ab=>?_) (λj hj=>?_) (λi j hi hj uA=>hg i j hi hj (by simp) (by simp) uA) (λj v ab=>(hd j v (by simp) ab).2.1)
  .rw [dI];exact(hd j v (by simp) ab).2.2
  .exact(hd j vs[j] (by simp) (da hj)).1
 | f+1,rem,listed,w0,a,gs,hc,xQ,hf,al,hU,hF,hd,hg=>by
  simp only [FJ,dJ,decide_eq_true_eq,pS] at hc;obtain⟨hr,hc⟩:=hc;refine⟨?_,λi hi=>?_⟩
  .rw [hr]
   cases rem with
   | nil=>cases hf
   | cons j rem=>exact List.cons_ne_nil _ _
  .rw [hr] at hi
   obtain⟨j,hj,rfl⟩:=dv.1 hi;have uB:=al j hj;have ab:vs[j]?=some vs[j]:=da uB;generalize vs[j]=v at ab;obtain⟨o,ho,kN,Tf,hb,As,hz⟩:=Hp j v ab;refine aiP (base:=w.heap.size) ho kN (GQ As hz) (λ_ _ h k=>h.step k) (λ_ h=>h.size) hU λw1 fy BP hp=>?_;rw [Tf];have N4:=Sl hE j v ab;have l7:=(Below.refl w1.heap.size w1).alloc (aQ _) (.cells v.zs v.ty);have sq:∀i,i∉rem.erase j->i=j\/i∉rem:=λi hi=>by
    by_cases e:i=j
    .exact .inl e
    .exact .inr λhm=>hi ((List.mem_erase_of_ne e).2 hm)
   refine ac9 vs iC Hp hE fin f (rem.erase j) _ _ _ (λi=>if i=j then w1.heap.size else gs i) (hc j hj) (xQ.erase j) (by rw [List.length_erase_of_mem hj];omega) (λi hi=>al i (List.mem_of_mem_erase hi)) (BP.step l7) (hF.Vo N4 _) ?_ ?_
   .intro i u hi hu
    by_cases e:i=j
    .subst e;obtain rfl:u=v:=jm (hu.symm.trans ab);rw [if_pos rfl];exact⟨hp,bB.new w1 _ _,NB hF hb _⟩
    .rw [if_neg e];obtain⟨h1,h2,h3⟩:=hd i u ((sq i hi).resolve_left e) hu;exact⟨h1,(h2.later fy).later l7,by rw [anY (ahD iC (Ne.symm e) ab hu)];exact h3⟩
   .intro i k hi hk N8 ZZ Kt
    have Z6:∀i,i<vs.length->i∉rem->gs i<w1.heap.size:=λi hi N8=>((hd i vs[i] N8 (da hi)).2.1.later fy).lt;by_cases e:i=j
    .rw [if_pos e,if_neg (λh=>Kt (e.trans h.symm))];have:=Z6 k hk ((sq k ZZ).resolve_left (λh=>Kt (e.trans h.symm)));omega
    .rw [if_neg e]
     by_cases e2:k=j
     .rw [if_pos e2];have:=Z6 i hi ((sq i N8).resolve_left e);omega
     .rw [if_neg e2];exact hg i k hi hk ((sq i N8).resolve_left e) ((sq k ZZ).resolve_left e2) Kt
def XO{id:Nat}{l:aN}(n:Nat)(vs:lV)(hn:n+vs.length<=l.length)(iC:vO vs=true)(Hp:Iq P N (l.drop n) vs)(hm:P.follows .mixedOrders=true)
 (aF:Bj l.toArray n vs.length (l.drop (n+vs.length)).length=true)
 (hC:FJ l.toArray n (marks vs.length n (marks n 0 (bD l.toArray.size false))) vs.length (dV vs.length) (marks n 0 (bD l.toArray.size false))=true)
 (hQ:∀c a d v w,Q (.panic c) (a.put d v) w->Q (.panic c) a w)
 (h:jc P l.toArray (cA w) (DL P l.toArray Q w vs (l.drop (n+vs.length)) N) (l.take n) N E):tf P (.region id l.toArray true) Q N E w:=λa ha=>by
 simp only [Bj,dJ,decide_eq_true_eq] at aF;obtain⟨⟨⟨⟨hs,hh⟩,hz⟩,EZ⟩,hf⟩:=aF
 have hL:(l.take n).length=n:=by rw [du];omega
 refine wp_region_any hm ?_
 have hT:∀j,j<(l.drop (n+vs.length)).length->(l.drop (n+vs.length))[j]?=l.toArray[vs.length+n+j]?:=λj _=>by simp only [Fg,List.getElem?_toArray];congr 1;omega
 have hG:tZ P .any l.toArray (cA w) Q (vs.length+n) (l.drop (n+vs.length)).length (vs.length+(l.take n).length) w.drew (bD l.toArray.size false) a:=by
  refine Rg (λ_ _ h k=>h.step k) hs hQ vs.length w.drew (cA.drew w) (l.take n) 0 _ a (nI.none _) (by omega) (λj hj=>?_) (by rw [hL];exact hh) ?_
  .rw [hL] at hj;simp [hj]
  rw [hL];refine MH (λa' h'=>?_) _ a (h a ha);obtain⟨E',hF,hE,hk⟩:=h';refine ac9 (E:=E') (w:=w) vs iC (λj v ab=>?_) hE (λgs w0 a hU hF hb hd aF=>⟨λj hj i hi=>?_,λw' hw'=>?_⟩) vs.length (dV vs.length) _ w.drew a' (λ_=>0) hC List.nodup_range (by simp) (λj hj=>by simpa using hj) (cA.drew w) hF ?_ ?_
  .obtain⟨o,h1,h2⟩:=acI Hp j v ab;exact⟨o,by simpa using h1,h2⟩
  .have h1:=pS.1 EZ j hj;exact pS.1 h1 i (iW.2 hi)
  .exact I3 _ (vs.length+n) _ _ w' hT hf (hk gs w' hb hd (hU.step hw') (λj v ab=>(aF j v ab).later hw') a hF)
  .intro j v hj ab;exact absurd (iW.2 (eY.1 ab).1) hj
  .intro i j hi hj h1;exact absurd (iW.2 hi) h1
 have h2:=Rh (vs.length+(l.take n).length) _ a w.drew hG;rw [hL] at h2
 have e:l.toArray.size=(l.drop (n+vs.length)).length+(vs.length+n):=by rw [hz,kZ]
 rw [<-e] at h2;exact h2
def Mp:lV->List yo->aN->aN->Prop
  | [],[],T,T'=>T=T'
  | v::vs,x::xs,o::T,T'=>(o.guard=none/\o.dst=none/\o.op = .store v.ty (.tmp v.t) x)/\Mp vs xs T T'
  | _,_,_,_=>False
def Gj(P:ym)(E:List (Nat×yl)):lV->List yo->List ct->Prop
  | [],[],[]=>True
  | v::vs,x::xs,c::cs=>(dy E x=some (.agg c)/\v.zs.size=c.size/\(P.info? v.ty).map (·.size)=some c.size/\∀u∈c.toList,u.oneCell'=true)/\Gj P E vs xs cs
  | _,_,_=>False
def Jv(w:yp):lV->List ct->Nat->aK->Prop
  | v::vs,c::cs,j,gs=>bB w (gs j) v.ty c/\Jv w vs cs (j+1) gs
  | _,_,_,_=>True
theorem ab2{ops:aZ}{T':aN}{W:yp}{gs:aK}:∀(vs:lV) (xs:List yo) (cs:List ct) (T:aN) (j0:Nat) (w:yp),Mp vs xs T T'->Gj P E vs xs cs ->
  (∀(j:Nat) (v:wa),vs[j]?=some v->look E v.t=some (.pointer (some ⟨gs (j0+j),0,none⟩)))->(∀j,j<vs.length->W.heap.size<=gs (j0+j))->(∀i j,i<vs.length->j<vs.length->i≠j->gs (j0+i)≠gs (j0+j))->cA W w->(∀(j:Nat) (v:wa),vs[j]?=some v->bB w (gs (j0+j)) v.ty v.zs) ->
  (∀w',cA W w'->(∀g t c,(∀j,j<vs.length->gs (j0+j)≠g)->bB w g t c->bB w' g t c)->Jv w' vs cs j0 gs->jo P ops Q T' N E w')->jo P ops Q T N E w
 | [],xs,cs,T,j0,w,aa,ab,_,_,_,hU,_,h=>by
  cases xs with
  | cons=>exact aa.elim
  | nil =>
   obtain rfl:T=T':=aa;exact h w hU (λ_ _ _ _ h=>h) (by unfold Jv;trivial)
 | v::vs,xs,cs,T,j0,w,aa,ab,hl,cW,hd,hU,aF,h=>by
  cases xs with
  | nil=>exact aa.elim
  | cons x xs =>
   cases T with
   | nil=>exact aa.elim
   | cons o T =>
    cases cs with
    | nil=>exact ab.elim
    | cons c cs =>
     obtain⟨⟨kN,Tf,As⟩,aa⟩:=aa;obtain⟨⟨hx,hz,hi,ho⟩,ab⟩:=ab
     intro a ha
     have h0:=aF 0 v rfl
     have BS:∀j,j<vs.length->gs (j0+1+j)≠gs j0:=λj hj=>by
      have:=hd (j+1) 0 (by simpa using hj) (by simp) (by omega)
      rwa [<-kZ,eH,jP] at this
     rw [jP] at h0;refine wpList_store_row kN v.ty (.tmp v.t) x As (gs j0) (ha.get _ _ (hl 0 v rfl)) c (ha.eval hx) v.ty v.zs h0 hi hz ho ?_;rw [Tf];refine ab2 (gs:=gs) (W:=W) vs xs cs T (j0+1) (w.setRow (gs j0) c) aa ab (λj u hu=>?_) (λj hj=>?_) (λi j hi hj uA=>?_) (Ww hU (cW 0 (by simp)) _) (λj u hu=>?_) (λw' hU' hK hb=>?_) a ha
     .have:=hl (j+1) u (by simpa using hu)
      rwa [<-kZ,eH] at this
     .have:=cW (j+1) (by simpa using hj)
      rwa [<-kZ,eH] at this
     .have:=hd (i+1) (j+1) (by simpa using hi) (by simpa using hj) (by omega)
      rwa [<-kZ,<-kZ,eH,eH j0 j 1] at this
     .have:=aF (j+1) u (by simpa using hu);rw [<-kZ,eH] at this;exact this.Qv (BS j (eY.1 hu).1) _
     .refine h w' hU' (λg t c' hg hb'=>hK g t c' (λj hj=>?_) (hb'.Qv (Ne.symm (by have:=hg 0 (by simp);rwa [jP] at this)) _)) ⟨hK _ _ _ BS (h0.row _),hb⟩
      have:=hg (j+1) (by simpa using hj)
      rwa [<-kZ,eH] at this
theorem abJ{gs:aK}{E:List (Nat×yl)}{k:Nat}:∀(vs:lV) (j0:Nat),(∀v∈vs,v.t≠k)->look (rP vs j0 gs E) k=look E k
 | [],_,_=>rfl
 | v::vs,j0,h=>by rw [rP,uK,if_neg (h v (by simp))];exact abJ vs (j0+1) λu hu=>h u (by simp [hu])
theorem abI{gs:aK}{E:List (Nat×yl)}:∀(vs:lV) (j0:Nat),vO vs=true->∀(j:Nat) (v:wa),vs[j]?=some v->look (rP vs j0 gs E) v.t=some (.pointer (some ⟨gs (j0+j),0,none⟩))
 | [],_,_,_,_,ab=>by simp at ab
 | v0::vs,j0,iC,0,v,ab=>by simp only [bV,iv] at ab;subst ab;rw [rP,uK,if_pos rfl,jP]
 | v0::vs,j0,iC,j+1,v,ab=>by have b8:v0.t≠v.t:=ahD iC (i:=0) (j:=j+1) (by omega) rfl ab;simp only [vO,dJ] at iC;rw [rP,uK,if_neg b8,abI vs (j0+1) iC.2 j v (by simpa using ab),<-kZ,eH]
theorem anX{gs:aK}{E:List (Nat×yl)}{vs:lV}(hE:nh E vs){x:yo}{v:yl}(hx:dy E x=some v):dy (rP vs 0 gs E) x=some v:=by
 cases x with
 | tmp t =>
  show look (rP vs 0 gs E) t=some v
  rw [abJ vs 0 λu hu=>?_]
  .exact hx
  .rintro rfl;obtain⟨j,hj⟩:=List.getElem?_of_mem hu;have h1:=Sl hE j u hj;have h2:look E u.t=some v:=hx;rw [h1] at h2;cases h2
 | const u=>exact hx
 | global g=>exact hx
 | func f=>exact hx
theorem ai1{gs:aK}{E:List (Nat×yl)}{ws:lV}(hE:nh E ws):∀(vs:lV) (xs:List yo) (cs:List ct),Gj P E vs xs cs->Gj P (rP ws 0 gs E) vs xs cs
 | [],[],[],_=>trivial
 | _::vs,_::xs,_::cs,h=>⟨⟨anX hE h.1.1,h.1.2⟩,ai1 hE vs xs cs h.2⟩
 | [],[],_::_,h=>h.elim
 | [],_::_,_,h=>h.elim
 | _::_,[],_,h=>h.elim
 | _::_,_::_,[],h=>h.elim
def ao3{ops:aZ}{vs:lV}{T T':aN}(xs:List yo)(cs:List ct)(hE:nh E vs)(iC:vO vs=true)(aa:Mp vs xs T T')(ab:Gj P E vs xs cs)
 (h:∀gs w',(∀j,j<vs.length->w.heap.size<=gs j)->(∀i j,i<vs.length->j<vs.length->i≠j->gs i≠gs j)->cA w w'->Jv w' vs cs 0 gs->jo P ops Q T' N (rP vs 0 gs E) w') :
  jc P ops (cA w) (DL P ops Q w vs T N) [] N E:=λa ha=>Gm ⟨E,ha,hE,λgs w' cW hd hU aF=>by
 refine ab2 (W:=w) (gs:=gs) vs xs cs T 0 w' aa (ai1 hE _ _ _ ab) (λj v ab=>abI vs 0 iC j v ab) (by simpa using cW) (by simpa using hd) hU (by simpa using aF) λw2 hU2 _ hb=>?_
 exact h gs w2 cW hd hU2 hb⟩
end
section
variable{N:Nat}{E:List (Nat×yl)}{a:Act}
theorem Fr.Af(ha:Fr N E a):∀(l:List yo) (m:cU),l.map (dy E)=m.map some->l.map a.eval=m
 | [],[],_=>rfl
 | [],_::_,h=>by cases h
 | _::_,[],h=>by cases h
 | y::l,u::m,h=>by simp only [eZ,BM] at h ⊢;exact⟨ha.eval h.1,Fr.Af ha l m h.2⟩
theorem Fr.parts(ha:Fr N E a):∀(l:List (Nat×yo)) (m:List (Nat×yl)),l.map (λp=>(p.1,dy E p.2))=m.map (λp=>(p.1,some p.2))->(l.map λ(i,x)=>(i,a.eval x))=m
 | [],[],_=>rfl
 | [],_::_,h=>by cases h
 | _::_,[],h=>by cases h
 | y::l,u::m,h=>by simp only [eZ,BM,nS] at h ⊢;refine⟨?_,Fr.parts ha l m h.2⟩;rw [ha.eval h.1.2,h.1.1]
end
section
variable{P:ym}{ops:aZ}{C0:aE}{Q:Act->Prop}{N:Nat}{E:List (Nat×yl)}{o:yk}{rest:aN}{k:Nat}
def C3{t:yn}{parts:Array (Nat×yo)}(vs:List (Nat×yl))(cells:ct)(hq:di o k N)(ho:o.op = .build t parts)
 (ab:parts.toList.map (λp=>(p.1,dy E p.2))=vs.map (λp=>(p.1,some p.2)))(hb:P.built t vs=some cells)(hn:jc P ops C0 Q rest N ((k,.agg cells)::E)):jc P ops C0 Q (o::rest) N E :=
 yL _ (eB hq) (eC hq) (dQ hq) (λa ha w _=>by have h1:=ha.parts _ _ ab;unfold execOp;simp only [ho,bI,run_build w t _ cells (by rw [Fp,h1];exact hb),bS,bM]) hn
def JO{t t':yn}{x y:yo}{q:Bool}(xs ys:ct)(hq:di o k N)(ho:o.op = .binOp .eql t x y t')(hx:dy E x=some (.agg xs))(hy:dy E y=some (.agg ys))
 (ht:P.eqGuardType P.depth t=false)(he:∀w,(cO 10000 t (.agg xs) (.agg ys)).run P w = .ok q w)(hn:jc P ops C0 Q rest N ((k,.bool q)::E)):jc P ops C0 Q (o::rest) N E :=
 yL _ (eB hq) (eC hq) (dQ hq) (λa ha w _=>by have h1:=ha.eval hx;have h2:=ha.eval hy;unfold execOp;simp only [ho,h1,h2,bI,run_eqGuard_agg (hm:=ht),bS,binOp,Op.equal,Op.maxDepth,he,bM]) hn
end
section
variable{ops:aZ}{C0:aE}{Q:Act->Prop}{N:Nat}{E:List (Nat×yl)}{o:yk}{rest:aN}{k:Nat}
def ao1{f:yi}{xs:na}{ats:mX}(args:ct)(V:yl->Prop)(hq:di o k N)
 (hf:Own f)(hc:∀w,C0 w->Calls prog f args w (λe w'=>∃v,e = .returned v/\V v/\Below w.heap.size w w'))
 (ho:o.op = .call { callee:=.value (.func f),args:=xs,argTypes:=ats })(hx:xs.toList.map (dy E)=args.toList.map some)(hn:∀v,V v->jc prog ops C0 Q rest N ((k,v)::E)):jc prog ops C0 Q (o::rest) N E:=λa ha=>by
 refine al2 (f:=f) (args:=args) V (by simp [aU,(eB hq)]) hf hc ho (ha.Af _ _ hx) λv ab=>?_;rw [(eC hq)];exact hn v ab _ (ha.put (dQ hq) v)
end
section
variable{P:ym}{ops:aZ}{Q:bK}{N:Nat}{E:List (Nat×yl)}{w:yp}{o:yk}{rest:aN}{k:Nat}
def asP{ty:yn}{zs:ct}(hq:di o k N)(ho:o.op = .alloc ty)(hz:(P.info? ty).bind (λi=>i.zero.map (·.cells))=some zs)
 (hn:jo P ops Q rest N ((k,.pointer (some ⟨w.heap.size,0,none⟩))::E) (w.alloc (.cells zs ty))):jo P ops Q (o::rest) N E w :=
 Ia _ (eB hq) (eC hq) (dQ hq) (λ_ _=>GQ ho hz _ w) hn
def asQ{ty:yn}(zs:ct)(hq:di o k N)(ho:o.op = .alloc ty)(hz:(P.info? ty).bind (λi=>i.zero.map (·.cells))=some zs)
 (hn:∀W g,cA w W->g=w.heap.size->bB W g ty zs->jo P ops Q rest N ((k,.pointer (some ⟨g,0,none⟩))::E) W):jo P ops Q (o::rest) N E w :=
 asP hq ho hz (hn _ _ ((cA.refl w).alloc _) rfl (bB.new w _ _))
def atC{ty t:yn}{p x:yo}(g:Nat)(eS cells:ct)(hg:o.guard=none)(hd:o.dst=none)(ho:o.op = .store ty p x)(hp:dy E p=some (eE g))(hx:dy E x=some (.agg cells))
 (hb:bB w g t eS)(hi:(P.info? ty).map (·.size)=some cells.size)(hz:eS.size=cells.size)(h1:∀v∈cells.toList,v.oneCell'=true)(hn:jo P ops Q rest N E (w.setRow g cells)):jo P ops Q (o::rest) N E w:=λa ha=>by
 refine wpList_store_row hg ty p x ho g (ha.eval hp) cells (ha.eval hx) t eS hb hi hz h1 ?_;rw [hd];exact hn a ha
end
def gv(a b:Nat)(h:a+b<9223372036854775808):IntKind.i64.wrap ((a:Int)+(b:Int))=((a+b:Nat):Int):=by rw [i64_left,wrap64_in _ (by omega)];omega
def rU(a b:Nat)(h:b<=a)(h2:a<9223372036854775808):IntKind.i64.wrap ((a:Int)-(b:Int))=((a-b:Nat):Int):=by rw [i64_left,wrap64_in _ (by omega)];omega
def ao4{P:ym}{ops:aZ}{Q:bK}{N:Nat}{E:List (Nat×yl)}{w:yp}{o:yk}{rest:aN}{ty t:yn}{p x:yo}(g:Nat)(eS cells:ct)(hg:o.guard=none)(hd:o.dst=none)(ho:o.op = .store ty p x)(hp:dy E p=some (eE g))(hx:dy E x=some (.agg cells))
 (hb:bB w g t eS)(hi:(P.info? ty).map (·.size)=some cells.size)(hz:eS.size=cells.size)(h1:∀v∈cells.toList,v.oneCell'=true)(hn:∀w',cA w w'->bB (w'.setRow g cells) g t cells->jo P ops Q rest N E (w'.setRow g cells)) :
  jc P ops (cA w) (λa'=>∀w',cA w w'->wpList P ops Q (o::rest) a' w') [] N E :=
 ao6 λw' hw'=>atC g eS cells hg hd ho hp hx (hw'.z7 hb) hi hz h1 (hn w' hw' ((hw'.z7 hb).row _))
def rp(w:yp)(base e:Nat)(A:aO)(c:Nat)(xs:cU):Prop:=w.ownsRow base e 1 (.slice A xs.length c) xs.length xs
section
variable{w w':yp}{base e c:Nat}{A:aO}{xs:cU}
def rp.cut(h:rp w base e A c xs):(A=none/\c=0/\xs=[])\/∃g,A=some ⟨g,0,none⟩/\base<=g/\akA w g xs:=by
 rcases h.2 with⟨h1,h2⟩|⟨g,cap,cur,ab,hb,hg,hn,hc,dN,hS⟩
 .injection h1 with h3 h4 h5;exact .inl ⟨h3,h5,lB h2⟩
 .injection ab with h3 h4 h5
  have aF:bB w g e cur:=hg;refine .inr ⟨g,h3,hb,aF.lt,λj v hj=>?_,λj _=>aF.free j⟩;rw [aF.cell j];rw [<-hS,uq] at hj;split at hj
  .simpa using hj
  .cases hj
def rp.lt(h:rp w base e A c xs):∀k,A.map (·.block)=some k->base<=k/\k<w.heap.size:=λk hk=>by
 rcases h.cut with⟨h1,_,_⟩|⟨g,h1,h2,h3⟩
 .rw [h1] at hk;cases hk
 .rw [h1] at hk;cases hk;exact⟨h2,h3.lt⟩
def rp.Sy{W0:yp}(h:rp w base e A c xs)(EG:Below base W0 w)(hg:w.grownBy w' (A.map (·.block)))(hz:base<=w.heap.size):Below base W0 w':=EG.grown hg hz λk hk=>(h.lt k hk).1
end
section
variable{ops:aZ}{Q:bK}{N:Nat}{E:List (Nat×yl)}{w:yp}{o:yk}{rest:aN}{k:Nat}
def asR{s x:yo}{t e:yn}{z:yl}{base bytes c m d:Nat}{A:aO}{xs news:cU}{ad:Addr}(hq:di o k N)(ho:o.op = .call { callee:=.builtin .append,args:=#[s,x],argTypes:=#[t,t] })
 (hs:dy E s=some (.slice A xs.length c))(hx:dy E x=some (.slice (some ad) m d))(ht:prog.underlying t=some (.slice e))(hi:(prog.info? e).map (λi=>(i.zero,i.size,i.bytes))=some (some z,1,bytes))(vE:z.cells.size=1)
 (mD:rp w base e A c xs)(hm:news.length=m)(aqQ:∀j u,news[j]?=some u->w.cell? (ad.add j)=some u)(h1:∀u∈news,u.oneCell'=true)(N1:(xs.length+m)*bytes<=140737488355328)(h63:xs.length+m<=maxLen)(EF:base<=w.heap.size)
 (hn:∀A' c' w',rp w' base e A' c' (xs++news)->w.grownBy w' (A.map (·.block))->(A'.map (·.block)=A.map (·.block)\/A'.map (·.block)=some w.heap.size)->jo prog ops Q rest N ((k,.slice A' (xs++news).length c')::E) w') :
  jo prog ops Q (o::rest) N E w:=by
 obtain⟨i,qa,wS,xT,hb⟩:=info_parts hi
 have KB:∀(B:aO) (n m:Nat),(Value.slice B n m).ownBlock=B.map (·.block):=λB n m=>by cases B<;>rfl
 obtain⟨v',w',hr,ho',oc,_,ki⟩:=run_append_own_at (P:=prog) w base t o.type e i z 1 bytes ht qa wS xT hb vE (by omega) _ xs.length xs mD ad m d news (by rw [hm,Nat.mul_one]) aqQ h1 h63 N1 EF
 have hlen:(xs++news).length=xs.length+m:=by rw [aV,hm]
 rw [<-hlen] at ho'
 obtain⟨A',c',rfl⟩:∃A' c',v' = .slice A' (xs++news).length c':=by
  rcases ho'.2 with⟨h0,hn⟩|⟨g,cap,cur,ab,_⟩
  .exact⟨none,0,by rw [h0,hn]⟩
  .exact⟨_,_,ab⟩
 rw [KB] at oc ki;rw [KB] at ki;refine Ia _ (eB hq) (eC hq) (dQ hq) (λa ha=>?_) (hn A' c' w' ho' oc ki);have h2:=ha.eval hs;have h3:=ha.eval hx
 unfold execOp
 simp only [ho,resolve,invoke,builtin,bI,bM,bS,yK,eZ,xV,h2,h3,hr]
end
def aaI:(prog.info? 5).map (λi=>(i.zero,i.size,i.bytes))=some (some (.int .u8 0),1,1):=by kernel_rfl
def eM(z:ae)(off:Nat)(l:ae):ae:=z.take off++(l++z.drop (off+l.length))
def Nm{z l:ae}{off:Nat}(h:off+l.length<=z.length):(eM z off l).length=z.length:=by simp [eM];omega
def xb:(prog.info? 5).map (·.size)=some 1:=by kernel_rfl
def kT:ae:=aB 64 0
def ja(w:yp)(v:yl)(l:ae):Prop:=∃A c,v = .slice A l.length c/\gV w 0 w.heap.size A l c
def lX(w:yp)(A:aO)(ls:aX):Prop:=xl w w.heap.size A ls
def ja.later{w w':yp}{v:yl}{l:ae}(h:ja w v l)(hb:Below w.heap.size w w'):ja w' v l:=by obtain⟨A,c,e,h1⟩:=h;exact⟨A,c,e,(h1.below hb (aQ _)).more (aQ _) hb.size⟩
def lX.later{w w':yp}{A:aO}{ls:aX}(h:lX w A ls)(hb:Below w.heap.size w w'):lX w' A ls:=λhl=>by obtain⟨ad,e,h1,h2⟩:=h.below hb (aQ _) hl;refine⟨ad,e,nP h1 hb.size,λi l hi=>?_⟩;obtain⟨A',c,h3,h4⟩:=h2 i l hi;exact⟨A',c,h3,h4.more (aQ _) hb.size⟩
def ja.nil(w:yp):ja w (.slice none 0 0) []:=⟨none,0,rfl,gV.nil _ _ _⟩
def ja.arr{w:yp}{g t off n c:Nat}{z l:ae}(h:bB w g t (By z).toArray)(hl:(z.drop off).take n=l)(hn:l.length=n)(hc:n<=c)(n6:c<=9223372036854775807):ja w (.slice (some ⟨g,off,none⟩) n c) l:=by
 refine⟨some ⟨g,off,none⟩,c,by rw [hn],by rw [hn];exact hc,n6,λh=>(by cases h),λ_=>⟨_,rfl,bl _,h.lt,λj x hx=>?_⟩⟩;rw [<-hl,uq] at hx;split at hx
 .rw [Fg] at hx;rw [lf,h.cell];simp [By,hx]
 .cases hx
def ja.all{w:yp}{g t n:Nat}{l:ae}(h:bB w g t (By l).toArray)(hn:l.length=n)(n6:n<=9223372036854775807):ja w (cj g n n) l :=
 ja.arr h (by rw [List.drop_zero,List.take_of_length_le (by omega)]) hn (aQ _) n6
def rp.dw{w:yp}{base c:Nat}{A:aO}{l:ae}(h:rp w base 5 A c (By l)):ja w (.slice A l.length c) l:=by
 have h2:=h.2;rw [dH] at h2;rcases h2 with⟨h1,h3⟩|⟨g,cap,cur,ab,_,hg,hn,hc,_,hS⟩
 .injection h1 with h4 h5 h6;have:=lB h3;subst h4 h6 this;exact ja.nil w
 .injection ab with h4 h5 h6
  subst h4 h6;refine⟨_,c,rfl,hn,by unfold maxLen at hc;omega,λh=>(by cases h),λ_=>⟨_,rfl,bl _,bB.lt hg,λj x hx=>?_⟩⟩;have aF:bB w g _ cur:=hg;rw [lf,aF.cell,dI];have h7:(By l)[j]?=some (.int .u8 (x.toNat:Int)):=by simp [By,hx]
  rw [<-hS,uq] at h7;split at h7
  .simpa using h7
  .cases h7
def gV.part{w:yp}{lo hi c:Nat}{A:aO}{l:ae}(h:gV w lo hi A l c){k n:Nat}(hk:k<=l.length):gV w lo hi (if c=k then A else A.map (·.add k)) ((l.drop k).take n) (c-k):=(h.cut hk).take n
section
variable{ops:aZ}{Rel:yp->aE}[hR:MX Rel]{C0:aE}{Q:lx->Act->Prop}{N:Nat}{E:List (Nat×yl)}{Fa:Told}{o:yk}{rest:List (Nat×yk)}{i k:Nat}
def aoM{f:yi}{xs:na}{ats:mX}(args:ct)(V:yl->aE)(hq:di o k N)(hf:mw i Fa=true)(hp:∀v,Ee Rel (V v))(mD:Own f)
 (hc:∀w,C0 w->Uses o Fa w->Calls prog f args w (λe w'=>∃v,e = .returned v/\V v w'/\Below w.heap.size w w'))
 (ho:o.op = .call { callee:=.value (.func f),args:=xs,argTypes:=ats })(hx:xs.toList.map (dy E)=args.toList.map some)
 (hn:∀v w,C0 w->V v w->sk prog Rel ops C0 Q rest N ((k,v)::E) ((i,V v)::Fa)):sk prog Rel ops C0 Q ((i,o)::rest) N E Fa :=
 NI V (eB hq) (eC hq) (dQ hq) hf (by rw [ho];rfl) hp (λa ha w hw hu=>by rw [IL mD ho,ya (ha.Af _ _ hx)];exact⟨rfl,(hc w hw hu).mono λe w' ⟨v,h1,h2,h3⟩=>⟨v,h1,hR.below _ _ h3,h2⟩⟩) hn
def aoL{ty:yn}(zs:ct)(base:Nat)(hq:di o k N)(hf:mw i Fa=true)(ho:o.op = .alloc ty)(hz:(prog.info? ty).bind (λi=>i.zero.map (·.cells))=some zs)
 (hb:∀w,C0 w->base<=w.heap.size)(hp:∀g,Ee Rel λw=>base<=g/\bB w g ty zs)
 (hn:∀g w,C0 w->base<=g->bB w g ty zs->sk prog Rel ops C0 Q rest N ((k,.pointer (some ⟨g,0,none⟩))::E) ((i,λw=>base<=g/\bB w g ty zs)::Fa)):sk prog Rel ops C0 Q ((i,o)::rest) N E Fa :=
 NI (λv w=>∃g,v = .pointer (some ⟨g,0,none⟩)/\base<=g/\bB w g ty zs) (eB hq) (eC hq) (dQ hq) hf (by rw [ho];rfl) (λv w w' ⟨g,e,h⟩ hr=>⟨g,e,hp g w w' h hr⟩) (λa _ w hw _=>by
  rw [GQ ho hz a w];exact⟨hR.below _ _ ((Below.refl w.heap.size w).alloc (aQ _) _),w.heap.size,rfl,hb w hw,bB.new w _ _⟩) (λv w hw ⟨g,e,h1,h2⟩=>by
  subst e;intro a F ha hF;refine hn g w hw h1 h2 a F ha λx hx w hw=>?_;rcases bT.1 hx with rfl|hx
  .obtain⟨g',e,h⟩:=hF (i,λw=>∃g',Value.pointer (some ⟨g,0,none⟩) = .pointer (some ⟨g',0,none⟩)/\base<=g'/\bB w g' ty zs) eh w hw;injection e with e;injection e with e;injection e with e;subst e;exact h
  .exact hF x (dS _ hx) w hw)
end
def R6:(prog.info? 39).map (λi=>(i.zero,i.size,i.bytes))=some (some (.slice none 0 0),1,24):=by kernel_rfl
def aAI(vs:cU)(n:Nat)(parts:Array (Nat×yl))(hp:parts.toList=(vs.zipIdx 0).map λx=>(x.2,x.1))(hn:vs.length=n)(h0:0<n)(h24:n<=16777216)(h1:∀v∈vs,v.cells = #[v])(w:yp) :
  (Instr.buildSlice 37 n parts).run prog w = .ok (cj w.heap.size n n) (w.alloc (.cells vs.toArray 39)):=by
 obtain⟨ie,h2,h3,h4,_⟩:=info_parts R6;refine run_buildSlice w 37 39 n parts vs.toArray ie _ underlying37 h2 h3 (by rw [h4];omega) (by rw [h4];omega) ?_;rw [hp,h4];exact Great.fill_flat _ _ h1 (by simp [hn])
def jH(w:yp):cU->aX->Prop
  | [],[]=>True
  | v::vs,l::ls=>ja w v l/\jH w vs ls
  | _,_=>False
theorem jH.len{w:yp}:∀{vs:cU} {ls:aX},jH w vs ls->vs.length=ls.length
 | [],[],_=>rfl
 | _::_,_::_,h=>by rw [fL,fL,jH.len h.2]
 | [],_::_,h=>h.elim
 | _::_,[],h=>h.elim
theorem jH.get{w:yp}:∀{vs:cU} {ls:aX},jH w vs ls->∀(i:Nat) l,ls[i]?=some l->∃v,vs[i]?=some v/\ja w v l
 | [],[],_,i,l,h=>by simp at h
 | v::vs,l0::ls,h,0,l,hi=>by simp only [bV,iv] at hi;subst hi;exact⟨v,rfl,h.1⟩
 | v::vs,l0::ls,h,i+1,l,hi=>by obtain⟨u,h1,h2⟩:=jH.get h.2 i l (by simpa using hi);exact⟨u,by simpa using h1,h2⟩
 | [],_::_,h,_,_,_=>h.elim
 | _::_,[],h,_,_,_=>h.elim
theorem jH.one{w:yp}:∀{vs:cU} {ls:aX},jH w vs ls->∀v∈vs,v.cells = #[v]/\v.oneCell'=true
 | [],_,_,v,ab=>by simp at ab
 | u::vs,l::ls,h,v,ab=>by
  rcases bT.1 ab with rfl|ab
  .obtain⟨A,c,rfl,_⟩:=h.1;exact⟨rfl,rfl⟩
  .exact jH.one h.2 v ab
 | _::_,[],h,_,_=>h.elim
theorem jH.later{w w':yp}(hb:Below w.heap.size w w'):∀{vs:cU} {ls:aX},jH w vs ls->jH w' vs ls
 | [],[],_=>trivial
 | _::_,_::_,h=>⟨h.1.later hb,jH.later hb h.2⟩
 | [],_::_,h=>h.elim
 | _::_,[],h=>h.elim
structure yA(base:Nat)(vs:cU)(ls:aX)(g:Nat)(w:yp):Prop where
  ge:base<=g
  z7:bB w g 39 vs.toArray
  all:jH w vs ls
def yA.later{base g:Nat}{vs:cU}{ls:aX}{w w':yp}(h:yA base vs ls g w)(hb:Below w.heap.size w w'):yA base vs ls g w':=⟨h.ge,h.z7.later hb,jH.later hb h.all⟩
def Vl{w:yp}{g:Nat}{vs:cU}{ls:aX}{cs:ct}{t:Nat}(aF:bB w g t cs)(hS:∀(j:Nat) (v:yl),vs[j]?=some v->cs[j]?=some v)(h:jH w vs ls):lX w (some ⟨g,0,none⟩) ls:=λ_=>by refine⟨_,rfl,aF.lt,λi l hi=>?_⟩;obtain⟨v,h1,A,c,rfl,h3⟩:=h.get i l hi;refine⟨A,c,?_,h3⟩;rw [lf,aF.cell,dI];exact hS i _ h1
def yA.zy{base g:Nat}{vs:cU}{ls:aX}{w:yp}(h:yA base vs ls g w):lX w (some ⟨g,0,none⟩) ls:=Vl h.z7 (λj v hj=>by simpa using hj) h.all
section
variable{ops:aZ}{C0:aE}{Q:lx->Act->Prop}{N:Nat}{E:List (Nat×yl)}{Fa:Told}{o:yk}{rest:List (Nat×yk)}{i k:Nat}
def YW{n:Nat}{parts:Array (Nat×yo)}(vs:cU)(ls:aX)(base:Nat)(hq:di o k N)(hf:mw i Fa=true)(ho:o.op = .buildSlice 37 n parts)
 (ab:parts.toList.map (λp=>(p.1,dy E p.2))=(vs.zipIdx 0).map λx=>(x.2,some x.1))(hn:vs.length=n)(h0:0<n)(h24:n<=16777216)(hb:∀w,C0 w->base<=w.heap.size)(h:∀w,C0 w->Uses o Fa w->jH w vs ls)
 (iD:∀g w,C0 w->yA base vs ls g w->sk prog zQ ops C0 Q rest N ((k,cj g n n)::E) ((i,yA base vs ls g)::Fa)):sk prog zQ ops C0 Q ((i,o)::rest) N E Fa :=
 NI (λv w=>∃g,v = .slice (some ⟨g,0,none⟩) n n/\yA base vs ls g w) (eB hq) (eC hq) (dQ hq) hf (by rw [ho];rfl) (λv w w' ⟨g,e,h⟩ hr=>⟨g,e,h.later hr⟩) (λa ha w hw hu=>by
  have hA:=h w hw hu;have hm:∀(l:List (Nat×yo)) (m:List (yl×Nat)),l.map (λp=>(p.1,dy E p.2))=m.map (λx=>(x.2,some x.1))->l.map (λ(i,x)=>(i,a.eval x))=m.map λx=>(x.2,x.1):=by
   intro l;induction l with
   | nil=>intro m h;cases m with
    | nil=>rfl
    | cons=>cases h
   | cons p l ih=>intro m h;cases m with
    | nil=>cases h
    | cons u m =>
     simp only [eZ,BM,nS] at h ⊢;exact⟨⟨h.1.1,ha.eval h.1.2⟩,ih m h.2⟩
  have hr:=aAI vs n (parts.map λ(i,x)=>(i,a.eval x)) (by rw [Fp];exact hm _ _ ab) hn h0 h24 (λv ab=>(hA.one v ab).1) w;have l7:=(Below.refl w.heap.size w).alloc (aQ _) (.cells vs.toArray 39);unfold execOp;simp only [ho,bI,hr,bS,bM];exact⟨l7,w.heap.size,rfl,hb w hw,bB.new w _ _,jH.later l7 hA⟩) (λv w hw ⟨g,e,h2⟩=>by
  subst e;intro a F ha hF;refine iD g w hw h2 a F ha λx hx w hw=>?_;rcases bT.1 hx with rfl|hx
  .obtain⟨g',e,h⟩:=hF (i,λw=>∃g',Value.slice (some ⟨g,0,none⟩) n n = .slice (some ⟨g',0,none⟩) n n/\yA base vs ls g' w) eh w hw;injection e with e;injection e with e;injection e with e;subst e;exact h
  .exact hF x (dS _ hx) w hw)
end
theorem jH.app{w:yp}:∀{vs us:cU} {ls ms:aX},jH w vs ls->jH w us ms->jH w (vs++us) (ls++ms)
 | [],_,[],_,_,h=>h
 | _::_,_,_::_,_,h,h'=>⟨h.1,jH.app h.2 h'⟩
 | [],_,_::_,_,h,_=>h.elim
 | _::_,_,[],_,h,_=>h.elim
theorem adS{w:yp}{ad:Addr}:∀(ls:aX) (o:Nat),(∀(i:Nat) l,ls[i]?=some l->∃v,w.cell? (ad.add (o+i))=some v/\ja w v l)->∃vs,jH w vs ls/\∀(j:Nat) u,vs[j]?=some u->w.cell? (ad.add (o+j))=some u
 | [],_,_=>⟨[],trivial,λj u h=>by simp at h⟩
 | l::ls,o,h=>by
  obtain⟨v,h1,h2⟩:=h 0 l rfl;obtain⟨vs,h3,h4⟩:=adS ls (o+1) λi l' hi=>by obtain⟨v',h5,h6⟩:=h (i+1) l' (by simpa using hi);exact⟨v',by rw [show o+1+i=o+(i+1) by omega];exact h5,h6⟩
  refine⟨v::vs,⟨h2,h3⟩,λj u hj=>?_⟩;cases j with
  | zero =>
   simp only [bV,iv] at hj;subst hj;exact h1
  | succ j =>
   have:=h4 j u (by simpa using hj)
   rwa [show o+1+j=o+(j+1) by omega] at this
def rp.zy{w:yp}{base c:Nat}{A:aO}{vs:cU}{ls:aX}(h:rp w base 39 A c vs)(hA:jH w vs ls):lX w A ls/\ls.length<=c/\c<=9223372036854775807:=by
 have hlen:=hA.len;rcases h.2 with⟨h1,h3⟩|⟨g,cap,cur,ab,_,hg,hn,hc,_,hS⟩
 .injection h1 with h4 h5 h6;subst h6;exact⟨λh0=>absurd h0 (by omega),by omega,by omega⟩
 .injection ab with h4 h5 h6
  subst h4 h6;refine⟨Vl (cs:=cur) hg (λj v hj=>?_) hA,by omega,by unfold maxLen at hc;omega⟩;rw [<-hS,uq] at hj;split at hj
  .simpa using hj
  .cases hj
def yA.gs{base n g:Nat}{vs:cU}{ls:aX}{w:yp}(h:yA base vs ls g w)(hn:vs.length=n)(hm:n<=9223372036854775807):rp w base 39 (some ⟨g,0,none⟩) n vs:=by refine⟨by simp,.inr ⟨g,n,vs.toArray,rfl,h.ge,h.z7,by omega,by unfold maxLen;omega,by simp [hn],by simp⟩⟩
section
variable{ops:aZ}{Q:bK}{N:Nat}{E:List (Nat×yl)}{w:yp}{o:yk}{rest:aN}{k:Nat}
theorem asT{s x:yo}{base c d:Nat}{A X:aO}{vs:cU}{ls:aX}(hq:di o k N)(ho:o.op = .call { callee:=.builtin .append,args:=#[s,x],argTypes:=#[37,37] })
 (hs:dy E s=some (.slice A vs.length c))(hx:dy E x=some (.slice X ls.length d))(mD:rp w base 39 A c vs){W0:yp}(hW:cA W0 w)(hP:lX W0 X ls)(h0:X=none->d=0/\ls=[])(hb:(vs.length+ls.length)*24<=140737488355328)(EF:base<=w.heap.size)
 (hn:∀A' c' w' us,jH W0 us ls->rp w' base 39 A' c' (vs++us)->w.grownBy w' (A.map (·.block))->jo prog ops Q rest N ((k,.slice A' (vs++us).length c')::E) w'):jo prog ops Q (o::rest) N E w:=by
 cases X with
 | none =>
  obtain⟨rfl,rfl⟩:=h0 rfl;obtain⟨i,qa,hz,xT,hb⟩:=info_parts R6;have hr:=run_append_owned_none (P:=prog) w base 37 o.type 39 i 1 underlying37 qa _ vs.length vs mD;have h1:=hn A c w [] trivial (by rw [fj];exact mD) (World.grownBy.refl _ _);rw [fj] at h1;refine Ia _ (eB hq) (eC hq) (dQ hq) (λa ha=>?_) h1;have h2:=ha.eval hs;have h3:=ha.eval hx
  unfold execOp
  simp only [ho,resolve,invoke,builtin,bI,bM,bS,yK,eZ,xV,h2,h3,List.length_nil,hr]
 | some ad =>
  obtain⟨us,h1,h2⟩:=adS (w:=W0) (ad:=ad) ls 0 λi l hi=>by obtain⟨ad',e,_,h3⟩:=hP (by have:=(eY.1 hi).1;omega);injection e with e;subst e;obtain⟨A',c',h4,h5⟩:=h3 i l hi;exact⟨_,by rw [dI];exact h4,A',c',rfl,h5⟩
  have hl:=h1.len
  refine asR (bytes:=24) (z:=.slice none 0 0) (news:=us) (base:=base) (e:=39) (xs:=vs) (A:=A) (c:=c) (ad:=ad) (m:=ls.length) (d:=d) hq ho hs hx underlying37 R6 rfl mD hl (λj u hj=>by have h5:=h2 j u hj;rw [dI] at h5;exact(hW.cell (World.block_lt_of_cell? W0 _ h5)).trans h5) (λu hu=>(h1.one u hu).2) hb (by unfold maxLen;omega) EF ?_
  intro A' c' w' h3 h4 _
  exact hn A' c' w' us h1 h3 h4
end
structure MT(g:Nat)(t:yn)(c:ct)(w w':yp):Prop where
  os:w'.os=w.os
  tape:w'.tape=w.tape
  output:w'.output=w.output
  size:w.heap.size<=w'.heap.size
  block:∀k,k<w.heap.size->k≠g->w'.heap[k]?=w.heap[k]?
  here:g<w.heap.size->w'.heap[g]?=w.heap[g]?\/bB w' g t c
section
variable{g:Nat}{t:yn}{c:ct}{w w' w'':yp}
def MT.of(h:Below w.heap.size w w'):MT g t c w w':=⟨h.os,h.tape,h.output,h.size,λk hk _=>h.block k hk,λhk=>.inl (h.block g hk)⟩
instance:MX (MT g t c):=⟨λ_ _=>MT.of⟩
end
section
variable{P:ym}{ops:aZ}{Q:bK}{N:Nat}{E:List (Nat×yl)}{w:yp}{o:yk}{rest l:aN}{k:Nat}
def GB(ops:aZ)(N:Nat)(E:List (Nat×yl))(o:yk):Prop:=o.guard=none\/∃j b t,o.guard=some (j,b)/\(ops[j]?).bind (·.dst)=some t/\aW t N=true/\look E t=some (.bool b)
def GB.wanted{a:Act}(h:GB ops N E o)(ha:Fr N E a):aU o (yielded ops a.tmps)=true:=by
 rcases h with h|⟨j,b,t,kN,hj,hN,ht⟩
 .simp [aU,h]
 .have E7:t<a.tmps.size:=by rw [ha.size];simpa using hN
  have h2:=ha.get t _ ht;have h3:a.tmps[t]?=some (.bool b):=by simp only [pK,wv] at h2;rw [xt E7] at h2 ⊢;simpa using h2
  unfold aU;rw [kN];simp [yielded,hj,h3]
def ab3(v:yl)(w':yp)(hw:GB ops N E o)(hd:o.dst=some k)(hk:aW k N=true)(h:∀a,Fr N E a->(execOp a.eval o).run P w = .ok (.value v) w')(hn:jo P ops Q rest N ((k,v)::E) w'):jo P ops Q (o::rest) N E w:=λa ha=>by have h1:=h a ha;have h2:=hn _ (ha.put hk v);unfold wpList;rw [if_pos (hw.wanted ha)];refine .inl ?_;unfold fW;rw [h1];simp only [fE,hd];exact h2
end
def aIX(E:List (Nat×yl)):Op->Option yl
  | .move x=>dy E x
  | .assign x=>dy E x
  | .pick c x y=>match dy E c with
    | some (.bool true)=>dy E x
    | some (.bool false)=>dy E y
    | _=>none
  | .extract x i=>match dy E x with
    | some (.tuple vs)=>vs[i]?
    | _=>none
  | .unOp .not _ x=>match dy E x with
    | some (.bool true)=>some (.bool false)
    | some (.bool false)=>some (.bool true)
    | _=>none
  | .nilCheck x=>match dy E x with
    | some (.pointer (some p))=>some (.pointer (some p))
    | _=>none
  | _=>none
def WG(ops:aZ)(N:Nat)(E:List (Nat×yl))(o:yk):Option Bool :=
  match o.guard with
  | none=>some true
  | some (j,b)=>match (ops[j]?).bind (·.dst) with
    | some t=>match aW t N with
      | true=>match look E t with
        | some (.bool true)=>some b
        | some (.bool false)=>some (!b)
        | _=>none
      | false=>none
    | none=>none
def aF5{ops:aZ}{N:Nat}{E:List (Nat×yl)}{a:Act}{o:yk}{q:Bool}(ha:Fr N E a)(h:WG ops N E o=some q):aU o (yielded ops a.tmps)=q:=by
 unfold WG at h;split at h
 .rename_i hg;injection h with h;subst h;simp [aU,hg]
 .rename_i j b hg
  split at h
  .rename_i t hj
   split at h
   .rename_i hN
    have E7:t<a.tmps.size:=by rw [ha.size];simpa using hN
    have key:∀c,look E t=some (.bool c)->a.tmps[t]?=some (.bool c):=λc hc=>by have h2:=ha.get t _ hc;simp only [pK,wv] at h2;rw [xt E7] at h2 ⊢;simpa using h2
    split at h
    .rename_i hc;injection h with h;subst h;unfold aU;rw [hg];simp [yielded,hj,key _ hc]
    .rename_i hc;injection h with h;subst h;unfold aU;rw [hg];cases b<;>simp [yielded,hj,key _ hc]
    .cases h
   .cases h
  .cases h
def z6(o:yk):yk:={ o with guard:=none }
section
variable{P:ym}{ops:aZ}{Q:bK}
theorem Ri{T:aN}:∀(L:aN) (a:Act) (w:yp),L.all (λo=>pM o.op)=true->fQ P ops (· = w) (λa'=>wpList P ops Q T a' w) L a->wpList P ops Q (L++T) a w
 | [],_,_,_,h=>h
 | o::L,a,w,hs,h=>by
  rw [List.all_cons,dJ] at hs;have key:∀V:yl->Prop,nN P o a w V->(∀v,V v->wpList P ops Q (L++T) (a.put o.dst v) w)->o.wp P a w (wpList P ops Q (L++T)) Q:=λV h3 hk=>by
   unfold nN at h3;unfold fW;have aa:=λn w'=>V7 (P:=P) (ρ:=a.eval) (o:=o) (w:=w) (w':=w') (n:=n) hs.1;generalize (execOp a.eval o).run P w=r at *;cases r with
   | ok n w' =>
    cases n<;>simp only [tX] at h3<;>simp only [fE]
    case value u =>
     obtain⟨e1,e2⟩:=h3;rw [e1];exact hk _ e2
    case skip =>
     obtain⟨e1,e2⟩:=h3;rw [e1];exact hk _ e2
    case enter f args =>
     rcases aa _ _ rfl with⟨v,ab⟩|ab<;>cases ab
   | halt x w'=>simp only [tX] at h3
  rw [AO];unfold wpList;unfold fQ at h;split at h
  .rename_i hw
   rw [if_pos hw];refine .inl ?_;rcases h with⟨v,h3,h4⟩|⟨_,V,h3,h4⟩
   .exact key (· = v) (h3 w rfl) (λu hu=>by rw [hu];exact Ri L _ w hs.2 h4)
   .exact key V (h3 w rfl) (λu hu=>Ri L _ w hs.2 (h4 u hu))
  .rename_i hw;rw [if_neg hw];exact Ri L _ w hs.2 h
variable{N:Nat}{E:List (Nat×yl)}{w:yp}{l T:aN}
end
def DF:Code->List Code
  | .loop c=>c::DF c
  | .seq a b=>DF a++DF b
  | .block _ c=>DF c
  | .scope c=>DF c
  | .cond _ a b=>DF a++DF b
  | _=>[]
def Js:Nat->cU->List (Nat×yl)
  | _,[]=>[]
  | j,v::vs=>(j,v)::Js (j+1) vs
theorem RI:∀(vs:cU) (j k:Nat) (v:yl),look (Js j vs) k=some v->j<=k/\vs[k-j]?=some v
 | [],_,_,_,h=>by cases h
 | u::vs,j,k,v,h=>by
  rw [Js,uK] at h;split at h
  .rename_i e;subst e;cases h;exact⟨aQ _,by simp⟩
  .obtain⟨h1,h2⟩:=RI vs (j+1) k v h;refine⟨by omega,?_⟩;obtain⟨m,rfl⟩:∃m,k=j+1+m:=⟨k-(j+1),by omega⟩;rw [show j+1+m-(j+1)=m from by omega] at h2;rw [show j+1+m-j=m+1 from by omega];simpa using h2
def R0{P:ym}{f:yi}{fn:Func}{c:Code}{vs:cU}{w:yp}{R:Ending->aE}(N:Nat)(hf:P.funcs[f]?=some fn)(hb:fn.body=some c)(hn:vs.length+(fn.ntmps-vs.length)=N)
 (h:tf P c (bodyPost P fn R) N (Js 0 vs) w):Calls P f vs.toArray w R:=by
 refine calls_of_wp hf hb (h _ (Fr.start (by simpa using hn) _ λk v hk=>?_));have:=(RI vs 0 k v hk).2
 simpa using this
def Fr.at{N:Nat}{E:List (Nat×yl)}{a:Act}(h:Fr N E a){k:Nat}{v:yl}(hk:look E k=some v):a.tmps.getD k undef=v:=h.get k v hk
def asB{P:ym}{fn:Func}{R:Ending->aE}{N:Nat}{E:List (Nat×yl)}{w:yp}{q:Tmp}{ty t:yn}{d:TypeDesc}(g:Nat)(cs:ct)(hr:fn.results = #[.cell q ty])(hq:look E q=some (eE g))(hb:bB w g t cs)
 (hu:P.underlying ty=some d)(hd:(match d with | .struct _ | .array _ _=>true|_=>false)=true)(hi:(P.info? ty).map (·.size)=some cs.size)(h:R (.returned (.agg cs)) w):HT (bodyPost P fn R .ret) N E w:=λ_ ha=>bodyPost_ret (results_cell_row hr _ _ g t cs (0,0) d (ha.at hq) hb hu hd hi) ha.defers h
section
variable{ops:aZ}{Q:bK}{N:Nat}{E:List (Nat×yl)}{w:yp}{o:yk}{rest:aN}{k:Nat}
theorem anW{a:Act}(ha:Fr N E a):∀(l:List yo) (m:cU),l.map (dy E)=m.map some->l.map a.eval=m:=by
 intro l;induction l with
 | nil=>intro m h;cases m with
  | nil=>rfl
  | cons=>cases h
 | cons y l ih=>intro m h;cases m with
  | nil=>cases h
  | cons u m =>
   simp only [eZ,BM] at h ⊢;exact⟨ha.eval h.1,ih m h.2⟩
def asU{f:yi}{xs:na}{ats:mX}(args:ct){R:Ending->aE}(hg:o.guard=none)(hd:o.dst=some k)(hk:aW k N=true)
 (hf:Own f)(hc:Calls prog f args w R)(ho:o.op = .call { callee:=.value (.func f),args:=xs,argTypes:=ats })(hx:xs.toList.map (dy E)=args.toList.map some)
 (hn:∀e w',R e w'->∃v,e = .returned v/\jo prog ops Q rest N ((k,v)::E) w'):jo prog ops Q (o::rest) N E w:=λa ha=>by
 have hr:=IL (a:=a) hf ho w;rw [ya (anW ha _ _ hx)] at hr
 unfold wpList
 rw [if_pos (by simp [aU,hg])];refine .inl ?_
 unfold fW
 rw [hr];simp only [fE,hd]
 exact hc.mono λe w' he=>by obtain⟨v,rfl,h1⟩:=hn e w' he;exact h1 _ (ha.put hk v)
end
structure dO(D:cn)(w w':yp):Prop where
  os:w'.os=w.os
  tape:w'.tape=w.tape
  output:w'.output=w.output
  size:w.heap.size<=w'.heap.size
  block:∀k,k<w.heap.size->¬D k->w'.heap[k]?=w.heap[k]?
section
variable{D D':cn}{w w' w'':yp}
def dO.refl(D:cn)(w:yp):dO D w w:=⟨rfl,rfl,rfl,aQ _,λ_ _ _=>rfl⟩
def dO.step(h:dO D w w')(k:dO D' w' w'')(hd:∀i,i<w.heap.size->D' i->D i):dO D w w'' :=
 ⟨k.os.trans h.os,k.tape.trans h.tape,k.output.trans h.output,Nat.le_trans h.size k.size,λi hi hn=>(k.block i (nP hi h.size) (λh'=>hn (hd i hi h'))).trans (h.block i hi hn)⟩
def dO.mono(h:dO D w w')(hd:∀i,i<w.heap.size->D i->D' i):dO D' w w':=⟨h.os,h.tape,h.output,h.size,λi hi hn=>h.block i hi λh'=>hn (hd i hi h')⟩
def dO.wW(h:cA w w'):dO D w w':=⟨h.os,h.tape,h.output,h.size,λk hk _=>h.block k hk⟩
def dO.up(h:dO D w w')(hd:∀i,i<w.heap.size->¬D i):cA w w':=⟨h.os,h.tape,h.output,h.size,λk hk=>h.block k hk (hd k hk)⟩
def dO.UX{r:j5}(h:w.grownBy w' r):dO (λk=>r=some k) w w':=⟨h.os,h.tape,h.output,h.size,λk hk hn=>h.block k hk λe=>hn e.symm⟩
def dO.row(w:yp)(g:Nat)(cs:ct):dO (λk=>k=g) w (w.setRow g cs):=⟨rfl,rfl,rfl,by simp [World.setRow],λk _ hn=>setRow_other w g k cs hn⟩
end
def iu(D:cn)(p:aE)(w:yp):Prop:=∀w',dO D w w'->p w'
section
variable{D D':cn}{w w':yp}{p q:aE}
def iu.now(h:iu D p w):p w:=h w (dO.refl _ _)
def iu.step(h:iu D p w)(k:dO D w w'):iu D p w':=λw2 h2=>h w2 (k.step h2 λ_ _ h=>h)
def iu.less(h:iu D p w)(hd:∀k,k<w.heap.size->D' k->D k):iu D' p w:=λw2 h2=>h w2 (h2.mono hd)
def iu.imp(h:iu D p w)(hpq:∀w,p w->q w):iu D q w:=λw2 h2=>hpq _ (h w2 h2)
def iu.and(h:iu D p w)(h':iu D q w):iu D (λw=>p w/\q w) w:=λw2 h2=>⟨h w2 h2,h' w2 h2⟩
def iu.AW(h:iu D p w)(k:dO D w w')(hd:∀i,i<w.heap.size->D' i->D i):iu D' p w':=λw2 h2=>h w2 (k.step h2 hd)
end
class dc (p:aE):Prop where
  later:∀w w',p w->Below w.heap.size w w'->p w'
def iu.DM{p:aE}[hp:dc p]{D:cn}{w:yp}(h:p w)(hd:∀k,k<w.heap.size->¬D k):iu D p w:=λw' hw=>hp.later w w' h (hw.up hd)
inductive eK where
  | v (x:yl)
  | b (e:Bool)
  | o (x:yl)
def eK.den:eK->yl
  | .v x=>x
  | .b e=>.bool e
  | .o x=>x
def eK.aI:eK->Prop
  | .v _=>True
  | .b _=>True
  | .o x=>x.oneCell'=true/\x.cells = #[x]
inductive bz where
  | one (s:eK)
  | agg (n:Nat) (cs:ct)
abbrev cJ:=List bz
def bz.cells:bz->ct
  | .one s=>#[s.den]
  | .agg _ cs=>cs
def bz.size:bz->Nat
  | .one _=>1
  | .agg n _=>n
def bz.aI:bz->Prop
  | .one s=>s.aI/\s.den.oneCell'=true/\s.den.cells = #[s.den]
  | .agg n cs=>cs.size=n/\∀v∈cs.toList,v.oneCell'=true
theorem bz.aI.size{p:bz}(h:p.aI):p.cells.size=p.size:=by
 cases p with
 | one v=>rfl
 | agg n cs=>exact h.1
theorem bz.aI.one{p:bz}(h:p.aI):∀v∈p.cells.toList,v.oneCell'=true:=by
 cases p with
 | one v=>intro u hu;simp [bz.cells] at hu;subst hu;exact h.2.1
 | agg n cs=>exact h.2
def a7:cJ->ct
  | []=>#[]
  | [p]=>p.cells
  | p::q::r=>p.cells++a7 (q::r)
def jY:cJ->Nat
  | []=>0
  | p::r=>p.size+jY r
def ch(ai:cJ):Prop:=∀p∈ai,p.aI
theorem lE(p:bz)(r:cJ):a7 (p::r)=p.cells++a7 r:=by
 cases r with
 | nil=>simp [a7]
 | cons q r=>rfl
theorem ch.size:∀{ai:cJ},ch ai->(a7 ai).size=jY ai
 | [],_=>rfl
 | p::r,h=>by rw [lE,Array.size_append,ch.size (ai:=r) (λq hq=>h q (by simp [hq])),(h p (by simp)).size];rfl
theorem ch.one:∀{ai:cJ},ch ai->∀v∈(a7 ai).toList,v.oneCell'=true
 | [],_,v,ab=>by simp [a7] at ab
 | p::r,h,v,ab=>by
  rw [lE,wC,iA] at ab;rcases ab with ab|ab
  .exact(h p (by simp)).one v ab
  .exact ch.one (ai:=r) (λq hq=>h q (by simp [hq])) v ab
def GH:cJ->Nat->Option bz
  | [],_=>none
  | p::r,off=>match b9 off 0 with
    | true=>some p
    | false=>match uF p.size off with
      | true=>GH r (off-p.size)
      | false=>none
def Mk:cJ->Nat->bz->Option cJ
  | [],_,_=>none
  | p::r,off,q=>match b9 off 0 with
    | true=>match b9 p.size q.size with
      | true=>some (q::r)
      | false=>none
    | false=>match uF p.size off with
      | true=>(Mk r (off-p.size) q).map (p :: ·)
      | false=>none
theorem M7:∀{ai:cJ} {off:Nat} {p:bz},ch ai->GH ai off=some p->p.aI/\∃A Z,(a7 ai).toList=A++(p.cells.toList++Z)/\A.length=off
 | [],_,_,_,h=>by cases h
 | q::r,off,p,bx,h=>by
  have hq:=bx q (by simp);unfold GH at h;split at h
  .rename_i e;injection h with h;subst h;exact⟨hq,[],(a7 r).toList,by rw [lE];simp,by simpa using (gq e).symm⟩
  .split at h
   .rename_i e;have e:=cL e;obtain⟨h1,A,Z,h2,h3⟩:=M7 (λx hx=>bx x (by simp [hx])) h;exact⟨h1,q.cells.toList++A,Z,by rw [lE,wC,h2,ei],by rw [aV,h3,kD,hq.size];omega⟩
   .cases h
theorem ag9:∀{ai ps':cJ} {off:Nat} {q:bz},ch ai->q.aI->Mk ai off q=some ps'->ch ps'/\jY ps'=jY ai/\∃A B Z,(a7 ai).toList=A++(B++Z)/\A.length=off/\B.length=q.size/\(a7 ps').toList=A++(q.cells.toList++Z)
 | [],_,_,_,_,_,h=>by cases h
 | p::r,ps',off,q,bx,hq,h=>by
  have hp:=bx p (by simp);unfold Mk at h;split at h
  .rename_i e
   split at h
   .rename_i e2
    injection h with h;subst h;have e2:=gq e2;refine⟨λx hx=>?_,by simp only [jY,e2],[],p.cells.toList,(a7 r).toList,by rw [lE];simp,by simpa using (gq e).symm,by rw [kD,hp.size,e2],by rw [lE];simp⟩;rcases bT.1 hx with rfl|hx
    .exact hq
    .exact bx x (by simp [hx])
   .cases h
  .split at h
   .rename_i e
    have e:=cL e;cases hs:Mk r (off-p.size) q with
    | none=>rw [hs] at h;cases h
    | some r' =>
     rw [hs] at h;simp only [kF,iv] at h;subst h;obtain⟨h1,h2,A,B,Z,h3,h4,h5,h6⟩:=ag9 (λx hx=>bx x (by simp [hx])) hq hs;refine⟨λx hx=>?_,by simp only [jY,h2],p.cells.toList++A,B,Z,by rw [lE,wC,h3,ei],by rw [aV,h4,kD,hp.size];omega,h5,by rw [lE,wC,h6,ei]⟩
     rcases bT.1 hx with rfl|hx
     .exact hp
     .exact h1 x hx
   .cases h
inductive aL where
  | c (s:eK)
  | p (ai:cJ)
abbrev oG:=List aL
def aL.den:aL->yl
  | .c s=>s.den
  | .p ai=>.agg (a7 ai)
def aL.aI:aL->Prop
  | .c s=>s.aI
  | .p ai=>ch ai
inductive aq where
  | q (x:aL)
  | a (j off:Nat)
  | s (j off n c:Nat)
  | t (vs:oG)
abbrev nH:=List aq
@[match_pattern] abbrev aq.v(x:yl):aq:=.q (.c (.v x))
@[match_pattern] abbrev aq.aT(k:Nat):aq:=.v (.int .i64 (k:Int))
@[match_pattern] abbrev aq.b(e:Bool):aq:=.q (.c (.b e))
@[match_pattern] abbrev aq.o(x:yl):aq:=.q (.c (.o x))
@[match_pattern] abbrev aq.p(ai:cJ):aq:=.q (.p ai)
def aq.den(G:aK):aq->yl
  | .q x=>x.den
  | .a j off=>.pointer (some ⟨G j,off,none⟩)
  | .s j off n c=>.slice (some ⟨G j,off,none⟩) n c
  | .t vs=>.tuple (vs.map aL.den).toArray
def aq.aI:aq->Prop
  | .q x=>x.aI
  | .a _ _=>True
  | .s _ _ _ _=>True
  | .t vs=>∀x∈vs,x.aI
def aq.GS(j:Nat):aq->Bool
  | .a i _=>!Nat.beq i j
  | .s i _ _ _=>!Nat.beq i j
  | _=>true
abbrev aG:=List (Nat×aq)
def dG:aG->Nat->Option aq
  | [],_=>none
  | (k,v)::r,j=>match b9 k j with
    | true=>some v
    | false=>dG r j
def bG(G:aK):aG->List (Nat×yl)
  | []=>[]
  | (k,v)::r=>(k,v.den G)::bG G r
theorem ou(G:aK):∀(E:aG) (j:Nat),look (bG G E) j=(dG E j).map (aq.den G)
 | [],_=>rfl
 | (k,v)::r,j=>by
  unfold bG look dG;cases b9 k j with
  | true=>rfl
  | false=>exact ou G r j
def jK(E:aG):Prop:=∀x∈E,x.2.aI
theorem abH:∀{E:aG} {j:Nat} {v:aq},dG E j=some v->(j,v)∈E
 | [],_,_,h=>by cases h
 | (k,u)::r,j,v,h=>by
  unfold dG at h;split at h
  .rename_i e;obtain rfl:=gq e;cases h;exact eh
  .exact dS _ (abH h)
def jK.get{E:aG}(h:jK E){j:Nat}{v:aq}(hj:dG E j=some v):v.aI:=h _ (abH hj)
def jK.cons{E:aG}(h:jK E){k:Nat}{v:aq}(ab:v.aI):jK ((k,v)::E):=λx hx=>by
 rcases bT.1 hx with rfl|hx
 .exact ab
 .exact h x hx
def aP(E:aG):yo->Option aq
  | .tmp t=>dG E t
  | .const v=>some (.v v)
  | .global g=>some (.v (.pointer (some ⟨g,0,none⟩)))
  | .func f=>some (.v (.func (.func f) #[] #[]))
theorem bH{G:aK}{E:aG}{x:yo}{v:aq}(h:aP E x=some v):dy (bG G E) x=some (v.den G):=by
 cases x with
 | tmp t =>
  show look (bG G E) t=_
  rw [ou];rw [show dG E t=some v from h]
  rfl
 | const u=>cases h;rfl
 | global g=>cases h;rfl
 | func f=>cases h;rfl
theorem jK.dy{E:aG}(h:jK E){x:yo}{v:aq}(hx:aP E x=some v):v.aI:=by
 cases x with
 | tmp t=>exact h.get hx
 | const u=>cases hx;trivial
 | global g=>cases hx;trivial
 | func f=>cases hx;trivial
def lg(E:aG):List yo->Option nH
  | []=>some []
  | x::r=>match aP E x,lg E r with
    | some v,some vs=>some (v::vs)
    | _,_=>none
theorem vh{G:aK}{E:aG}:∀{xs:List yo} {vs:nH},lg E xs=some vs->xs.map (dy (bG G E))=(vs.map (aq.den G)).map some
 | [],vs,h=>by cases h;rfl
 | x::r,vs,h=>by
  unfold lg at h;split at h
  .rename_i v us h1 h2;injection h with h;subst h;rw [eZ,bH h1,vh h2];rfl
  .cases h
structure mn where
  j:Nat
  g:j5
  t:yn
  ai:cJ
abbrev aH:=List mn
def mJ:aH->Nat->Option cJ
  | [],_=>none
  | x::r,j=>match b9 x.j j with
    | true=>some x.ai
    | false=>mJ r j
theorem tR:∀{L:aH} {j:Nat} {ai:cJ},mJ L j=some ai->∃x∈L,x.j=j/\x.ai=ai
 | [],_,_,h=>by cases h
 | x::r,j,ai,h=>by
  unfold mJ at h;split at h
  .rename_i e;injection h with h;exact⟨x,eh,gq e,h⟩
  .obtain⟨y,h1,h2⟩:=tR h;exact⟨y,dS _ h1,h2⟩
def rj:aH->Nat->cJ->aH
  | [],_,_=>[]
  | x::r,j,ai=>match b9 x.j j with
    | true=>{ x with ai:=ai }::r
    | false=>x::rj r j ai
def gM(L:aH):aC:=L.map (·.j)
theorem P8:∀(L:aH) (j:Nat) (ai:cJ),gM (rj L j ai)=gM L
 | [],_,_=>rfl
 | x::r,j,ai=>by
  unfold rj;split
  .rfl
  .exact congrArg (x.j :: ·) (P8 r j ai)
def tq(j:Nat):aH->Bool
  | []=>true
  | x::r=>!Nat.beq x.j j&&tq j r
structure fS where
  holds:yp->cn->Prop
  fO:∀{w w':yp} {S:cn},holds w S->(∀k,S k->w'.heap[k]?=w.heap[k]?)->holds w' S
  lt:∀{w:yp} {S:cn},holds w S->∀k,S k->k<w.heap.size
abbrev bF:=List fS
def gD:bF->yp->cn->Prop
  | [],_,S=>∀k,¬S k
  | r::R,w,S=>∃S1 S2,r.holds w S1/\gD R w S2/\(∀k,S k↔S1 k\/S2 k)/\∀k,S1 k->¬S2 k
theorem gD.fO:∀{R:bF} {w w':yp} {S:cn},gD R w S->(∀k,S k->w'.heap[k]?=w.heap[k]?)->gD R w' S
 | [],_,_,_,h,_=>h
 | r::_,_,_,_,⟨S1,S2,h1,h2,h3,h4⟩,hk=>⟨S1,S2,r.fO h1 λk hs=>hk k ((h3 k).2 (.inl hs)),h2.fO λk hs=>hk k ((h3 k).2 (.inr hs)),h3,h4⟩
theorem gD.lt:∀{R:bF} {w:yp} {S:cn},gD R w S->∀k,S k->k<w.heap.size
 | [],_,_,h,k,hs=>absurd hs (h k)
 | r::_,_,_,⟨_,_,h1,h2,h3,_⟩,k,hs=>((h3 k).1 hs).elim (r.lt h1 k) (h2.lt k)
def gD.same{R:bF}{w:yp}{S S':cn}(h:gD R w S)(e:∀k,S k↔S' k):gD R w S':=by
 have:S=S':=funext λk=>propext (e k)
 rwa [<-this]
theorem gD.app:∀{R R':bF} {w:yp} {S:cn},gD (R++R') w S↔∃S1 S2,gD R w S1/\gD R' w S2/\(∀k,S k↔S1 k\/S2 k)/\∀k,S1 k->¬S2 k
 | [],R',w,S=>⟨λh=>⟨λ_=>False,S,λ_ h=>h,h,λk=>⟨.inr,λh=>h.elim False.elim id⟩,λ_ h=>h.elim⟩,λ⟨S1,S2,h1,h2,h3,_⟩=>by show gD R' w S;exact h2.same λk=>⟨λh=>(h3 k).2 (.inr h),λh=>((h3 k).1 h).resolve_left (h1 k)⟩⟩
 | r::R,R',w,S=>by
  constructor
  .rintro⟨S1,S2,h1,h2,h3,h4⟩
   obtain⟨S3,S4,h5,h6,h7,h8⟩:=gD.app.1 h2;refine⟨λk=>S1 k\/S3 k,S4,⟨S1,S3,h1,h5,λk=>Iff.rfl,λk hk h=>h4 k hk ((h7 k).2 (.inl h))⟩,h6,λk=>?_,λk hk h=>?_⟩
   .rw [h3 k,h7 k,or_assoc]
   .rcases hk with hk|hk
    .exact h4 k hk ((h7 k).2 (.inr h))
    .exact h8 k hk h
  .rintro⟨S0,S4,⟨S1,S3,h1,h5,h9,h10⟩,h6,h3,h8⟩
   refine⟨S1,λk=>S3 k\/S4 k,h1,gD.app.2 ⟨S3,S4,h5,h6,λk=>Iff.rfl,λk hk=>h8 k ((h9 k).2 (.inr hk))⟩,λk=>by rw [h3 k,h9 k,or_assoc],λk hk h=>?_⟩;rcases h with h|h
   .exact h10 k hk h
   .exact h8 k ((h9 k).2 (.inl hk)) h
theorem gD.perm{R R':bF}(h:R.Perm R'):∀{w:yp} {S:cn},gD R w S->gD R' w S:=by
 induction h with
 | nil=>exact λh=>h
 | cons r _ ih =>
  rintro w S ⟨S1,S2,h1,h2,h3⟩
  exact⟨S1,S2,h1,ih h2,h3⟩
 | swap r r' R =>
  rintro w S ⟨S1,S2,h1,⟨S3,S4,h3,h4,h5,h6⟩,h7,h8⟩
  refine⟨S3,λk=>S1 k\/S4 k,h3,⟨S1,S4,h1,h4,λ_=>Iff.rfl,λk hk hk'=>h8 k hk ((h5 k).2 (.inr hk'))⟩,λk=>?_,λk hk hk'=>?_⟩
  .rw [h7 k,h5 k,<-or_assoc,<-or_assoc,or_comm (a:=S1 k)]
  .rcases hk' with hk'|hk'
   .exact h8 k hk' ((h5 k).2 (.inl hk))
   .exact h6 k hk hk'
 | trans _ _ ih1 ih2=>exact λh=>ih2 (ih1 h)
theorem gD.at:∀{R:bF} {i:Nat} {r:fS} {w:yp} {S:cn},gD R w S->R[i]?=some r->∃S1 S2,r.holds w S1/\(∀k,S k↔S1 k\/S2 k)/\(∀k,S1 k->¬S2 k)/\gD (R.eraseIdx i) w S2 /\
  ∀(r':fS) (w':yp) (S':cn),r'.holds w' S'->(∀k,S2 k->w'.heap[k]?=w.heap[k]?)->(∀k,S' k->¬S2 k)->gD (R.set i r') w' λk=>S' k\/S2 k
 | [],_,_,_,_,_,h=>by simp at h
 | r0::R,0,r,w,S,⟨S1,S2,h1,h2,h3,h4⟩,h=>by simp only [bV,iv] at h;subst h;exact⟨S1,S2,h1,h3,h4,h2,λr' w' S' hr hk hd=>⟨S',S2,hr,h2.fO hk,λ_=>Iff.rfl,hd⟩⟩
 | r0::R,i+1,r,w,S,⟨S0,S',h1,h2,h3,h4⟩,h=>by
  obtain⟨S1,S2,h5,h6,h7,h8,h9⟩:=gD.at h2 (by simpa using h);refine⟨S1,λk=>S0 k\/S2 k,h5,λk=>?_,λk hk hk'=>?_,⟨S0,S2,h1,h8,λ_=>Iff.rfl,λk hk hk'=>h4 k hk ((h6 k).2 (.inr hk'))⟩,λr' w' S3 hr hk hd=>?_⟩
  .rw [h3 k,h6 k,<-or_assoc,<-or_assoc,or_comm (a:=S0 k)]
  .rcases hk' with hk'|hk'
   .exact h4 k hk' ((h6 k).2 (.inl hk))
   .exact h7 k hk hk'
  .refine⟨S0,λk=>S3 k\/S2 k,r0.fO h1 λk hs=>hk k (.inl hs),h9 r' w' S3 hr (λk hs=>hk k (.inr hs)) (λk hs hs'=>hd k hs (.inr hs')),λk=>?_,λk rH hs=>?_⟩
   .exact or_left_comm
   .rcases hs with hs|hs
    .exact hd k hs (.inl rH)
    .exact h4 k rH ((h6 k).2 (.inr hs))
structure Env where
  E:aG
  L:aH
  R:bF
  F:aE
  M:aE
def gP(S:cn)(G:aK)(L:aH)(k:Nat):Prop:=S k\/∃j∈gM L,G j=k
def xh(X S:cn)(G:aK)(L:aH)(k:Nat):Prop:=X k\/gP S G L k
structure bO where
  X:cn
  B:yp
  D:cn
def Br(b:bO)(S:cn)(G:aK)(L:aH)(k:Nat):Prop:=k<b.B.heap.size\/gP S G L k
structure bj(b:bO)(G:aK)(S:cn)(L:aH)(R:bF)(F M:aE)(w:yp):Prop where
  var:∀x∈L,bB w (G x.j) x.t (a7 x.ai)/\ch x.ai/\∀g,x.g=some g->G x.j=g
  apart:(gM L).Pairwise λi j=>G i≠G j
  res:gD R w S
  sep:∀j∈gM L,¬S (G j)
  fact:iu (xh b.X S G L) F w
  fresh:iu (Br b S G L) M w
  chg:dO b.D b.B w
  mine:∀k,gP S G L k->k<b.B.heap.size->b.D k
  eS:∀k,b.X k->k<b.B.heap.size/\¬b.D k
structure MZ(b:bO)(N:Nat)(e:Env)(G:aK)(S:cn)(a:Act)(w:yp):Prop where
  fr:Fr N (bG G e.E) a
  ok:jK e.E
  st:bj b G S e.L e.R e.F e.M w
def iz(b:bO)(N:Nat)(e:Env)(a:Act)(w:yp):Prop:=∃G S,MZ b N e G S a w
section
variable{b:bO}{G:aK}{S:cn}{L:aH}{R:bF}{F M:aE}{w w':yp}
def xh.nof(h:∀k,b.X k->k<b.B.heap.size/\¬b.D k){k:Nat}(hk:xh b.X S G L k):Br b S G L k:=hk.imp (λhx=>(h k hx).1) id
def bj.lt(h:bj b G S L R F M w):∀k,gP S G L k->k<w.heap.size:=λk hk=>by
 rcases hk with hk|⟨j,hj,rfl⟩
 .exact h.res.lt k hk
 .obtain⟨x,hx,rfl⟩:=dv.1 hj;exact(h.var x hx).1.lt
def bj.later(h:bj b G S L R F M w)(k:Below w.heap.size w w'):bj b G S L R F M w' :=
 ⟨λx hx=>⟨(h.var x hx).1.later k,(h.var x hx).2⟩,h.apart,h.res.fO λi hi=>k.block i (h.res.lt i hi),h.sep,h.fact.step (dO.wW k),h.fresh.step (dO.wW k),h.chg.step (D':=λ_=>False) (dO.wW k) (λ_ _ h=>h.elim),h.mine,h.eS⟩
def bj.all(h:bj b G S L R F M w):iu (xh b.X S G L) (λw=>F w/\M w) w:=h.fact.and (h.fresh.less λ_ _ hk=>hk.nof h.eS)
def bj.imp(h:bj b G S L R F M w){F' M':aE}(hF:∀w,F w->M w->F' w)(hM:∀w,M w->M' w):bj b G S L R F' M' w:={ h with fact:=h.all.imp λw hw=>hF w hw.1 hw.2,fresh:=h.fresh.imp hM }
def bj.and(h:bj b G S L R F M w){p:aE}(hp:iu (xh b.X S G L) p w):bj b G S L R (λw=>p w/\F w) M w:={ h with fact:=hp.and h.fact }
def bj.andM(h:bj b G S L R F M w){p:aE}(hp:iu (Br b S G L) p w):bj b G S L R F (λw=>p w/\M w) w:={ h with fresh:=hp.and h.fresh }
end
structure uh where
  t:yn
  kind:Nat
  zero:cJ
  el:Option yn:=none
  ik:Option yj:=none
  zy:Bool:=false
  w:Nat:=8
abbrev eG:=List uh
def kindOf:TypeDesc->Nat
  | .array _ _=>1
  | .struct _=>2
  | _=>0
def Yo:TypeDesc->Option yn
  | .slice e=>some e
  | _=>none
def aaH:TypeDesc->Option yj
  | .int k=>some k
  | _=>none
def adR:TypeDesc->Bool
  | .pointer _=>true
  | _=>false
def rowOf(P:ym)(t:yn):Option (Nat×Option ct×Nat×Option (List (Nat×Nat))×Option yn×Option yj×Bool×Nat) :=
  match P.info? t,P.underlying t with
  | some it,some d=>some (it.size,it.zero.map (·.cells),kindOf d,(match d with
    | .struct fs=>fs.toList.mapM λf=>(P.info? f.type).map λi=>(f.offset,i.size)
    | .array _ e=>(P.info? e).map λ_=>[]
    | _=>some []),Yo d,aaH d,adR d,it.bytes)
  | _,_=>none
def uR:Nat->cJ->List (Nat×Nat)
  | _,[]=>[]
  | o,p::r=>(o,p.size)::uR (o+p.size) r
def uh.ok(P:ym)(r:uh):Prop:=rowOf P r.t=some (jY r.zero,some (a7 r.zero),r.kind,some (match r.kind with|2=>uR 0 r.zero|_=>[]),r.el,r.ik,r.zy,r.w)/\ch r.zero
def fh(P:ym)(T:eG):Prop:=∀r∈T,r.ok P
def Uh:yl->Bool
  | .agg _=>false
  | .tuple _=>false
  | _=>true
def aaK{v:yl}(h:Uh v=true):v.oneCell'=true/\v.cells = #[v]:=by cases v<;>first|exact⟨rfl,rfl⟩|cases h
def UZ(ai:cJ):Bool:=ai.all λp=>match p with
  | .one (.v v)=>Uh v
  | .one _=>false
  | .agg n cs=>cs.size==n&&cs.toList.all λv=>v.oneCell'
theorem LH{ai:cJ}(h:UZ ai=true):ch ai:=λp hp=>by
 have:=pS.1 h p hp;cases p with
 | one s =>
  cases s with
  | v x=>exact⟨trivial,aaK this⟩
  | b e=>cases this
  | o x=>cases this
 | agg n cs =>
  simp only [dJ,beq_iff_eq,pS] at this;exact this
def avE{P:ym}{T:eG}(h:T.map (λr=>rowOf P r.t)=T.map λr=>some (jY r.zero,some (a7 r.zero),r.kind,some (match r.kind with|2=>uR 0 r.zero|_=>[]),r.el,r.ik,r.zy,r.w))
 (h2:(T.all λr=>UZ r.zero)=true):fh P T:=λr hr=>by
 refine⟨?_,LH (pS.1 h2 r hr)⟩;obtain⟨i,hi,rfl⟩:=Ly hr;have h1:=congrArg (·[i]?) h
 simpa [hi] using h1
def ka:eG->yn->Option uh
  | [],_=>none
  | r::T,t=>match b9 r.t t with
    | true=>some r
    | false=>ka T t
theorem oX{P:ym}:∀{T:eG} {t:yn} {r:uh},fh P T->ka T t=some r->r.ok P/\r.t=t
 | [],_,_,_,h=>by cases h
 | r0::T,t,r,hT,h=>by
  unfold ka at h;split at h
  .rename_i e;injection h with h;subst h;exact⟨hT _ eh,gq e⟩
  .exact oX (λr hr=>hT r (dS _ hr)) h
section
variable{P:ym}{r:uh}
def uh.ok.info(h:r.ok P):∃it d,P.info? r.t=some it/\P.underlying r.t=some d/\it.size=jY r.zero/\it.zero.map (·.cells)=some (a7 r.zero)/\kindOf d=r.kind /\
  (match d with | .struct fs=>fs.toList.mapM λf=>(P.info? f.type).map λi=>(f.offset,i.size) | .array _ e=>(P.info? e).map λ_=>[]|_=>some [])=some (match r.kind with|2=>uR 0 r.zero|_=>[])/\Yo d=r.el/\aaH d=r.ik/\adR d=r.zy/\it.bytes=r.w:=by
 have h1:=h.1
 unfold rowOf at h1
 split at h1
 .rename_i it d h2 h3;simp only [iv,nS] at h1;exact⟨it,d,h2,h3,h1.1,h1.2.1,h1.2.2.1,h1.2.2.2.1,h1.2.2.2.2⟩
 .cases h1
end
def asL{d:TypeDesc}(h:kindOf d≠0):d.isRow=true:=by cases d<;>first|rfl|exact absurd rfl h
def aaT{d:TypeDesc}(h:kindOf d=0):d.isRow=false:=by cases d<;>first|rfl|cases h
def tE(T:eG)(ai:cJ)(t:yn)(off:Nat):Option aL:=match ka T t with
  | none=>none
  | some r=>match r.kind with
    | 0=>match GH ai off with
      | some (.one v)=>some (.c v)
      | _=>none
    | _+1=>match b9 off 0,b9 (jY ai) (jY r.zero) with
      | true,true=>some (.p ai)
      | _,_=>match GH ai off with
        | some (.agg n cs)=>match b9 n (jY r.zero) with
          | true=>some (.p [.agg n cs])
          | false=>none
        | _=>none
def Vv{w:yp}{g ty:Nat}{cs:ct}{A B Z:cU}(hb:bB w g ty cs)(h:cs.toList=A++(B++Z)):w.rangeAt g A.length B:=λj v hj=>by
 rw [hb.cell];have h1:cs.toList[A.length+j]?=some v:=by rw [h,rz (by omega),xD,uk (eY.1 hj).1];exact hj
 simpa using h1
def Mg{P:ym}{w:yp}{t:yn}{a:Addr}{v:yl}{d:TypeDesc}(hu:P.underlying t=some d)(hd:d.isRow=false)(hc:w.cell? a=some v):(kB t (.pointer (some a))).run P w = .ok v w:=by
 have h1:(isAgg t).run P w = .ok false w:=by unfold isAgg;simp only [bI,run_underlying hu,bS];cases d<;>first|rfl|cases hd
 simp only [kB,gG,loadVar,bI,bM,bS,h1,j1,if_false];simp [load,Sem.run,hc]
def VQ{P:ym}{w:yp}{t:yn}{g off:Nat}{cs:ct}{d:TypeDesc}(hu:P.underlying t=some d)(hd:d.isRow=true)(hi:(P.info? t).map (·.size)=some cs.size)(hc:w.rangeAt g off cs.toList) :
  (kB t (.pointer (some ⟨g,off,none⟩))).run P w = .ok (.agg cs) w:=by
 have h1:=run_loadVar_mid w g off t cs.toList d hc hu hd (by simpa using hi);simp only [kB,gG,bI,bM,bS,h1,BG]
def L7{w:yp}{g base:Nat}{cs A B Z:cU}(hb:w.rangeAt g base cs)(h:cs=A++(B++Z)):w.rangeAt g (base+A.length) B:=λj v hj=>by rw [kZ];refine hb (A.length+j) v ?_;rw [h,rz (by omega),xD,uk (eY.1 hj).1];exact hj
def Ib{P:ym}{T:eG}(hT:fh P T){ai:cJ}{t:yn}{off:Nat}{q:aL}(bx:ch ai)(h:tE T ai t off=some q) :
  q.aI/\∀{w:yp} {g base:Nat},w.rangeAt g base (a7 ai).toList->(kB t (.pointer (some ⟨g,base+off,none⟩))).run P w = .ok q.den w:=by
 unfold tE at h
 split at h
 .cases h
 rename_i r hr
 have zb:=oX hT hr;clear hr;obtain⟨zb,rfl⟩:=zb;obtain⟨it,d,h1,h2,h3,h4,h5, -⟩:=zb.info
 split at h
 .rename_i hk
  split at h
  .rename_i v ab
   injection h with h;subst h;obtain⟨ho,A,Z,e,hA⟩:=M7 bx ab;refine⟨ho.1,λhb=>Mg h2 (aaT (by rw [h5,hk])) ?_⟩;have:=L7 hb e 0 v.den rfl
   rwa [hA,jP] at this
  .cases h
 .rename_i hk
  have hd:d.isRow=true:=asL (by rw [h5,hk];omega);split at h
  .rename_i e1 e2;injection h with h;subst h;obtain rfl:=gq e1;exact⟨bx,λhb=>VQ h2 hd (by rw [h1,kF,h3,bx.size,gq e2]) hb⟩
  .split at h
   .rename_i n cs ab
    split at h
    .rename_i e
     injection h with h;subst h;obtain⟨ho,A,Z,e3,hA⟩:=M7 bx ab;refine⟨λp hp=>by rw [bU.1 hp];exact ho,λhb=>VQ h2 hd (by rw [h1,kF,h3];exact congrArg some ((gq e).symm.trans ho.1.symm)) ?_⟩;have:=L7 hb e3
     rwa [hA] at this
    .cases h
   .cases h
def O4{P:ym}{T:eG}(hT:fh P T){ai:cJ}{t:yn}{off:Nat}{q:aL}(bx:ch ai)(h:tE T ai t off=some q) :
  q.aI/\∀{w:yp} {g ty:Nat},bB w g ty (a7 ai)->(kB t (.pointer (some ⟨g,off,none⟩))).run P w = .ok q.den w:=by
 obtain⟨h1,h2⟩:=Ib hT bx h;refine⟨h1,λ{w g ty} hb=>?_⟩;have h3:w.rangeAt g 0 (a7 ai).toList:=Vv (A:=[]) (Z:=[]) hb (by simp);have:=h2 h3
 rwa [dI] at this
def Ss:eK->Bool
  | .v x=>Uh x
  | _=>true
theorem YH{s:eK}(hs:s.aI)(h:Ss s=true):s.den.oneCell'=true/\s.den.cells = #[s.den]:=by
 cases s with
 | v x=>exact aaK h
 | b e=>exact⟨rfl,rfl⟩
 | o x=>exact hs
def JQ(n:Nat):aL->Option bz
  | .c s=>match b9 n 1,Ss s with
    | true,true=>some (.one s)
    | _,_=>none
  | .p ai=>match b9 (jY ai) n with
    | true=>match ai with
      | [.agg m cs]=>some (.agg m cs)
      | _=>some (.agg n (a7 ai))
    | false=>none
theorem YI{n:Nat}{q:aL}{p:bz}(hq:q.aI)(h:JQ n q=some p):p.aI/\p.size=n/\q.den.cells=p.cells:=by
 cases q with
 | c s =>
  simp only [JQ] at h
  split at h
  .rename_i e1 e2;injection h with h;subst h;obtain⟨h1,h2⟩:=YH hq e2;exact⟨⟨hq,h1,h2⟩,(gq e1).symm,h2⟩
  .cases h
 | p ai =>
  simp only [JQ] at h
  split at h
  .rename_i e
   have e:=gq e;split at h
   .rename_i m cs;injection h with h;subst h;exact⟨hq _ eh,e,rfl⟩
   .injection h with h;subst h;exact⟨⟨(ch.size hq).trans e,ch.one hq⟩,rfl,rfl⟩
  .cases h
def aL.parts:aL->Option cJ
  | .p ai=>some ai
  | _=>none
theorem aL.ig{q:aL}{ai:cJ}(h:q.parts=some ai):q = .p ai:=by
 cases q with
 | c x=>cases h
 | p qs=>cases h;rfl
def QO(T:eG)(ai:cJ)(t:yn)(off:Nat)(q:aL):Option cJ:=match ka T t with
  | none=>none
  | some r=>match b9 off 0,b9 (jY ai) (jY r.zero),q.parts with
    | true,true,some qs=>match b9 (jY qs) (jY r.zero) with
      | true=>some qs
      | false=>none
    | _,_,_=>match JQ (jY r.zero) q with
      | some p=>Mk ai off p
      | none=>none
theorem D0{P:ym}{w:yp}{t:yn}{g off ty:Nat}{v:yl}{cs:ct}(hb:bB w g ty cs)(hi:(P.info? t).map (·.size)=some v.cells.size)(Hc:off+v.cells.size<=cs.size)(h1:∀u∈v.cells.toList,u.oneCell'=true) :
  (nC t (.pointer (some ⟨g,off,none⟩)) v).run P w = .ok () (w.setRow g (cs.toList.take off++v.cells.toList++cs.toList.drop (off+v.cells.size)).toArray):=by
 have aa:=run_storeCells_at P g off ty v.cells.toList 0 cs w hb (by simp;omega) h1;simp only [jP,kD] at aa
 cases hq:P.info? t with
 | none=>simp [hq] at hi
 | some i =>
  have hs:i.size=v.cells.size:=by simpa [hq] using hi
  simp [nC,gG,storeVar,sizeOf,typeInfo,hq,hs,bI,aa]
def agU{P:ym}{T:eG}(hT:fh P T){ai ps':cJ}{t:yn}{off:Nat}{q:aL}(bx:ch ai)(hq:q.aI)(h:QO T ai t off q=some ps') :
  ch ps'/\∀{w:yp} {g ty:Nat},bB w g ty (a7 ai)->(nC t (.pointer (some ⟨g,off,none⟩)) q.den).run P w = .ok () (w.setRow g (a7 ps')):=by
 unfold QO at h
 split at h
 .cases h
 rename_i r hr
 have zb:=oX hT hr;clear hr;obtain⟨zb,rfl⟩:=zb;obtain⟨it,d,h1,h2,h3,h4,h5, -⟩:=zb.info
 split at h
 .rename_i qs e1 e2 eq
  obtain rfl:=aL.ig eq;split at h
  .rename_i e3
   injection h with h;subst h;obtain rfl:=gq e1;have e2:=gq e2;have e3:=gq e3;have gT:(a7 qs).size=(a7 ai).size:=by rw [ch.size hq,bx.size,e2,e3]
   refine⟨hq,λhb=>?_⟩;have hr:=D0 (P:=P) (t:=r.t) (v:=.agg (a7 qs)) (off:=0) hb (by rw [h1,kF,h3];exact congrArg some ((ch.size hq).trans e3).symm) (by rw [dI];exact Nat.le_of_eq gT) (ch.one hq);simp only [nW,DG,lD,dI] at hr;rw [Lb (by rw [kD];omega),fj,BG] at hr;exact hr
  .cases h
 .split at h
  .rename_i p hp
   obtain⟨wN,sC,Ok⟩:=YI hq hp;obtain⟨h6,h7,A,B,Z,h8,h9,h10,h11⟩:=ag9 bx wN h;refine⟨h6,λhb=>?_⟩;have gT:q.den.cells.size=B.length:=by rw [Ok,wN.size,h10]
   have fM:(a7 ai).size=A.length+(B.length+Z.length):=by rw [<-kD,h8,aV,aV]
   have hr:=D0 (P:=P) (t:=r.t) (v:=q.den) (off:=off) hb (by rw [h1,kF,h3,Ok,wN.size,sC]) (by omega) (by rw [Ok];exact wN.one);rw [hr];congr 1;rw [<-BG (xs:=a7 ps'),h11,h8,gT,<-h9,Ok];congr 2;rw [List.take_left,ei,<-ei A B Z,<-aV,List.drop_left]
  .cases h
def Sq(T:eG)(t:yn)(i:Nat):j5:=match ka T t with
  | none=>none
  | some r=>match b9 r.kind 2 with
    | true=>match (uR 0 r.zero)[i]? with
      | some (o,n)=>match uF 1 n with
        | true=>some o
        | false=>none
      | none=>none
    | false=>none
theorem abT{α β:Type}{f:α->Option β}:∀{l:List α} {m:List β},l.mapM f=some m->∀(i:Nat) b,m[i]?=some b->∃a,l[i]?=some a/\f a=some b
 | [],m,h,i,b,hb=>by
  have:m=[]:=by simpa using h.symm
  subst this;simp at hb
 | x::l,m,h,i,b,hb=>by
  rw [List.mapM_cons] at h;cases hx:f x with
  | none=>rw [hx] at h;cases h
  | some y =>
   rw [hx] at h
   cases hm:l.mapM f with
   | none=>rw [hm] at h;cases h
   | some ys =>
    rw [hm] at h;have e:m=y::ys:=(jm h).symm;subst e
    cases i with
    | zero =>
     simp only [bV,iv] at hb;exact⟨x,rfl,by rw [hx,hb]⟩
    | succ i =>
     obtain⟨a,h1,h2⟩:=abT hm i b (by simpa using hb);exact⟨a,by simpa using h1,h2⟩
def Yy{P:ym}{T:eG}(hT:fh P T){t:yn}{i o:Nat}(h:Sq T t i=some o)(g off:Nat)(w:yp) :
  (Instr.fieldAt t (.pointer (some ⟨g,off,none⟩)) i).run P w = .ok (.pointer (some ⟨g,off+o,none⟩)) w:=by
 unfold Sq at h
 split at h
 .cases h
 rename_i r hr
 have zb:=oX hT hr;clear hr;obtain⟨zb,rfl⟩:=zb;obtain⟨it,d,h1,h2,h3,h4,h5,h6, -⟩:=zb.info
 split at h
 .rename_i hk
  have hk:=gq hk;split at h
  .rename_i o' n hp
   split at h
   .rename_i hn
    injection h with h;subst h;have hn:=cL hn;have hd:kindOf d=2:=by rw [h5,hk]
    cases d<;>first|(cases hd;done)|skip;rename_i fs;rw [hk] at h6;dsimp only at h6;obtain⟨f,h7,h8⟩:=abT h6 i (o',n) hp;cases hf:P.info? f.type with
    | none=>rw [hf] at h8;cases h8
    | some fi =>
     rw [hf] at h8;simp only [kF,iv,nS] at h8
     have h9:fs[i]?=some f:=by simpa using h7
     have h10:¬fi.size=0:=by omega
     simp only [Instr.fieldAt,bI,run_underlying h2,bS,h9,gG,bM,fieldPlace,sizeOf,typeInfo]
     simp [hf,h10,lf,h8.1]
   .cases h
  .cases h
 .cases h
def YB(place:Nat->Option (Nat×Nat))(i n:Nat)(A O Z V:cU)(rest:List (Nat×yl))(v:yl)(hp:place i=some (A.length,n))(hV:V.length=n)(hO:O.length=n)(ab:v.cells=V.toArray) :
  jW place (A++(O++Z)).toArray ((i,v)::rest)=jW place (A++(V++Z)).toArray rest:=by
 have:=ao8 place i n A O Z V rest hp hV hO;rw [<-this,jW,jW,ab]
 rfl
def Nh(E:aG):cJ->List (Nat×yo)->Option cJ
  | zs,[]=>some zs
  | zs,(i,x)::r=>match zs[i]?,aP E x with
    | some z,some (.q q)=>match JQ z.size q with
      | some p=>Nh E (zs.set i p) r
      | none=>none
    | _,_=>none
theorem XS:∀{zs:cJ} {i:Nat} {z p:bz},zs[i]?=some z->∃A Z:cU,(a7 zs).toList=A++(z.cells.toList++Z)/\(a7 (zs.set i p)).toList=A++(p.cells.toList++Z)/\∀o,ch zs->(uR o zs)[i]?=some (o+A.length,z.size)
 | [],i,z,p,h=>by simp at h
 | y::zs,0,z,p,h=>by simp only [bV,iv] at h;subst h;refine⟨[],(a7 zs).toList,by rw [lE];simp,by rw [C7,lE];simp,λo _=>by simp [uR]⟩
 | y::zs,i+1,z,p,h=>by obtain⟨A,Z,h1,h2,h3⟩:=XS (zs:=zs) (i:=i) (p:=p) (by simpa using h);refine⟨y.cells.toList++A,Z,by rw [lE,wC,h1,ei],by rw [Ah,lE,wC,h2,ei],λo bx=>?_⟩;have h4:=h3 (o+y.size) λx hx=>bx x (by simp [hx]);rw [aV,kD,(bx y (by simp)).size,<-kZ];simpa [uR] using h4
def avD{zs:cJ}{i:Nat}{p:bz}(h:ch zs)(hp:p.aI):ch (zs.set i p):=λx hx=>by
 rcases List.mem_or_eq_of_mem_set hx with h1|rfl
 .exact h x h1
 .exact hp
theorem adM:∀{zs:cJ} {i:Nat} {z p:bz} (o:Nat),zs[i]?=some z->p.size=z.size->uR o (zs.set i p)=uR o zs
 | [],i,z,p,o,h,_=>by simp at h
 | y::zs,0,z,p,o,h,e=>by simp only [bV,iv] at h;subst h;simp only [C7,uR,e]
 | y::zs,i+1,z,p,o,h,e=>by simp only [Ah,uR];rw [adM (z:=z) _ (by simpa using h) e]
theorem YC{G:aK}{E:aG}(hE:jK E){places:List (Nat×Nat)}:∀{parts:List (Nat×yo)} {zs ai:cJ},ch zs->uR 0 zs=places->Nh E zs parts=some ai ->
  ∀(f:yo->yl),(∀x v,aP E x=some v->f x=v.den G)->ch ai/\jW (places.toArray[·]?) (a7 zs) (parts.map λ(i,x)=>(i,f x))=some (a7 ai)
 | [],zs,ai,hz,_,h,f,_=>by cases h;exact⟨hz,rfl⟩
 | (i,x)::r,zs,ai,hz,ky,h,f,hf=>by
  unfold Nh at h;split at h
  .rename_i z q hi hx
   split at h
   .rename_i p hp;have hq:q.aI:=hE.dy hx;obtain⟨h1,h2,h3⟩:=YI hq hp;obtain⟨A,Z,h4,h5,h6⟩:=XS (p:=p) hi;have h7:=h6 0 hz;rw [ky,dI] at h7;have hzo:=hz z (eg hi);obtain⟨h8,h9⟩:=YC hE (parts:=r) (avD hz h1) ((adM 0 hi h2).trans ky) h f hf;refine⟨h8,?_⟩;rw [<-h9];have ab:f x=q.den:=hf x _ hx;rw [eZ,<-BG (xs:=a7 zs),h4];have:=YB (λk=>places.toArray[k]?) i p.size A z.cells.toList Z p.cells.toList (r.map λ(i,x)=>(i,f x)) (f x) (by simpa [h2] using h7) (by rw [kD,h1.size]) (by rw [kD,hzo.size,h2]) (by rw [ab,h3,BG]);rw [this,<-h5,BG]
   .cases h
  .cases h
def Ud:yj->yj->Bool
  | .i8,.i8=>true
  | .i16,.i16=>true
  | .i32,.i32=>true
  | .i64,.i64=>true
  | .u8,.u8=>true
  | .u16,.u16=>true
  | .u32,.u32=>true
  | .u64,.u64=>true
  | _,_=>false
def OJ{a b:yj}(h:Ud a b=true):a=b:=by cases a<;>cases b<;>first|rfl|cases h
def PC:yo->Bool
  | .const (.int _ (.ofNat (_+1)))=>true
  | _=>false
def RS(op:BinOp)(y:yo)(K:yj)(m n:Int):Option aq:=match op with
  | .add=>some (.v (.int K (K.wrap (m+n))))
  | .sub=>some (.v (.int K (K.wrap (m-n))))
  | .mul=>some (.v (.int K (K.wrap (m*n))))
  | .quo=>match PC y with
    | true=>some (.v (.int K (K.wrap (m.tdiv n))))
    | false=>none
  | .rem=>match PC y with
    | true=>some (.v (.int K (m.tmod n)))
    | false=>none
  | .eql=>some (.b (decide (m=n)))
  | .neq=>some (.b (decide (m≠n)))
  | .lss=>some (.b (decide (m<n)))
  | .leq=>some (.b (decide (m<=n)))
  | .gtr=>some (.b (decide (m>n)))
  | .geq=>some (.b (decide (m>=n)))
  | _=>none
def acJ{E:aG}{y:yo}{K:yj}{n:Int}(h:PC y=true)(hy:aP E y=some (.v (.int K n))):n≠0:=by
 unfold PC at h;split at h
 .injection hy with hy;injection hy with hy;injection hy with hy;injection hy with hy;injection hy with _ hy;subst hy;exact λh=>(by cases h)
 .cases h
def alH{P:ym}{E:aG}{op:BinOp}{t:yn}{y:yo}{K:yj}{m n:Int}{v:aq}(hy:aP E y=some (.v (.int K n)))(h:RS op y K m n=some v) :
  v.aI/\∀G w,(binOp op t (.int K m) (.int K n)).run P w = .ok (v.den G) w:=by
 cases op<;>simp only [RS] at h
 case quo =>
  split at h
  .rename_i hz;have:=acJ hz hy;injection h with h;subst h;exact⟨trivial,λG w=>by simp [binOp,Op.intDiv,this,aq.den,aL.den,eK.den]⟩
  .cases h
 case rem =>
  split at h
  .rename_i hz;have:=acJ hz hy;injection h with h;subst h;exact⟨trivial,λG w=>by simp [binOp,Op.intDiv,this,aq.den,aL.den,eK.den]⟩
  .cases h
 all_goals first|(cases h;done)|skip
 all_goals injection h with h
 all_goals subst h
 all_goals refine⟨trivial,λG w=>?_⟩
 all_goals first|(simp [binOp,Op.intArith,aq.den,aL.den,eK.den];done)|skip
 all_goals simp [binOp,Op.intCmp,aq.den,aL.den,eK.den]
 all_goals rfl
def nz(T:eG)(E:aG)(L:aH):Op->Option aq
  | .move x=>aP E x
  | .assign x=>aP E x
  | .pick c x y=>match aP E c with
    | some (.q (.c (.v (.bool true))))=>aP E x
    | some (.q (.c (.v (.bool false))))=>aP E y
    | _=>none
  | .extract x i=>match aP E x with
    | some (.t vs)=>match vs[i]? with
      | some q=>some (.q q)
      | none=>none
    | _=>none
  | .unOp .not _ x=>match aP E x with
    | some (.q (.c (.v (.bool true))))=>some (.v (.bool false))
    | some (.q (.c (.v (.bool false))))=>some (.v (.bool true))
    | some (.q (.c (.b e)))=>some (.b !e)
    | _=>none
  | .nilCheck x=>match aP E x with
    | some (.a j off)=>some (.a j off)
    | some (.q (.c (.v (.pointer (some p)))))=>some (.v (.pointer (some p)))
    | _=>none
  | .fieldAddr t x i=>match aP E x,Sq T t i with
    | some (.a j off),some o=>some (.a j (off+o))
    | some (.q (.c (.v (.pointer (some ⟨g,off,none⟩))))),some o=>some (.v (.pointer (some ⟨g,off+o,none⟩)))
    | _,_=>none
  | .load t x=>match aP E x with
    | some (.a j off)=>match mJ L j with
      | some ai=>match tE T ai t off with
        | some q=>some (.q q)
        | none=>none
      | none=>none
    | _=>none
  | .build t parts=>match ka T t with
    | some r=>match b9 r.kind 2 with
      | true=>match Nh E r.zero parts.toList with
        | some ai=>some (.p ai)
        | none=>none
      | false=>match b9 r.kind 1,parts.toList with
        | true,[]=>some (.p r.zero)
        | _,_=>none
    | none=>none
  | .binOp op t x y _=>match aP E x,aP E y with
    | some (.q (.c (.v (.int K m)))),some (.q (.c (.v (.int K' n))))=>match Ud K K' with
      | true=>RS op y K m n
      | false=>none
    | some (.q (.c (.v (.pointer p)))),some (.q (.c (.v (.pointer none))))=>match ka T t with
      | some r=>match r.zy,op,p with
        | true,.eql,none=>some (.v (.bool true))
        | true,.eql,some _=>some (.v (.bool false))
        | true,.neq,none=>some (.v (.bool false))
        | true,.neq,some _=>some (.v (.bool true))
        | _,_,_=>none
      | none=>none
    | _,_=>none
  | .convert src dst x=>match ka T src,ka T dst,aP E x with
    | some _,some r,some (.q (.c (.v (.int _ n))))=>match r.ik with
      | some K=>some (.v (.int K (K.wrap n)))
      | none=>none
    | _,_,_=>none
  | .call { callee:=.builtin .len,args:=⟨[x]⟩,argTypes:=⟨[t]⟩ }=>match ka T t with
    | some r=>match r.el,aP E x with
      | some _,some (.q (.c (.v (.slice _ n _))))=>some (.v (.int .i64 (n:Int)))
      | some _,some (.s _ _ n _)=>some (.v (.int .i64 (n:Int)))
      | _,_=>none
    | none=>none
  | _=>none
def MV(L:aH):Prop:=∀x∈L,ch x.ai
def Gt(G:aK)(L:aH)(w:yp):Prop:=∀x∈L,bB w (G x.j) x.t (a7 x.ai)
theorem alW{P:ym}{t:yn}{r:uh}(hr:r.ok P)(ht:r.t=t)(hk:r.kind=2)(parts:List (Nat×yl)):P.built t parts=jW ((uR 0 r.zero).toArray[·]?) (a7 r.zero) parts:=by
 subst ht;obtain⟨it,d,h1,h2,h3,h4,h5,h6, -⟩:=hr.info;rw [hk] at h5 h6;cases d<;>first|(cases h5;done)|skip;rename_i fs;dsimp only at h6;cases hz:it.zero with
 | none=>rw [hz] at h4;cases h4
 | some z =>
  rw [hz] at h4;simp only [kF,iv] at h4
  unfold Program.built
  simp only [h1,h2,hz,h6,h4]
theorem alX{P:ym}{t:yn}{r:uh}(hr:r.ok P)(ht:r.t=t)(hk:r.kind=1):P.built t []=some (a7 r.zero):=by
 subst ht;obtain⟨it,d,h1,h2,h3,h4,h5,h6, -⟩:=hr.info;rw [hk] at h5 h6;cases d<;>first|(cases h5;done)|skip;rename_i n e;dsimp only at h6;cases he:P.info? e with
 | none=>rw [he] at h6;cases h6
 | some ie =>
  cases hz:it.zero with
  | none=>rw [hz] at h4;cases h4
  | some z =>
   rw [hz] at h4;simp only [kF,iv] at h4
   unfold Program.built
   simp only [h1,h2,hz,he,h4]
   rfl
def afK{P:ym}{t:yn}{e:yn}(ht:P.underlying t=some (.slice e))(ty:yn)(A:aO)(n c:Nat)(w:yp):(oC #[t] ty #[.slice A n c]).run P w = .ok (.int .i64 (n:Int)) w:=by simp [oC,run_underlying ht,goInt]
def zH{P:ym}{T:eG}(hT:fh P T){E:aG}{L:aH}{N:Nat}{o:yk}{v:aq}(hE:jK E)(hL:MV L)(h:nz T E L o.op=some v) :
    v.aI/\∀{G:aK} {a:Act} {w:yp},Fr N (bG G E) a->Gt G L w->(execOp a.eval o).run P w = .ok (.value (v.den G)) w:=by
  obtain⟨dst,op,ty,pos,af,gd⟩:=o
  dsimp only at h
  have kj:∀{x:yo} {u:aq},aP E x=some u->∀{G:aK} {a:Act},Fr N (bG G E) a->a.eval x=u.den G:=by intro x u hx G a ha;exact ha.eval (bH hx)
  cases op
  case move x =>
    refine⟨hE.dy h,λha _=>?_⟩;have h1:=kj h ha
    unfold execOp
    simp only [h1,bM]
  case assign x =>
    refine⟨hE.dy h,λha _=>?_⟩;have h1:=kj h ha
    unfold execOp
    simp only [h1,bM]
  case pick c x y =>
    simp only [nz] at h
    split at h
    . rename_i hc
      refine⟨hE.dy h,λha _=>?_⟩;have h1:=kj hc ha;have h2:=kj h ha;unfold execOp;simp only [h1,h2,aq.den,aL.den,eK.den,asBool,bI,bM,bS,if_true]
    . rename_i hc
      refine⟨hE.dy h,λha _=>?_⟩;have h1:=kj hc ha;have h2:=kj h ha;unfold execOp;simp only [h1,h2,aq.den,aL.den,eK.den,asBool,bI,bM,bS,j1,if_false]
    . cases h
  case extract x i =>
    simp only [nz] at h
    split at h
    . rename_i vs hx
      split at h
      . rename_i q hq
        injection h with h;subst h;refine⟨hE.dy hx q (eg hq),λha _=>?_⟩;have h1:=kj hx ha;have h2:(vs.map aL.den).toArray[i]?=some q.den:=by simp [hq]
        unfold execOp;simp only [h1,aq.den,Instr.extract,h2,bI,bM,bS]
      . cases h
    . cases h
  case unOp k t x =>
    cases k
    case not =>
      simp only [nz] at h
      split at h
      . rename_i hx
        injection h with h;subst h;refine⟨trivial,λha _=>?_⟩;have h1:=kj hx ha;unfold execOp;simp only [h1,aq.den,aL.den,eK.den,Op.unary,bI,bM,bS,uG]
      . rename_i hx
        injection h with h;subst h;refine⟨trivial,λha _=>?_⟩;have h1:=kj hx ha;unfold execOp;simp only [h1,aq.den,aL.den,eK.den,Op.unary,bI,bM,bS,Bool.not_false]
      . rename_i e hx
        injection h with h;subst h;refine⟨trivial,λha _=>?_⟩;have h1:=kj hx ha;unfold execOp;simp only [h1,aq.den,aL.den,eK.den,Op.unary,bI,bM,bS]
      . cases h
    all_goals cases h
  case nilCheck x =>
    simp only [nz] at h
    split at h
    . rename_i j off hx
      injection h with h;subst h;refine⟨trivial,λha _=>?_⟩;have h1:=kj hx ha;unfold execOp;simp only [h1,aq.den,bM]
    . rename_i p hx
      injection h with h;subst h;refine⟨trivial,λha _=>?_⟩;have h1:=kj hx ha;unfold execOp;simp only [h1,aq.den,aL.den,eK.den,bM]
    . cases h
  case fieldAddr t x i =>
    simp only [nz] at h
    split at h
    . rename_i j off o hx ho
      injection h with h;subst h;refine⟨trivial,λha _=>?_⟩;have h1:=kj hx ha;unfold execOp;simp only [h1,aq.den,Yy hT ho,bI,bM,bS]
    . rename_i g off o hx ho
      injection h with h;subst h;refine⟨trivial,λha _=>?_⟩;have h1:=kj hx ha;unfold execOp;simp only [h1,aq.den,aL.den,eK.den,Yy hT ho,bI,bM,bS]
    . cases h
  case load t x =>
    simp only [nz] at h
    split at h
    . rename_i j off hx
      split at h
      . rename_i ai hps
        split at h
        . rename_i q hq
          injection h with h;subst h;obtain⟨y,hy,rfl,rfl⟩:=tR hps;obtain⟨h3,h4⟩:=O4 hT (hL y hy) hq;refine⟨h3,λha hl=>?_⟩;have h1:=kj hx ha;unfold execOp;simp only [h1,aq.den,h4 (hl y hy),bI,bM,bS]
        . cases h
      . cases h
    . cases h
  case build t parts =>
    simp only [nz] at h
    split at h
    . rename_i r hr
      split at h
      . rename_i hk
        split at h
        . rename_i ai hps
          injection h with h;subst h;obtain⟨h3,h4⟩:=oX hT hr;have hf:=λ(G:aK)=>YC (G:=G) hE (places:=uR 0 r.zero) h3.2 rfl hps;refine⟨(hf (λ_=>0) (λx=>((aP E x).map (aq.den λ_=>0)).getD undef) (λx u hx=>by rw [hx];rfl)).1,λ{G a w} ha _=>?_⟩;have h5:=(hf G a.eval (λx u hx=>kj hx ha)).2;rw [<-alW h3 h4 (gq hk)] at h5;have h6:=run_build (P:=P) w t (parts.map λ(i,x)=>(i,a.eval x)) (a7 ai) (by rw [Fp];exact h5);unfold execOp;simp only [h6,aq.den,aL.den,bI,bM,bS]
        . cases h
      . split at h
        . rename_i hk rI
          injection h with h;subst h;obtain⟨h3,h4⟩:=oX hT hr;have hpt':parts = #[]:=by simpa using rI
          subst hpt';refine⟨h3.2,λ{G a w} _ _=>?_⟩;have h6:=run_build (P:=P) w t #[] (a7 r.zero) (alX h3 h4 (gq hk));unfold execOp;simp only [yK,xV,h6,aq.den,aL.den,bI,bM,bS]
        . cases h
    . cases h
  case binOp op t x y t2 =>
    simp only [nz] at h
    split at h
    . rename_i K m K' n hx hy
      split at h
      . rename_i hK
        obtain rfl:=OJ hK;obtain⟨h1,h2⟩:=alH (P:=P) (t:=t) hy h;refine⟨h1,λ{G a w} ha _=>?_⟩;have e1:=kj hx ha;have e2:=kj hy ha;have e3:(eqGuard op t x y (.int K m) (.int K n)).run P w = .ok () w:=by cases op<;>rfl
        unfold execOp;simp only [e1,e2,aq.den,aL.den,eK.den,bI,e3,h2 G w,bM,bS]
      . cases h
    . rename_i p hx hy
      split at h
      . rename_i r hr
        obtain⟨h3,rfl⟩:=oX hT hr;obtain⟨it,d,h5,h6, -, -, -, -, -, -,h7, -⟩:=h3.info;have rI:r.zy=true->∃e,P.underlying r.t=some (.pointer e):=λhe=>by rw [he] at h7;cases d<;>first|(cases h7;done)|skip;exact⟨_,h6⟩
        have key:∀{G:aK} {a:Act} {w:yp},Fr N (bG G E) a->∀b:Bool,(binOp op r.t (.pointer p) (.pointer none)).run P w = .ok (.bool b) w->(execOp a.eval ⟨dst,.binOp op r.t x y t2,ty,pos,af,gd⟩).run P w = .ok (.value (.bool b)) w:=λ{G a w} ha b hb=>by
          have e1:=kj hx ha;have e2:=kj hy ha;have e3:(eqGuard op r.t x y (.pointer p) (.pointer none)).run P w = .ok () w:=by cases op<;>rfl
          unfold execOp;simp only [e1,e2,aq.den,aL.den,eK.den,bI,e3,hb,bM,bS]
        have heq:∀w,r.zy=true->(Op.equal r.t (.pointer p) (.pointer none)).run P w = .ok p.isNone w:=λw he=>by obtain⟨e,hu⟩:=rI he;unfold Op.equal Op.maxDepth;rw [show(10000:Nat)=9999+1 from rfl,cO];simp only [bI,run_underlying hu,bS];cases p<;>rfl
        split at h;all_goals first|(cases h;done)|skip;all_goals rename_i he;all_goals injection h with h;all_goals subst h;all_goals refine⟨trivial,λha _=>key ha _ ?_⟩;all_goals simp [binOp,heq _ he]
      . cases h
    . cases h
  case convert src dst' x =>
    simp only [nz] at h
    split at h
    . rename_i r0 r K0 n h0 hr hx
      split at h
      . rename_i K hK
        injection h with h;subst h;have q1:=oX hT h0;have q2:=oX hT hr;clear h0 hr;obtain⟨q1,rfl⟩:=q1;obtain⟨q2,rfl⟩:=q2;obtain⟨it0,d0,_,h6, -⟩:=q1.info;obtain⟨it,d,_,h7, -, -, -, -, -,h8, -⟩:=q2.info;rw [hK] at h8;cases d<;>first|(cases h8;done)|skip;injection h8 with h8;subst h8;refine⟨trivial,λha _=>?_⟩;have e1:=kj hx ha;unfold execOp;simp only [e1,aq.den,aL.den,eK.den];simp [convert,run_underlying h6,run_underlying h7,Conv.intToInt]
      . cases h
    . cases h
  case call c =>
    obtain⟨callee,args,ats⟩:=c
    cases callee
    case builtin bi =>
     cases bi
     case len =>
      obtain⟨args⟩:=args;obtain⟨ats⟩:=ats
      rcases args with _|⟨x,_|⟨y,r⟩⟩
      . cases h
      rcases ats with _|⟨t,_|⟨y,r⟩⟩
      all_goals first|(cases h;done)|skip
      simp only [nz] at h
      split at h
      . rename_i r hr
        obtain⟨h3,rfl⟩:=oX hT hr;obtain⟨it,d,h5,h6, -, -, -, -,h7, -⟩:=h3.info;have hu:∀e,r.el=some e->P.underlying r.t=some (.slice e):=λe he=>by rw [he] at h7;cases d<;>first|(cases h7;done)|skip;injection h7 with h7;subst h7;exact h6
        split at h
        . rename_i e A n cc he hx
          injection h with h;subst h;refine⟨trivial,λha _=>?_⟩;have h1:=kj hx ha;unfold execOp;simp only [resolve,invoke,builtin,yK,eZ,xV,h1,aq.den,aL.den,eK.den,bI,bM,bS,afK (hu e he)]
        . rename_i e j off n cc he hx
          injection h with h;subst h;refine⟨trivial,λha _=>?_⟩;have h1:=kj hx ha;unfold execOp;simp only [resolve,invoke,builtin,yK,eZ,xV,h1,aq.den,aL.den,eK.den,bI,bM,bS,afK (hu e he)]
        . cases h
      . cases h
     all_goals cases h
    all_goals cases h
  all_goals cases h
def vR(ops:aZ)(N:Nat)(E:aG)(o:yk):Option Bool :=
  match o.guard with
  | none=>some true
  | some (j,b)=>match (ops[j]?).bind (·.dst) with
    | some t=>match aW t N with
      | true=>match dG E t with
        | some (.q (.c (.v (.bool true))))=>some b
        | some (.q (.c (.v (.bool false))))=>some (!b)
        | _=>none
      | false=>none
    | none=>none
theorem Gk{ops:aZ}{N:Nat}{G:aK}{E:aG}{a:Act}{o:yk}{q:Bool}(ha:Fr N (bG G E) a)(h:vR ops N E o=some q):aU o (yielded ops a.tmps)=q:=by
 refine aF5 ha ?_;unfold vR at h;unfold WG;cases hg:o.guard with
 | none =>
  rw [hg] at h;exact h
 | some p =>
  obtain⟨j,b⟩:=p;rw [hg] at h
  dsimp only at h ⊢
  cases hj:(ops[j]?).bind (·.dst) with
  | none =>
   rw [hj] at h
   cases h
  | some t =>
   rw [hj] at h
   dsimp only at h ⊢
   cases hN:aW t N with
   | false =>
    rw [hN] at h
    cases h
   | true =>
    rw [hN] at h
    dsimp only at h ⊢
    split at h
    .rename_i hc;rw [ou,hc];exact h
    .rename_i hc;rw [ou,hc];exact h
    .cases h
def xE(j:Nat)(E:aG):Bool:=E.all λx=>x.2.GS j
def Pu(T:eG)(E:aG)(L:aH)(k:Nat):Op->Option (yn×cJ)
  | .alloc ty=>match ka T ty,tq k L,xE k E with
    | some r,true,true=>some (ty,r.zero)
    | _,_,_=>none
  | .box ty x=>match aP E x,tq k L,xE k E with
    | some (.q (.p ai)),true,true=>some (ty,ai)
    | some (.q (.c s)),true,true=>match Ss s with
      | true=>some (ty,[.one s])
      | false=>none
    | _,_,_=>none
  | _=>none
def VY(T:eG)(E:aG)(L:aH):Op->Option (Nat×cJ)
  | .store t x y=>match aP E x,aP E y with
    | some (.a j off),some (.q q)=>match mJ L j with
      | some ai=>match QO T ai t off q with
        | some qs=>some (j,qs)
        | none=>none
      | none=>none
    | _,_=>none
  | _=>none
def oL(T:eG)(ops:aZ)(N:Nat):aN->aG->aH->aN×aG×aH
  | [],E,L=>([],E,L)
  | o::l,E,L=>match vR ops N E o with
    | none=>(o::l,E,L)
    | some false=>match o.dst with
      | some k=>match aW k N with
        | true=>oL T ops N l ((k,.v undef)::E) L
        | false=>(o::l,E,L)
      | none=>oL T ops N l E L
    | some true=>match o.dst with
      | some k=>match aW k N with
        | true=>match nz T E L o.op with
          | some v=>oL T ops N l ((k,v)::E) L
          | none=>match Pu T E L k o.op with
            | some (ty,ai)=>oL T ops N l ((k,.a k 0)::E) (⟨k,none,ty,ai⟩::L)
            | none=>(z6 o::l,E,L)
        | false=>(o::l,E,L)
      | none=>match VY T E L o.op with
        | some (j,ai)=>oL T ops N l E (rj L j ai)
        | none=>(z6 o::l,E,L)
def bj.zu{b:bO}{G:aK}{S:cn}{L:aH}{R:bF}{F M:aE}{w:yp}(h:bj b G S L R F M w):MV L:=λx hx=>(h.var x hx).2.1
def bj.at{b:bO}{G:aK}{S:cn}{L:aH}{R:bF}{F M:aE}{w:yp}(h:bj b G S L R F M w):Gt G L w:=λx hx=>(h.var x hx).1
theorem Ev:∀{L:aH} {j:Nat},tq j L=true->j∉gM L
 | [],_,_,h=>by cases h
 | x::r,j,h,hm=>by
  unfold tq at h;simp only [dJ,Bool.not_eq_true'] at h;rcases bT.1 hm with e|hm
  .rw [e] at h;simp at h
  .exact Ev h.2 hm
theorem amY{G:aK}{j g:Nat}{v:aq}(h:v.GS j=true):v.den (λi=>if i=j then g else G i)=v.den G:=by
 cases v with
 | q x=>rfl
 | a i off =>
  have:i≠j:=by rintro rfl;simp [aq.GS] at h
  simp [aq.den,this]
 | s i off n c =>
  have:i≠j:=by rintro rfl;simp [aq.GS] at h
  simp [aq.den,this]
 | t vs=>rfl
theorem Nq{G:aK}{j g:Nat}:∀{E:aG},xE j E=true->bG (λi=>if i=j then g else G i) E=bG G E
 | [],_=>rfl
 | (k,v)::r,h=>by unfold xE at h;rw [List.all_cons,dJ] at h;rw [bG,bG,amY h.1,Nq h.2]
section
variable{b:bO}{G:aK}{S:cn}{L:aH}{R:bF}{F M:aE}{w:yp}
def bj.new(h:bj b G S L R F M w){j:Nat}{t:yn}{ai:cJ}(hj:tq j L=true)(hp:ch ai):bj b (λi=>if i=j then w.heap.size else G i) S (⟨j,none,t,ai⟩::L) R F M (w.alloc (.cells (a7 ai) t)):=by
 have l7:=(Below.refl w.heap.size w).alloc (aQ _) (.cells (a7 ai) t);have hn:=Ev hj;have b8:∀i,i∈gM L->i≠j:=λi hi e=>hn (e▸hi);have hG:∀i∈gM L,(if i=j then w.heap.size else G i)=G i:=λi hi=>if_neg (b8 i hi);have al:∀i∈gM L,G i<w.heap.size:=λi hi=>h.lt _ (.inr ⟨i,hi,rfl⟩);have h1:=h.later l7;have hM:∀k,gP S (λi=>if i=j then w.heap.size else G i) (⟨j,none,t,ai⟩::L) k->k=w.heap.size\/gP S G L k:=λk hk=>by
  rcases hk with hk|⟨i,hi,rfl⟩
  .exact .inr (.inl hk)
  .rcases bT.1 hi with rfl|hi
   .exact .inl (if_pos rfl)
   .exact .inr (.inr ⟨i,hi,(hG i hi).symm⟩)
 refine⟨λx hx=>?_,rN (λi hi=>?_) ?_,h1.res,λi hi=>?_,?_,?_,h1.chg,λk hk al=>?_,h.eS⟩
 .rcases bT.1 hx with rfl|hx
  .refine⟨?_,hp,λg hg=>by cases hg⟩;show bB _ (if j=j then w.heap.size else G j) t (a7 ai);rw [if_pos rfl];exact bB.new w _ _
  .rw [hG _ (dv.2 ⟨x,hx,rfl⟩)];exact h1.var x hx
 .show(if j=j then w.heap.size else G j)≠_;rw [if_pos rfl,hG i hi];exact Nat.ne_of_gt (al i hi)
 .refine List.Pairwise.imp_of_mem (λ{x y} hx hy pw=>?_) h.apart;rw [hG x hx,hG y hy];exact pw
 .rcases bT.1 hi with rfl|hi
  .show ¬S (if i=i then w.heap.size else G i);rw [if_pos rfl];exact λhs=>ze _ (h.res.lt _ hs)
  .rw [hG i hi];exact h.sep i hi
 .refine h.fact.AW (dO.wW l7) λi hi hd=>?_
  rcases hd with hd|hd
  .exact .inl hd
  .rcases hM i hd with rfl|hd
   .exact absurd hi (ze _)
   .exact .inr hd
 .refine h.fresh.AW (dO.wW l7) λi hi hd=>?_
  rcases hd with hd|hd
  .exact .inl hd
  .rcases hM i hd with rfl|hd
   .exact absurd hi (ze _)
   .exact .inr hd
 .rcases hM k hk with rfl|hk
  .exact absurd (nc h.chg.size al) (ze _)
  .exact h.mine k hk al
theorem adV{j:Nat}{ai:cJ}:∀{L:aH},(gM L).Nodup->∀y∈rj L j ai,(y∈L/\y.j≠j)\/∃x∈L,x.j=j/\y={ x with ai:=ai }
 | [],_,y,h=>by cases h
 | x::r,hd,y,h=>by
  unfold rj at h;have hd':=AF.1 hd;split at h
  .rename_i e
   have e:=gq e;rcases bT.1 h with rfl|h
   .exact .inr ⟨x,eh,e,rfl⟩
   .refine .inl ⟨dS _ h,λe2=>hd'.1 ?_⟩;show x.j∈gM r;rw [e,<-e2];exact dv.2 ⟨y,h,rfl⟩
  .rename_i e
   rcases bT.1 h with rfl|h
   .exact .inl ⟨eh,λe2=>by rw [e2] at e;simp at e⟩
   .rcases adV hd'.2 y h with⟨h1,h2⟩|⟨z,h1,h2,h3⟩
    .exact .inl ⟨dS _ h1,h2⟩
    .exact .inr ⟨z,dS _ h1,h2,h3⟩
def bj.nodup(h:bj b G S L R F M w):(gM L).Nodup:=h.apart.imp λpw e=>pw (congrArg G e)
def bj.set(h:bj b G S L R F M w){j:Nat}{ai:cJ}(hj:j∈gM L)(hp:ch ai):bj b G S (rj L j ai) R F M (w.setRow (G j) (a7 ai)):=by
 have hc:=dO.row w (G j) (a7 ai);have Tu:gP S G L (G j):=.inr ⟨j,hj,rfl⟩;have b8:∀i∈gM L,i≠j->G i≠G j:=λi hi e=>by
  have:=h.apart;obtain⟨p,hp,rfl⟩:=Ly hi;obtain⟨q,hq,rfl⟩:=Ly hj;rcases Nat.lt_trichotomy p q with h1|h1|h1
  .exact Pk.1 this p q hp hq h1
  .subst h1;exact absurd rfl e
  .exact(Pk.1 this q p hq hp h1).symm
 have hM:∀k,gP S G (rj L j ai) k↔gP S G L k:=λk=>by unfold gP;rw [P8]
 refine⟨λy hy=>?_,by rw [P8];exact h.apart,h.res.fO λk hk=>hc.block k (h.res.lt k hk) (λe=>h.sep j hj (e▸hk)),by rw [P8];exact h.sep,?_,?_,h.chg.step hc (λi hi e=>by subst e;exact h.mine _ Tu hi),λk hk=>h.mine k ((hM k).1 hk),h.eS⟩
 .rcases adV h.nodup y hy with⟨h1,h2⟩|⟨x,h1,h2,rfl⟩
  .refine⟨(h.var y h1).1.Qv (b8 _ (dv.2 ⟨y,h1,rfl⟩) h2) _,(h.var y h1).2⟩
  .subst h2;exact⟨(h.var x h1).1.row _,hp,(h.var x h1).2.2⟩
 .refine h.fact.AW (D':=xh b.X S G (rj L j ai)) (hc.mono (D':=xh b.X S G L) λi _ e=>by subst e;exact .inr Tu) λi _ hd=>?_;exact hd.imp id (hM i).1
 .refine h.fresh.AW (D':=Br b S G (rj L j ai)) (hc.mono (D':=Br b S G L) λi _ e=>by subst e;exact .inr Tu) λi _ hd=>?_;exact hd.imp id (hM i).1
end
def a9(P:ym)(b:bO)(ops:aZ)(Q:bK)(N:Nat)(l:aN)(e:Env):Prop:=∀a w,iz b N e a w->wpList P ops Q l a w
def af4{P:ym}{o:yk}{ty:yn}{x:yo}(ho:o.op = .box ty x)(a:Act)(w:yp):(execOp a.eval o).run P w = .ok (.value (eE w.heap.size)) (w.alloc (.cells (a.eval x).cells ty)):=by unfold execOp;simp [ho,Instr.box,newVar,newRow]
def Ic{L:aH}{j:Nat}{ai:cJ}(h:mJ L j=some ai):j∈gM L:=by obtain⟨x,hx,rfl,_⟩:=tR h;exact dv.2 ⟨x,hx,rfl⟩
section
variable{P:ym}{b:bO}{T:eG}{ops:aZ}{Q:bK}{N:Nat}{R:bF}{F M:aE}
def nA{o:yk}{l:aN}{a:Act}{w w':yp}{v:yl}(hw:aU o (yielded ops a.tmps)=true)(hr:(execOp a.eval o).run P w = .ok (.value v) w')(h:wpList P ops Q l (a.put o.dst v) w'):wpList P ops Q (o::l) a w:=by unfold wpList;rw [if_pos hw];refine .inl ?_;unfold fW;rw [hr];exact h
def CI{o:yk}{l:aN}{a:Act}{w w':yp}(hw:aU o (yielded ops a.tmps)=true)(hr:(execOp a.eval o).run P w = .ok .skip w')(h:wpList P ops Q l (a.put o.dst undef) w'):wpList P ops Q (o::l) a w:=by unfold wpList;rw [if_pos hw];refine .inl ?_;unfold fW;rw [hr];exact h
def aiS{o:yk}{l:aN}{a:Act}{w:yp}(hw:aU o (yielded ops a.tmps)=true)(h:wpList P ops Q (z6 o::l) a w):wpList P ops Q (o::l) a w:=by obtain⟨dst,op,ty,pos,af,gd⟩:=o;unfold wpList at h ⊢;rw [if_pos hw];rw [if_pos (by rfl)] at h;exact h
def MZ.put{e:Env}{G:aK}{S:cn}{a:Act}{w:yp}(h:MZ b N e G S a w){k:Nat}(hk:aW k N=true){v:aq}(ab:v.aI):MZ b N { e with E:=(k,v)::e.E } G S (a.put (some k) (v.den G)) w:=⟨h.fr.put hk _,h.ok.cons ab,h.st⟩
theorem CV(hT:fh P T):∀{l:aN} {E:aG} {L:aH},a9 P b ops Q N (oL T ops N l E L).1 ⟨(oL T ops N l E L).2.1,(oL T ops N l E L).2.2,R,F,M⟩->a9 P b ops Q N l ⟨E,L,R,F,M⟩
 | [],_,_,h=>h
 | o::l,E,L,h=>by
  intro a w ⟨G,S,hs⟩;have aa:=hs.st;dsimp only at aa;unfold oL at h;cases hw:vR ops N E o with
  | none=>rw [hw] at h;exact h a w ⟨G,S,hs⟩
  | some q =>
   rw [hw] at h;have qh:=Gk hs.fr hw
   cases q with
   | false =>
    dsimp only at h
    have key:∀K,wpList P ops Q l (a.put o.dst undef) w->K=(o::l)->wpList P ops Q K a w:=λK hk e=>by rw [e];unfold wpList;rw [qh,if_neg (by decide)];exact hk
    cases hd:o.dst with
    | none =>
     rw [hd] at h;exact key _ (by rw [hd];exact CV hT h a w ⟨G,S,hs⟩) rfl
    | some k =>
     rw [hd] at h
     dsimp only at h
     cases hk:aW k N with
     | false=>rw [hk] at h;exact h a w ⟨G,S,hs⟩
     | true =>
      rw [hk] at h;exact key _ (by rw [hd];exact CV hT h _ w ⟨G,S,hs.put (v:=.v undef) hk trivial⟩) rfl
   | true =>
    dsimp only at h
    cases hd:o.dst with
    | none =>
     rw [hd] at h
     dsimp only at h
     cases ab:VY T E L o.op with
     | none=>rw [ab] at h;exact aiS qh (h a w ⟨G,S,hs⟩)
     | some jp =>
      obtain⟨j,qs⟩:=jp;rw [ab] at h
      dsimp only at h
      obtain⟨dst,op,ty,pos,af,gd⟩:=o
      dsimp only at ab hd
      subst hd
      cases op<;>first|(cases ab;done)|skip
      rename_i t x y
      simp only [VY] at ab
      split at ab
      .rename_i i off q hx hy
       split at ab
       .rename_i ai hps
        split at ab
        .rename_i qs' hq;injection ab with ab;injection ab with e1 e2;subst e1 e2;obtain⟨z,hz,rfl,rfl⟩:=tR hps;obtain⟨h3,h4⟩:=agU hT (aa.zu z hz) (hs.ok.dy hy) hq;have e1:=hs.fr.eval (bH hx);have e2:=hs.fr.eval (bH hy);refine CI (w':=w.setRow (G z.j) (a7 qs')) qh ?_ (CV hT h _ _ ⟨G,S,hs.fr,hs.ok,aa.set (Ic hps) h3⟩);unfold execOp;simp only [e1,e2,aq.den,h4 (aa.at z hz),bI,bM,bS]
        .cases ab
       .cases ab
      .cases ab
    | some k =>
     rw [hd] at h
     dsimp only at h
     cases hk:aW k N with
     | false=>rw [hk] at h;exact h a w ⟨G,S,hs⟩
     | true =>
      rw [hk] at h
      dsimp only at h
      cases ab:nz T E L o.op with
      | some v =>
       rw [ab] at h;obtain⟨h1,h2⟩:=zH hT hs.ok aa.zu ab;exact nA qh (h2 hs.fr aa.at) (by rw [hd];exact CV hT h _ w ⟨G,S,hs.put hk h1⟩)
      | none =>
       rw [ab] at h
       dsimp only at h
       cases hn:Pu T E L k o.op with
       | none=>rw [hn] at h;exact aiS qh (h a w ⟨G,S,hs⟩)
       | some tp =>
        obtain⟨ty,ai⟩:=tp;rw [hn] at h
        dsimp only at h
        have key:ch ai->tq k L=true->xE k E=true->(execOp a.eval o).run P w = .ok (.value (eE w.heap.size)) (w.alloc (.cells (a7 ai) ty))->wpList P ops Q (o::l) a w:=λhp hf EL hr=>by refine nA qh hr ?_;rw [hd];have lk:=hs.fr.put hk (eE w.heap.size);refine CV hT h _ _ ⟨_,S,?_,hs.ok.cons trivial,aa.new hf hp⟩;show Fr N ((k,.pointer (some ⟨if k=k then w.heap.size else G k,0,none⟩))::bG _ E) _;rw [if_pos rfl,Nq EL];exact lk
        obtain⟨dst,op,ty',pos,af,gd⟩:=o
        dsimp only at hn hd
        subst hd
        cases op<;>first|(cases hn;done)|skip
        .simp only [Pu] at hn
         split at hn
         .rename_i r hr hf EL;injection hn with hn;injection hn with e1 e2;subst e1 e2;obtain⟨h3,h4⟩:=oX hT hr;subst h4;obtain⟨it,d,h5,_,_,h6,_⟩:=h3.info;exact key h3.2 hf EL (GQ rfl (by rw [h5];exact h6) a w)
         .cases hn
        .simp only [Pu] at hn
         split at hn
         .rename_i qs hx hf EL;injection hn with hn;injection hn with e1 e2;subst e1 e2;have e1:=hs.fr.eval (bH hx);refine key (hs.ok.dy hx) hf EL ?_;rw [af4 rfl,e1];rfl
         .rename_i s hx hf EL
          split at hn
          .rename_i hfc;injection hn with hn;injection hn with e1 e2;subst e1 e2;have e1:=hs.fr.eval (bH hx);have Ce:s.aI:=hs.ok.dy hx;obtain⟨h5,h6⟩:=YH Ce hfc;refine key (λp hp=>by rw [bU.1 hp];exact⟨Ce,h5,h6⟩) hf EL ?_;rw [af4 rfl,e1];show _=Result.ok _ (w.alloc (.cells #[s.den] _));rw [<-h6];rfl
          .cases hn
         .cases hn
def FB(hT:fh P T){l l':aN}{E E':aG}{L L':aH}(h:oL T ops N l E L=(l',E',L'))(hn:a9 P b ops Q N l' ⟨E',L',R,F,M⟩):a9 P b ops Q N l ⟨E,L,R,F,M⟩:=CV hT (by rw [h];exact hn)
end
end Go.Proofs.Q
