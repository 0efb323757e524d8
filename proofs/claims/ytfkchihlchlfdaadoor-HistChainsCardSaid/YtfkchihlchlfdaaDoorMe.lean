import Derived.Test.YtfkchihlchlfdaaDoorMd
import Derived.Great.BuildSlice
import Derived.Test.YtfkchihlchlfdaaDoorMb
set_option maxRecDepth 100000
set_option maxHeartbeats 4000000
open Array renaming length_toList->dS,range->Bd
open Bool renaming and_eq_true->aV
open Fin renaming ext->nC
open Go.Addr renaming add_mid->k9
open Go.Ending renaming returned->l7
open Go.Region renaming wanted->aL
open List renaming replicate->aD,length_append->aO,append_assoc->aU,length_take->aZ,size_toArray->bA,mem_cons_of_mem->bE,length_cons->bW,mem_cons->cA,mem_singleton->cG,map_cons->cH,eq_nil_of_length_eq_zero->cQ,take_append_drop->fQ,mem_map->fV,length_drop->iG,nil_append->jD,mem_range'_1->nI,range'->tB,nodup_cons->AV,flatMap_cons->CI
open List.cons renaming injEq->pC
open Nat renaming le_refl->aF,blt->aQ,eq_of_beq_eq_true->bL,lt_of_le_of_lt->bR,mod_eq_of_lt->bS,pow_succ->dE,mod_lt->eR,add_zero->fJ,div_le_self->gJ,mul_comm->gN,beq->g7,le_trans->jL,mul_assoc->kJ,two_pow_pos->lL,mul_le_mul->mJ,le_of_dvd->mY,dvd_of_mod_eq_zero->oO,pow_add->o5,add_mul->rH,gcd->rI,dvd_trans->tK,pow_mul->wP,mul_mod->wR,add_sub_cancel'->AU,eq_zero_or_pos->Bp,one_mul->CG,mul_succ->CJ,div_lt_of_lt_mul->C1,sub_mod_eq_zero_of_mod_eq->Fb,eq_zero_of_dvd_of_lt->KK,mod_eq_zero_of_dvd->Mi
open Option renaming map_some->fF
open Option.some renaming injEq->bH
open Prod.mk renaming injEq->CF
open UInt8 renaming ofNat->aX
namespace Go.Proofs.YtfkchihlchlfdaaDoor
open Go.RowKit Go.IntWalk
def iH {α : Type} (fe : α -> SQ) (l : List α) : List Value:=l.flatMap λx=>(fe x).cl
section
variable {α : Type} {k : Nat} {fe : α -> SQ} {l m : List α}
theorem LR : iH fe (l ++ m) = iH fe l ++ iH fe m:=List.flatMap_append
theorem rV (h : OkF k fe l) : (iH fe l).length = l.length * k:=by
 induction l with
 | nil=>simp [iH]
 | cons x l ih =>
  have h1:=ih λy hy=>h y (by simp [hy]);have h2:=(h x (by simp)).2;simp only [iH,CI,aO,bW] at h1 ⊢;rw [h1,h2,rH]
  omega
theorem LQ (h : OkF k fe l) : ∀ v ∈ iH fe l,v.oneCell' = true:=λv hv=>by
 obtain ⟨x,hx,hv⟩:=List.mem_flatMap.1 hv;exact SQ.TW (h x hx).1 v hv
theorem AN (h : OkF k fe l) {i : Nat} {x : α} (hi : l[i]? = some x) : ∃ A Z,iH fe l = A ++ ((fe x).cl ++ Z) /\ A.length = k * i /\ ∀ y : α,iH fe (l.set i y) = A ++ ((fe y).cl ++ Z):=by
 induction l generalizing i with
 | nil=>simp at hi
 | cons y l ih =>
  cases i with
  | zero =>
   simp only [List.getElem?_cons_zero,bH] at hi;subst hi;exact ⟨[],iH fe l,by simp [iH],rfl,λz=>by simp [iH]⟩
  | succ i =>
   obtain ⟨A,Z,h1,h2,h3⟩:=ih (λz hz=>h z (by simp [hz])) (by simpa using hi);refine ⟨(fe y).cl ++ A,Z,?_,?_,λz=>?_⟩
   ·rw [aU,<-h1]
    simp [iH]
   ·rw [aO,h2,(h y (by simp)).2,CJ]
    omega
   ·rw [aU,<-h3 z]
    simp [iH]
theorem OkF.app (h : OkF k fe l) (h' : OkF k fe m) : OkF k fe (l ++ m):=λx hx=>(List.mem_append.1 hx).elim (h x) (h' x)
end
def gZ {α : Type} (lo : Nat) (e : TypeId) (k : Nat) (fe : α -> SQ) (A : Option Addr) (c : Nat) (l : List α) : Res where
  holds w S:=OkF k fe l /\ w.ownsRow lo e k (.slice A l.length c) l.length (iH fe l) /\ ∀ j,S j ↔ A.map (·.block) = some j
  kH:=λ{w w' S} ⟨h1,h2,h3⟩ hk=>by
    refine ⟨h1,⟨h2.1,?_⟩,h3⟩
    rcases h2.2 with h4 | ⟨g,cap,cur,hv,hb,hg,hr⟩
    · exact .inl h4
    · injection hv with h5 h6 h7
      refine .inr ⟨g,cap,cur,by rw [h5,h7],hb,?_,hr⟩
      rw [hk g ((h3 g).2 (by rw [h5]; rfl))]
      exact hg
  lt:=λ{w S} ⟨_,h2,h3⟩ j hj=>by
    have h4:=(h3 j).1 hj
    cases A with
    | none=>cases h4
    | some a =>
      have:=(h2.lt a.block rfl).2
      simp only [fF,bH] at h4
      rw [<-h4]
      exact this
section
variable {α : Type} {lo e k c : Nat} {fe : α -> SQ} {A : Option Addr} {l : List α} {w : World} {S : Nat -> Prop}
theorem gZ.rd (h : (gZ lo e k fe A c l).holds w S) : Rd k fe A c l w:=by
 obtain ⟨h1,h2,h3⟩:=h
 rcases h2.2 with ⟨h4,h5⟩ | ⟨g,cap,cur,hv,hb,hg,hn,hm,hs,ht⟩
 ·injection h4 with h6 h7 h8
  have:=cQ h5;subst h6 h8 this;exact Rd.nil _ _ _
 ·injection hv with h6 h7 h8
  subst h6 h8;refine ⟨hn,by simp only [maxLen] at hm; omega,λh=>(by cases h),h1,λ_=>⟨g,0,rfl,(Array.getElem?_eq_some_iff.1 hg).1,λi x hi j v hj=>?_⟩⟩;obtain ⟨B,Z,h9,h10,_⟩:=AN h1 hi;have hB : Blk w g e cur:=hg;rw [hB.cell,Nat.zero_add];have hlt:=(List.getElem?_eq_some_iff.1 hj).1
  have h11 : (iH fe l)[k * i + j]? = some v:=by
   rw [h9,List.getElem?_append_right (by omega),h10,Nat.add_sub_cancel_left,List.getElem?_append_left hlt];exact hj
  rw [<-ht,List.getElem?_take] at h11
  split at h11
  ·simpa using h11
  ·cases h11
theorem gZ.inb (h : (gZ lo e k fe A c l).holds w S) : ∀ a,A = some a -> lo <= a.block /\ a.block < w.heap.size:=λa ha=>h.2.1.lt a.block (by rw [ha]; rfl)
end
theorem GU {k : Nat} : ∀ (vs : List Value) (A Z : List Value) (i : Nat),A.length = i * k -> Z.length = k * vs.length -> (∀ v ∈ vs,v.cells.size = k) ->
  Instr.fill (λi=>some (i * k,k)) (A ++ Z).toArray ((vs.zipIdx i).map λx=>(x.2,x.1)) = some (A ++ vs.flatMap λv=>v.cells.toList).toArray
 | [],A,Z,i,_,hZ,_=>by
  obtain rfl:=cQ (show Z.length = 0 by simpa using hZ)
  rfl
 | v :: vs,A,Z,i,hA,hZ,hl=>by
  rw [bW,CJ] at hZ;have hk:=hl v (by simp);have e : Z = Z.take k ++ Z.drop k:=(fQ k Z).symm
  have tk : (Z.take k).length = k:=by rw [aZ]; omega
  rw [e,List.zipIdx_cons,cH];rw [Cn (λi=>some (i * k,k)) i k A (Z.take k) (Z.drop k) v.cells.toList _ v (by rw [hA]) (by rw [dS,hk]) tk (by simp),<-aU];rw [GU vs (A ++ v.cells.toList) (Z.drop k) (i + 1) (by rw [aO,show v.cells.toList.length = k from by rw [dS,hk],hA,Nat.succ_mul]) (by rw [iG]; omega) (λu hu=>hl u (by simp [hu]))];rw [CI,aU]
theorem Eg {P : Program} {t e : TypeId} {ie : TypeInfo} {z : Value} {k : Nat} (ht : P.underlying t = some (.slice e)) (hi : P.info? e = some ie) (hz : ie.zero = some z) (hs : ie.size = k) (vs : List Value) (n : Nat) (parts : Array (Nat × Value)) (hp : parts.toList = (vs.zipIdx 0).map λx=>(x.2,x.1)) (hn : vs.length = n) (h0 : 0 < n * k) (h24 : n * k <= 16777216) (hl : ∀ v ∈ vs,v.cells.size = k) (w : World) :
  (Instr.buildSlice t n parts).run P w = .ok (.slice (some ⟨w.heap.size,0,none⟩) n n) (w.alloc (.cells (vs.flatMap λv=>v.cells.toList).toArray e)):=by
 subst hs;refine run_buildSlice w t e n parts _ ie z ht hi hz (by omega) (by omega) ?_;rw [hp]
 have hsz : ((Bd (n * ie.size)).map (z.cells[· % z.cells.size]!)).size = n * ie.size:=by simp
 generalize (Bd (n * ie.size)).map (z.cells[· % z.cells.size]!) = Z at *;have:=GU (k:=ie.size) vs [] Z.toList 0 (by simp) (by rw [dS,hsz,hn,gN]) hl
 rwa [jD,jD,Array.toArray_toList] at this
def slS (T : List TyR) (t : TypeId) : Option (TypeId × Nat × Nat):=match oK T t with
  | some r=>match r.el with
    | some e=>match oK T e with
      | some re=>some (e,mF re.zero,re.w)
      | none=>none
    | none=>none
  | none=>none
theorem zK {P : Program} {T : List TyR} (hT : OkT P T) {t e : TypeId} {k bs : Nat} (h : slS T t = some (e,k,bs)) : P.underlying t = some (.slice e) /\ ∃ ie z,P.info? e = some ie /\ ie.zero = some z /\ ie.size = k /\ ie.bytes = bs /\ z.cells.size = k /\ ∃ zs,OkP zs /\ z.cells = eO zs /\ ∃ r,oK T e = some r /\ r.zero = zs:=by
 unfold slS at h
 split at h
 ·rename_i r hr
  split at h
  ·rename_i e' he
   split at h
   ·rename_i re hre
    injection h with h
    injection h with e1 h
    injection h with e2 e3
    subst e1 e2 e3;obtain ⟨h1,rfl⟩:=iB hT hr;have hre':=hre;have h2:=iB hT hre;clear hre;obtain ⟨h2,rfl⟩:=h2;obtain ⟨it,d,h5,_,h6,h7,_,_,_,_,_,h8⟩:=h2.info
    cases hz : it.zero with
    | none=>rw [hz] at h7; cases h7
    | some z =>
     rw [hz] at h7;simp only [fF,bH] at h7;exact ⟨Sd h1 he,it,z,h5,hz,h6,h8,by rw [h7,h2.2.size],re.zero,h2.2,h7,re,hre',rfl⟩
   ·cases h
  ·cases h
 ·cases h
theorem gZ.new {α : Type} {lo e k : Nat} {fe : α -> SQ} {l : List α} (w : World) (hlo : lo <= w.heap.size) (h : OkF k fe l) (hm : l.length <= 9223372036854775807) : (gZ lo e k fe (some ⟨w.heap.size,0,none⟩) l.length l).holds (w.alloc (.cells (iH fe l).toArray e)) λj=>j = w.heap.size :=
 ⟨h,⟨rV h,.inr ⟨w.heap.size,l.length,(iH fe l).toArray,rfl,hlo,heap_alloc_new w _,aF _,by simp only [maxLen]; omega,by simp [rV h],List.take_of_length_le (Nat.le_of_eq (rV h))⟩⟩,λj=>by simp [eq_comm]⟩
section
variable {α : Type} {fe : α -> SQ} {l : List α} {P : Program} {T : List TyR} {b : iF} {ops : Array Oper} {Q : Exit -> Act -> World -> Prop} {N : Nat} {E : SE} {L : List LV} {R : List Res} {F M : World -> Prop} {o o2 : Oper} {rest : List Oper} {k e sz bs : Nat} {t : TypeId}
theorem Gl (hg : o.guard = none) {a : Act} : aL o (yielded ops a.tmps) = true:=by simp [aL,hg]
theorem vJ {G : Nat -> Nat} {a : Act} (ha : Fr N (fY G E) a) : ∀ (l : List (Nat × Operand)) (m : List (Value × Nat)),l.map (λp=>(p.1,(evS E p.2).map (SV.den G))) = m.map (λx=>(x.2,some x.1)) -> l.map (λ(i,x)=>(i,a.eval x)) = m.map λx=>(x.2,x.1)
 | [],[],_=>rfl
 | [],_ :: _,h=>by cases h
 | _ :: _,[],h=>by cases h
 | p :: l,u :: m,h=>by
  simp only [cH,pC,CF] at h ⊢;refine ⟨⟨h.1.1,?_⟩,vJ ha l m h.2⟩
  cases hx : evS E p.2 with
  | none=>rw [hx] at h; cases h.1.2
  | some v =>
   rw [hx] at h;simp only [fF,bH] at h;exact (ha.eval (eF hx)).trans h.1.2
theorem p9 {n : Nat} {parts : Array (Nat × Operand)} (hT : OkT P T) (lo : Nat) (l : List α) (hg : o.guard = none) (hd : o.dst = some k) (hk : aQ k N = true) (ho : o.op = .buildSlice t n parts) (hs : slS T t = some (e,sz,bs))
  (hp : ∀ G : Nat -> Nat,parts.toList.map (λp=>(p.1,(evS E p.2).map (SV.den G))) = ((l.map λx=>(fe x).den).zipIdx 0).map λx=>(x.2,some x.1)) (hn : l.length = n) (h0 : 0 < n * sz) (h24 : n * sz <= 16777216) (hok : OkF sz fe l) (hlo : lo <= b.B.heap.size)
  (hc : ∀ A,lS P b ops Q N rest ⟨(k,.v (.slice A n n)) :: E,L,gZ lo e sz fe A n l :: R,F,M⟩) : lS P b ops Q N (o :: rest) ⟨E,L,R,F,M⟩:=λa w ⟨G,S,h1,h2,h3⟩=>by
 obtain ⟨ht,ie,z,hi,hz,hsz,hbs,hzs,_⟩:=zK hT hs
 have hr:=Eg (P:=P) ht hi hz hsz (l.map λx=>(fe x).den) n (parts.map λ(i,x)=>(i,a.eval x)) (by rw [Array.toList_map]; exact vJ h1 _ _ (hp G)) (by rw [List.length_map,hn]) h0 h24 (λv hv=>by
  obtain ⟨x,hx,rfl⟩:=fV.1 hv;have:=(hok x hx).2
  rwa [SQ.cl,dS] at this) w
 have e1 : ((l.map λx=>(fe x).den).flatMap λv=>v.cells.toList) = iH fe l:=by rw [List.flatMap_map]; rfl
 rw [e1] at hr;subst hn
 refine pL (v:=.slice (some ⟨w.heap.size,0,none⟩) l.length l.length) (w':=w.alloc (.cells (iH fe l).toArray e)) (Gl hg) (by
  unfold execOp
  simp only [ho,Sem.run_bind,hr,Result.andThen_ok,Sem.run_pure]) ?_
 rw [hd];have hsz' : 0 < sz:=Nat.pos_of_mul_pos_left h0
 obtain ⟨S',h4⟩:=h3.Tu ((Below.refl w.heap.size w).alloc (aF _) _) (gZ.new (lo:=lo) w (jL hlo h3.chg.size) hok (by
  have:=Nat.le_mul_of_pos_right l.length hsz'
  omega)) (λj hj=>Nat.le_of_eq hj.symm)
 exact hc _ _ _ ⟨G,S',h1.put hk _,h2.cons trivial,h4⟩
end
structure PU where
  k1 : Nat
  k2 : Nat
  t : TypeId
  A : Option Addr
  n : Nat
  c : Nat
  q : SQ
theorem MG {w : World} {lo e k n : Nat} {v : Value} {xs : List Value} (h : w.ownsRow lo e k v n xs) : ∃ A c,v = .slice A n c:=by
 rcases h.2 with ⟨h1,h2⟩ | ⟨g,cap,cur,hv,_⟩
 ·exact ⟨none,0,by rw [h1,h2]⟩
 ·exact ⟨_,_,hv⟩
theorem tX (A : Option Addr) (n c : Nat) : (Value.slice A n c).ownBlock = A.map (·.block):=by cases A <;> rfl
theorem gZ.grow {α : Type} {P : Program} {T : List TyR} (hT : OkT P T) {t e : TypeId} {lo sz bs c d : Nat} {fe : α -> SQ} {A : Option Addr} {l m : List α} {ad : Addr} {w : World} {S : Nat -> Prop} (ty : TypeId) (hs : slS T t = some (e,sz,bs)) (h0 : 0 < sz) (h : (gZ lo e sz fe A c l).holds w S) (hok : OkF sz fe m)
  (hcells : ∀ j u,(iH fe m)[j]? = some u -> w.cell? (ad.add j) = some u) (hb : (l.length + m.length) * bs <= 140737488355328) (hm : l.length + m.length <= 9223372036854775807 - 64) (hlo : lo <= w.heap.size) :
  ∃ A' c' w' S',(Builtin.append_ #[t,t] ty #[.slice A l.length c,.slice (some ad) m.length d]).run P w = .ok (.slice A' (l ++ m).length c') w' /\ Chg S w w' /\ (gZ lo e sz fe A' c' (l ++ m)).holds w' S' /\ ∀ k,S' k -> k < w.heap.size -> S k:=by
 obtain ⟨ht,ie,z,hi,hz,hsz,hbs,hzs,_⟩:=zK hT hs;obtain ⟨h1,h2,h3⟩:=h;obtain ⟨v',w',hr,ho,hg,_,hat⟩:=run_append_own_at (P:=P) w lo t ty e ie z sz bs ht hi hz hsz hbs hzs h0 _ l.length (iH fe l) h2 ad m.length d (iH fe m) (rV hok) hcells (LQ hok) (by simp only [maxLen]; omega) hb hlo;rw [<-LR] at ho;obtain ⟨A',c',rfl⟩:=MG ho;rw [tX] at hg hat;rw [tX] at hat;rw [<-aO] at hr ho;refine ⟨A',c',w',λj=>A'.map (·.block) = some j,hr,(Chg.NH hg).mono λi _ hi=>(h3 i).2 hi,⟨h1.app hok,ho,λ_=>Iff.rfl⟩,λj hj hlt=>?_⟩
 rcases hat with e1 | e1
 ·exact (h3 j).2 (e1.symm.trans hj)
 ·rw [hj] at e1
  injection e1 with e1
  omega
theorem BJ {α : Type} {lo e k c : Nat} {fe : α -> SQ} {A : Option Addr} {l : List α} {L : List LV} {R : List Res} {F M : World -> Prop} (i : Nat) (hi : R[i]? = some (gZ lo e k fe A c l)) : ∀ G S w,View G S L R F M w -> Rd k fe A c l w:=λ_ _ _ h=>by
 obtain ⟨S1,_,h1,_⟩:=h.res.at hi;exact gZ.rd h1
theorem lN {α : Type} {k c : Nat} {fe : α -> SQ} {A : Option Addr} {l : List α} {L : List LV} {R : List Res} {F M : World -> Prop} (h : ∀ w,F w -> M w -> Rd k fe A c l w) : ∀ G S w,View G S L R F M w -> Rd k fe A c l w:=λ_ _ w hv=>h w hv.fact hv.fresh
section
variable {α : Type} {fe : α -> SQ} {b : iF} {G : Nat -> Nat} {S : Nat -> Prop} {L : List LV} {R : List Res} {F M : World -> Prop} {w : World} {lo e k c : Nat} {A : Option Addr} {l : List α}
theorem StW.free (h : StW b G S L R F M w) {i : Nat} (hi : R[i]? = some (gZ lo e k fe A c l)) : ∃ S',StW b G S' L (R.eraseIdx i) (λw=>Rd k fe A c l w /\ F w) M w:=by
 obtain ⟨S1,S2,h1,h2,h3,h4⟩:=h.let hi;refine ⟨S2,h4.and λw' hw=>gZ.rd h1 |>.kH hw.size λg hg hlt=>hw.block g hlt ?_⟩;have hS1 : S1 g:=(h1.2.2 g).2 hg
 rintro (hx | hx | ⟨j,hj,rfl⟩)
 ·exact (h.old g hx).2 (h.mine g (.inl ((h3 g).2 (.inl hS1))) (h.old g hx).1)
 ·exact h2 g hS1 hx
 ·exact h.sep j hj ((h3 _).2 (.inl hS1))
end
section
variable {α : Type} {fe : α -> SQ} {P : Program} {b : iF} {ops : Array Oper} {Q : Exit -> Act -> World -> Prop} {N : Nat} {E : SE} {L : List LV} {R : List Res} {F M : World -> Prop} {lo e k c : Nat} {A : Option Addr} {l : List α}
theorem rC {l' : List Oper} (i : Nat) (hi : R[i]? = some (gZ lo e k fe A c l)) (h : lS P b ops Q N l' ⟨E,L,R.eraseIdx i,λw=>Rd k fe A c l w /\ F w,M⟩) : lS P b ops Q N l' ⟨E,L,R,F,M⟩:=λa w ⟨G,S,h1,h2,h3⟩=>by
 obtain ⟨S',h4⟩:=h3.free hi;exact h a w ⟨G,S',h1,h2,h4⟩
theorem Ee {x : Code} (i : Nat) (hi : R[i]? = some (gZ lo e k fe A c l)) (h : cS P b x Q N ⟨E,L,R.eraseIdx i,λw=>Rd k fe A c l w /\ F w,M⟩) : cS P b x Q N ⟨E,L,R,F,M⟩:=λa w ⟨G,S,h1,h2,h3⟩=>by
 obtain ⟨S',h4⟩:=h3.free hi;exact h a w ⟨G,S',h1,h2,h4⟩
end
def TY : List TyR:=[
  { t:=2,kind:=0,zero:=[.one (.v (.int .i64 0))],ik:=some .i64,w:=8 },
  { t:=3,kind:=0,zero:=[.one (.v (.int .i64 0))],ik:=some .i64,w:=8 },
  { t:=4,kind:=0,zero:=[.one (.v (.bool false))],w:=1 },
  { t:=5,kind:=0,zero:=[.one (.v (.int .u8 0))],ik:=some .u8,w:=1 },
  { t:=9,kind:=0,zero:=[.one (.v (.string ⟨#[]⟩))],w:=16 },
  { t:=12,kind:=0,zero:=[.one (.v (.int .u64 0))],ik:=some .u64,w:=8 },
  { t:=13,kind:=2,zero:=[.one (.v (.string ⟨#[]⟩)),.one (.v (.int .u64 0))],w:=24 },
  { t:=21,kind:=0,zero:=[.one (.v (.int .i32 0))],ik:=some .i32,w:=4 },
  { t:=22,kind:=0,zero:=[.one (.v (.slice none 0 0))],el:=some 24,w:=24 },
  { t:=24,kind:=1,zero:=[.agg 32 (By (aD 32 0)).toArray],w:=32 },
  { t:=25,kind:=1,zero:=[.agg 64 (By (aD 64 0)).toArray],w:=64 },
  { t:=26,kind:=2,zero:=[.agg 32 (By (aD 32 0)).toArray,.one (.v (.int .i64 0)),.agg 32 (By (aD 32 0)).toArray,.agg 64 (By (aD 64 0)).toArray],w:=136 },
  { t:=27,kind:=2,zero:=[.agg 32 (By (aD 32 0)).toArray,.one (.v (.int .i64 0)),.agg 32 (By (aD 32 0)).toArray,.agg 64 (By (aD 64 0)).toArray],w:=136 },
  { t:=29,kind:=0,zero:=[.one (.v (.int .i64 0))],ik:=some .i64,w:=8 },
  { t:=36,kind:=0,zero:=[.one (.v (.int .u8 0))],ik:=some .u8,w:=1 },
  { t:=37,kind:=0,zero:=[.one (.v (.slice none 0 0))],el:=some 5,w:=24 },
  { t:=40,kind:=0,zero:=[.one (.v (.int .u64 0))],ik:=some .u64,w:=8 },
  { t:=41,kind:=0,zero:=[.one (.v (.slice none 0 0))],el:=some 3,w:=24 },
  { t:=49,kind:=0,zero:=[.one (.v (.int .u64 0))],ik:=some .u64,w:=8 },
  { t:=55,kind:=1,zero:=[.agg 4 (aD 4 (.int .u64 0)).toArray],w:=32 },
  { t:=56,kind:=2,zero:=[.agg 4 (aD 4 (.int .u64 0)).toArray],w:=32 },
  { t:=57,kind:=2,zero:=[.agg 4 (aD 4 (.int .u64 0)).toArray],w:=32 },
  { t:=61,kind:=0,zero:=[.one (.v (.slice none 0 0))],el:=some 22,w:=24 },
  { t:=63,kind:=0,zero:=[.one (.v (.slice none 0 0))],el:=some 37,w:=24 },
  { t:=64,kind:=0,zero:=[.one (.v (.int .u32 0))],ik:=some .u32,w:=4 },
  { t:=65,kind:=1,zero:=[.agg 8 (aD 8 (.int .u32 0)).toArray],w:=32 },
  { t:=70,kind:=1,zero:=[.agg 8 (By (aD 8 0)).toArray],w:=8 },
  { t:=73,kind:=1,zero:=[.agg 5 (aD 5 (.int .u64 0)).toArray],w:=40 },
  { t:=74,kind:=2,zero:=[.agg 5 (aD 5 (.int .u64 0)).toArray],w:=40 },
  { t:=75,kind:=2,zero:=[.agg 5 (aD 5 (.int .u64 0)).toArray],w:=40 },
  { t:=76,kind:=2,zero:=[.agg 5 #[.int .u64 0,.int .u64 0,.int .u64 0,.int .u64 0,.int .u64 0],.agg 5 #[.int .u64 0,.int .u64 0,.int .u64 0,.int .u64 0,.int .u64 0],.agg 5 #[.int .u64 0,.int .u64 0,.int .u64 0,.int .u64 0,.int .u64 0],.agg 5 #[.int .u64 0,.int .u64 0,.int .u64 0,.int .u64 0,.int .u64 0]],w:=160 },
  { t:=77,kind:=2,zero:=[.agg 5 #[.int .u64 0,.int .u64 0,.int .u64 0,.int .u64 0,.int .u64 0],.agg 5 #[.int .u64 0,.int .u64 0,.int .u64 0,.int .u64 0,.int .u64 0],.agg 5 #[.int .u64 0,.int .u64 0,.int .u64 0,.int .u64 0,.int .u64 0],.agg 5 #[.int .u64 0,.int .u64 0,.int .u64 0,.int .u64 0,.int .u64 0]],w:=160 },
  { t:=91,kind:=1,zero:=[.agg 8 (aD 8 (.int .u64 0)).toArray],w:=64 },
  { t:=93,kind:=1,zero:=[.agg 64 (aD 64 (.int .u32 0)).toArray],w:=256 },
  { t:=96,kind:=1,zero:=[.agg 80 (aD 80 (.int .u64 0)).toArray],w:=640 },
  { t:=97,kind:=0,zero:=[.one (.v (.slice none 0 0))],el:=some 40,w:=24 },
  { t:=98,kind:=0,zero:=[.one (.v (.slice none 0 0))],el:=some 49,w:=24 },
  { t:=111,kind:=2,zero:=[.agg 5 #[.int .u64 0,.int .u64 0,.int .u64 0,.int .u64 0,.int .u64 0],.agg 5 #[.int .u64 0,.int .u64 0,.int .u64 0,.int .u64 0,.int .u64 0],.agg 5 #[.int .u64 0,.int .u64 0,.int .u64 0,.int .u64 0,.int .u64 0],.agg 5 #[.int .u64 0,.int .u64 0,.int .u64 0,.int .u64 0,.int .u64 0]],w:=160 },
  { t:=112,kind:=2,zero:=[.agg 5 #[.int .u64 0,.int .u64 0,.int .u64 0,.int .u64 0,.int .u64 0],.agg 5 #[.int .u64 0,.int .u64 0,.int .u64 0,.int .u64 0,.int .u64 0],.agg 5 #[.int .u64 0,.int .u64 0,.int .u64 0,.int .u64 0,.int .u64 0],.agg 5 #[.int .u64 0,.int .u64 0,.int .u64 0,.int .u64 0,.int .u64 0]],w:=160 },
  { t:=113,kind:=1,zero:=[.agg 160 #[.int .u64 0,.int .u64 0,.int .u64 0,.int .u64 0,.int .u64 0,.int .u64 0,.int .u64 0,.int .u64 0,.int .u64 0,.int .u64 0,.int .u64 0,.int .u64 0,.int .u64 0,.int .u64 0,.int .u64 0,.int .u64 0,.int .u64 0,.int .u64 0,.int .u64 0,.int .u64 0,.int .u64 0,.int .u64 0,.int .u64 0,.int .u64 0,.int .u64 0,.int .u64 0,.int .u64 0,.int .u64 0,.int .u64 0,.int .u64 0,.int .u64 0,.int .u64 0,.int .u64 0,.int .u64 0,.int .u64 0,.int .u64 0,.int .u64 0,.int .u64 0,.int .u64 0,.int .u64 0,.int .u64 0,.int .u64 0,.int .u64 0,.int .u64 0,.int .u64 0,.int .u64 0,.int .u64 0,.int .u64 0,.int .u64 0,.int .u64 0,.int .u64 0,.int .u64 0,.int .u64 0,.int .u64 0,.int .u64 0,.int .u64 0,.int .u64 0,.int .u64 0,.int .u64 0,.int .u64 0,.int .u64 0,.int .u64 0,.int .u64 0,.int .u64 0,.int .u64 0,.int .u64 0,.int .u64 0,.int .u64 0,.int .u64 0,.int .u64 0,.int .u64 0,.int .u64 0,.int .u64 0,.int .u64 0,.int .u64 0,.int .u64 0,.int .u64 0,.int .u64 0,.int .u64 0,.int .u64 0,.int .u64 0,.int .u64 0,.int .u64 0,.int .u64 0,.int .u64 0,.int .u64 0,.int .u64 0,.int .u64 0,.int .u64 0,.int .u64 0,.int .u64 0,.int .u64 0,.int .u64 0,.int .u64 0,.int .u64 0,.int .u64 0,.int .u64 0,.int .u64 0,.int .u64 0,.int .u64 0,.int .u64 0,.int .u64 0,.int .u64 0,.int .u64 0,.int .u64 0,.int .u64 0,.int .u64 0,.int .u64 0,.int .u64 0,.int .u64 0,.int .u64 0,.int .u64 0,.int .u64 0,.int .u64 0,.int .u64 0,.int .u64 0,.int .u64 0,.int .u64 0,.int .u64 0,.int .u64 0,.int .u64 0,.int .u64 0,.int .u64 0,.int .u64 0,.int .u64 0,.int .u64 0,.int .u64 0,.int .u64 0,.int .u64 0,.int .u64 0,.int .u64 0,.int .u64 0,.int .u64 0,.int .u64 0,.int .u64 0,.int .u64 0,.int .u64 0,.int .u64 0,.int .u64 0,.int .u64 0,.int .u64 0,.int .u64 0,.int .u64 0,.int .u64 0,.int .u64 0,.int .u64 0,.int .u64 0,.int .u64 0,.int .u64 0,.int .u64 0,.int .u64 0,.int .u64 0,.int .u64 0,.int .u64 0,.int .u64 0,.int .u64 0,.int .u64 0,.int .u64 0,.int .u64 0,.int .u64 0]],w:=1280 },
  { t:=121,kind:=1,zero:=[.agg 128 (By (aD 128 0)).toArray],w:=128 },
  { t:=125,kind:=2,zero:=[.one (.v (.int .u64 0)),.one (.v (.int .u64 0))],w:=16 },
  { t:=126,kind:=2,zero:=[.one (.v (.int .u64 0)),.one (.v (.int .u64 0))],w:=16 },
  { t:=130,kind:=0,zero:=[.one (.v (.slice none 0 0))],el:=some 116,w:=24 },
  { t:=150,kind:=0,zero:=[.one (.v (.pointer none))],pt:=true,w:=8 }]
theorem aN : OkT Tryd.prog TY:=SU (by kernel_rfl) (by kernel_rfl)
def DD : List Nat -> SE -> SE
  | [],_=>[]
  | k :: ks,E=>match kU E k with
    | some v=>(k,v) :: DD ks E
    | none=>DD ks E
theorem vM : ∀ (ks : List Nat) (E : SE),CX (DD ks E) E
 | [],_=>trivial
 | k :: ks,E=>by
  unfold DD
  split
  ·rename_i v h
   exact ⟨h,vM ks E⟩
  ·exact vM ks E
def UL (j : Nat) : List Nat -> Bool
  | []=>false
  | k :: ks=>match g7 k j with
    | true=>true
    | false=>UL j ks
def uA (js : List Nat) : List LV -> List LV
  | []=>[]
  | x :: L=>match UL x.j js with
    | true=>x :: uA js L
    | false=>uA js L
theorem zZ {js : List Nat} : ∀ {L : List LV} {x : LV},x ∈ uA js L -> x ∈ L
 | [],_,h=>by cases h
 | y :: L,x,h=>by
  unfold uA at h
  split at h
  ·rcases cA.1 h with rfl | h
   ·exact List.mem_cons_self
   ·exact bE _ (zZ h)
  ·exact bE _ (zZ h)
theorem qT {js : List Nat} : ∀ {L : List LV},(eH (uA js L)).Sublist (eH L)
 | []=>List.Sublist.slnil
 | y :: L=>by
  unfold uA
  split
  ·exact (qT (L:=L)).cons_cons _
  ·exact (qT (L:=L)).cons _
section
variable {b : iF} {N : Nat} {E : SE} {L : List LV} {R : List Res} {F M : World -> Prop} {a : Act} {w : World}
theorem StW.kH {G : Nat -> Nat} {S : Nat -> Prop} (h : StW b G S L R F M w) (js : List Nat) : StW b G S (uA js L) R F M w:=by
 have hn : ∀ j,j ∈ eH (uA js L) -> j ∈ eH L:=λj hj=>qT.subset hj;have hM : ∀ k,oV S G (uA js L) k -> oV S G L k:=λk hk=>hk.imp id λ⟨j,hj,e⟩=>⟨j,hn j hj,e⟩;exact ⟨λx hx=>h.var x (zZ hx),h.apart.sublist qT,h.res,λj hj=>h.sep j (hn j hj),h.fact.less λk _ hk=>hk.imp id (hM k),h.fresh.less λk _ hk=>hk.imp id (hM k),h.chg,λk hk=>h.mine k (hM k hk),h.old⟩
theorem St.kH (h : St b N ⟨E,L,R,F,M⟩ a w) (ks js : List Nat) : St b N ⟨DD ks E,uA js L,R,F,M⟩ a w:=by
 obtain ⟨G,S,h1,h2,h3⟩:=h;exact ⟨G,S,h1.sub (uL (vM ks E)),(vM ks E).ok h2,h3.kH js⟩
end
section
variable {P : Program} {b : iF} {T : List TyR} {Q : Exit -> Act -> World -> Prop} {N : Nat} {E E' E2 : SE} {L L' L2 : List LV} {R : List Res} {F M : World -> Prop}
theorem SJ {c : Code} (ks js : List Nat) (h1 : DD ks E = E') (h2 : uA js L = L') (h : cS P b c Q N ⟨E',L',R,F,M⟩) : cS P b c Q N ⟨E,L,R,F,M⟩:=λa w hs=>by
 subst h1 h2;exact h a w (hs.kH ks js)
theorem dZ {id : Nat} {l : List Oper} {y : Code} (hT : OkT P T) (h : sE T l.toArray N l E L = ([],E',L')) (hn : cS P b y Q N ⟨E',L',R,F,M⟩) : cS P b (.seq (.region id l.toArray false) y) Q N ⟨E,L,R,F,M⟩ :=
 RL λ_ hK=>a5 hT h (cN (hK _ hn))
theorem qO {id : Nat} {l : List Oper} (hT : OkT P T) (h : sE T l.toArray N l E L = ([],E',L')) (hn : kS b (Q .normal) N ⟨E',L',R,F,M⟩) : cS P b (.region id l.toArray false) Q N ⟨E,L,R,F,M⟩ :=
 FI (a5 hT h (cN hn))
theorem BC {c : Code} (φ : Prop) (h : ∀ w,F w -> M w -> φ) (hn : φ -> cS P b c Q N ⟨E,L,R,F,M⟩) : cS P b c Q N ⟨E,L,R,F,M⟩:=λa w hs=>by
 have hs':=hs;obtain ⟨G,S,h1,h2,h3⟩:=hs;exact hn (h w h3.all.now.1 h3.all.now.2) a w hs'
theorem dV {id : Nat} {l l' : List Oper} {y : Code} (hT : OkT P T) (h : sE T l.toArray N l E L = (l',E',L')) (hn : ∀ K : Act -> World -> Prop,(∀ e',cS P b y Q N e' -> kS b K N e') -> lS P b l.toArray (Exit.then K Q) N l' ⟨E',L',R,F,M⟩) : cS P b (.seq (.region id l.toArray false) y) Q N ⟨E,L,R,F,M⟩ :=
 RL λK hK=>a5 hT h (hn K hK)
end
def L9 (g : Nat) (t : TypeId) (ps : List Pt) (w : World) : Prop:=Blk w g t (eO ps) /\ OkP ps
instance {g : Nat} {t : TypeId} {ps : List Pt} : Pst (L9 g t ps):=⟨λ_ _ h hb=>⟨h.1.later hb,h.2⟩⟩
def RD (g : Nat) (t : TypeId) (ps : List Pt) : Res where
  holds w S:=L9 g t ps w /\ ∀ j,S j ↔ j = g
  kH:=λ⟨h1,h2⟩ hk=>⟨⟨(hk g ((h2 g).2 rfl)).trans h1.1,h1.2⟩,h2⟩
  lt:=λ⟨h1,h2⟩ j hj=>by rw [(h2 j).1 hj]; exact h1.1.lt
def eB (x : UInt8) : SQ:=.c (.v (.int .u8 (x.toNat : Int)))
def eI (i : Int) : SQ:=.c (.v (.int .i64 i))
def eY (n : Nat) (l : List UInt8) : SQ:=.p [.agg n (By l).toArray]
theorem Ve (x : UInt8) : OkP (eB x).j6 /\ (eB x).cl.length = 1:=⟨λp hp=>by rw [cG.1 hp]; exact ⟨trivial,rfl,rfl⟩,rfl⟩
theorem Vd (i : Int) : OkP (eI i).j6 /\ (eI i).cl.length = 1:=⟨λp hp=>by rw [cG.1 hp]; exact ⟨trivial,rfl,rfl⟩,rfl⟩
theorem mU {n : Nat} {l : List UInt8} (h : l.length = n) : OkP (eY n l).j6 /\ (eY n l).cl.length = n:=by
 have h1 : (By l).toArray.size = n:=by rw [bA,b6,h]
 exact ⟨λp hp=>by rw [cG.1 hp]; exact ⟨h1,lJ l⟩,by rw [SQ.cl,dS]; exact h1⟩
theorem wD (l : List UInt8) : OkF 1 eB l:=λx _=>Ve x
theorem UE (l : List Int) : OkF 1 eI l:=λx _=>Vd x
theorem NG {n : Nat} {ls : List (List UInt8)} (h : ∀ l ∈ ls,l.length = n) : OkF n (eY n) ls:=λl hl=>mU (h l hl)
theorem Ck : ∀ l : List UInt8,iH eB l = By l
 | []=>rfl
 | x :: l=>by
  have:=Ck l;simp only [iH,CI] at this ⊢;rw [this]
  rfl
theorem Rd.sb {A : Option Addr} {c : Nat} {l : List UInt8} {w : World} (h : Rd 1 eB A c l w) : SB w (.slice A l.length c) l:=by
 obtain ⟨h1,h2,h3,_,h5⟩:=h;refine ⟨A,c,rfl,h1,h2,h3,λhl=>?_⟩;obtain ⟨b,o,e,hb,hr⟩:=h5 hl;refine ⟨⟨b,o,none⟩,e,Nat.zero_le _,hb,λj x hx=>?_⟩;have:=hr j x hx 0 (.int .u8 (x.toNat : Int)) rfl;rw [k9]
 simpa using this
theorem pK {m r : Int} (h : m = r) (h1 : -9223372036854775808 <= r) (h2 : r <= 9223372036854775807) : IntKind.i64.wrap m = r:=by
 rw [h,i64_left,wrap64_in _ ⟨h1,by omega⟩]
theorem BX {v : SQ} (h : v.Ok) : ∀ u ∈ [v],u.Ok:=λu hu=>by rw [cG.1 hu]; exact h
theorem sM {v v2 : SQ} (h : v.Ok) (h2 : v2.Ok) : ∀ u ∈ [v,v2],u.Ok:=λu hu=>by
 rcases cA.1 hu with rfl | hu
 ·exact h
 ·exact BX h2 u hu
theorem EC {v : SQ} {vs : List SQ} (h : v.Ok) (h2 : ∀ u ∈ vs,u.Ok) : ∀ u ∈ v :: vs,u.Ok:=λu hu=>by
 rcases cA.1 hu with rfl | hu
 ·exact h
 ·exact h2 u hu
instance {p q : World -> Prop} [hp : Pst p] [hq : Pst q] : Pst (λw=>p w /\ q w):=⟨λ_ _ h hb=>⟨hp.later _ _ h.1 hb,hq.later _ _ h.2 hb⟩⟩
instance {α : Type} {p : α -> World -> Prop} {l : List α} [hp : ∀ a,Pst (p a)] : Pst (λw=>∀ a ∈ l,p a w):=⟨λ_ _ h hb a ha=>(hp a).later _ _ (h a ha) hb⟩
theorem dO {b : iF} {ops : Array Oper} {Q : Exit -> Act -> World -> Prop} {N : Nat} {E : SE} {L : List LV} {R : List Res} {F M F' : World -> Prop} {o : Oper} {rest : List Oper} {k : Nat} {α : Type} {post : xQ α} {f : FuncId} {xs : Array Operand} {ats : Array TypeId} {svs : List SV}
  (args : List Value) (hg : o.guard = none) (hd : o.dst = some k) (hk : aQ k N = true) (hf : Own f) (ho : o.op = .call { callee:=.value (.func f),args:=xs,argTypes:=ats }) (hx : A6 E xs.toList = some svs)
  (ha : ∀ G : Nat -> Nat,(∀ x ∈ L,∀ g,x.g = some g -> G x.j = g) -> svs.map (SV.den G) = args) (hs : Spec f args [] F' post) (hF : ∀ w,F w -> M w -> F' w)
  (hn : ∀ x,lS Tryd.prog b ops Q N rest ⟨(k,(post.ret x).sv) :: E,L,post.own x ++ R,λw=>post.p x w /\ F w,λw=>post.n x w /\ M w⟩) : lS Tryd.prog b ops Q N (o :: rest) ⟨E,L,R,F,M⟩ :=
 QM (own:=[]) (R':=R) args hg hd hk hf ho hx ha hs hF hn
theorem UY {P : Program} {b : iF} {ops : Array Oper} {Q : Exit -> Act -> World -> Prop} {N : Nat} {E : SE} {L : List LV} {R : List Res} {F M : World -> Prop} {l : List Oper} (k : Nat) {v : SV} (v' : SV) (h : kU E k = some v) (he : ∀ G,v.den G = v'.den G) (ho : v'.Ok) (hn : lS P b ops Q N l ⟨(k,v') :: E,L,R,F,M⟩) : lS P b ops Q N l ⟨E,L,R,F,M⟩:=λa w ⟨G,S,h1,h2,h3⟩ =>
 hn a w ⟨G,S,h1.more (h1.get k _ (by rw [jJ,h]; exact congrArg some (he G))),h2.cons ho,h3⟩
theorem l_R {P : Program} {b : iF} {ops : Array Oper} {Q : Exit -> Act -> World -> Prop} {N : Nat} {E : SE} {L : List LV} {R : List Res} {F M : World -> Prop} {l : List Oper} (R2 : List Res) (h : R = R2) (hn : lS P b ops Q N l ⟨E,L,R2,F,M⟩) : lS P b ops Q N l ⟨E,L,R,F,M⟩:=h ▸ hn
theorem Od {b : iF} {K : Act -> World -> Prop} {N : Nat} {E : SE} {L : List LV} {R : List Res} {F M : World -> Prop} (i : Nat) {r : Res} (hi : R[i]? = some r) (h : kS b K N ⟨E,L,R.eraseIdx i,F,M⟩) : kS b K N ⟨E,L,R,F,M⟩:=λa w ⟨G,S,h1,h2,h3⟩=>by
 obtain ⟨S1,S2,_,_,_,h4⟩:=h3.let hi;exact h a w ⟨G,S2,h1,h2,h4⟩
structure Seg where
  A : Option Addr
  c : Nat
  l : List UInt8
def I5 (s : Seg) : SQ:=.c (.v (.slice s.A s.l.length s.c))
theorem Rc (s : Seg) : OkP (I5 s).j6 /\ (I5 s).cl.length = 1:=⟨λp hp=>by rw [cG.1 hp]; exact ⟨trivial,rfl,rfl⟩,rfl⟩
theorem JX (l : List Seg) : OkF 1 I5 l:=λs _=>Rc s
def Seg.rd (s : Seg) (w : World) : Prop:=Rd 1 eB s.A s.c s.l w
instance {s : Seg} : Pst s.rd:=⟨λ_ _ h hb=>h.later hb⟩
theorem Rd.sl {A : Option Addr} {c : Nat} {l : List UInt8} {w : World} (h : Rd 1 eB A c l w) : SL w 0 w.heap.size A l c:=by
 obtain ⟨A',c',e,h1⟩:=h.sb
 injection e with e1 _ e2
 subst e1 e2;exact h1
theorem Ns {A : Option Addr} {c : Nat} {ss : List Seg} {w : World} (h : Rd 1 I5 A c ss w) (h2 : ∀ s ∈ ss,s.rd w) : oM w w.heap.size A (ss.map Seg.l):=λhl=>by
 obtain ⟨b,o,e,hb,hr⟩:=h.2.2.2.2 (by simpa using hl);refine ⟨⟨b,o,none⟩,e,hb,λi l hi=>?_⟩;rw [List.getElem?_map] at hi
 cases hs : ss[i]? with
 | none=>rw [hs] at hi; cases hi
 | some s =>
  rw [hs] at hi;simp only [fF,bH] at hi;subst hi;refine ⟨s.A,s.c,?_,(h2 s (List.mem_of_getElem? hs)).sl⟩;have:=hr i s hs 0 (.slice s.A s.l.length s.c) rfl;rw [k9]
  simpa using this
theorem I4 {n : Nat} {l : List UInt8} (h : OkP (eY n l).j6) : l.length = n:=by
 have h1:=(h (.agg n (By l).toArray) (by simp [eY,SQ.j6])).1
 rwa [bA,b6] at h1
abbrev Rds:=List UInt8 × Nat
def tkS (k : Nat) (s : Rds) : Rds:=(tk s.1 s.2 k).2
def sgS (s : Rds) : Rds:=tkS 64 s
theorem My (z : Int) : IntKind.u64.wrap z = z % 18446744073709551616:=rfl
theorem La {r : Res} {w : World} {S : Nat -> Prop} : gE [r] w S ↔ r.holds w S:=by
 constructor
 ·rintro ⟨S1,S2,h1,h2,h3,_⟩
  have e : S = S1:=funext λk=>propext ⟨λh=>((h3 k).1 h).resolve_right (h2 k),λh=>(h3 k).2 (.inl h)⟩;rw [e];exact h1
 ·exact λh=>⟨S,λ_=>False,h,λ_ h=>h,λk=>⟨.inl,λh=>h.elim id False.elim⟩,λ_ _ h=>h⟩
section
variable {P : Program} {b : iF} {ops : Array Oper} {Q : Exit -> Act -> World -> Prop} {N : Nat} {E : SE} {L : List LV} {R : List Res} {F M : World -> Prop} {o : Oper} {k : Nat} {rest : List Oper}
theorem Dh {G : Nat -> Nat} : ∀ (ps : List (Nat × Operand)) (vs : List (Nat × SC)),ps.map (λp=>(p.1,evS E p.2)) = vs.map (λx=>(x.1,some (.q (.c x.2)))) -> ps.map (λp=>(p.1,ev (fY G E) p.2)) = (vs.map λx=>(x.1,x.2.den)).map λp=>(p.1,some p.2)
 | [],[],_=>rfl
 | [],_ :: _,h=>by cases h
 | _ :: _,[],h=>by cases h
 | p :: ps,v :: vs,h=>by
  simp only [cH,pC,CF] at h ⊢;exact ⟨⟨h.1.1,eF h.1.2⟩,Dh ps vs h.2⟩
theorem lE {t : TypeId} {parts : Array (Nat × Operand)} (vs : List (Nat × SC)) (n : Nat) (l : List UInt8) (hg : o.guard = none) (hd : o.dst = some k) (hk : aQ k N = true) (ho : o.op = .build t parts) (hv : parts.toList.map (λp=>(p.1,evS E p.2)) = vs.map (λx=>(x.1,some (.q (.c x.2)))))
  (hb : P.built t (vs.map λx=>(x.1,x.2.den)) = some (By l).toArray) (hl : l.length = n) (hn : lS P b ops Q N rest ⟨(k,.q (eY n l)) :: E,L,R,F,M⟩) : lS P b ops Q N (o :: rest) ⟨E,L,R,F,M⟩ :=
 l_f (.q (eY n l)) (mU hl).1 (λG S w C0 Q' _ _ hQ=>gO _ _ hg hd hk ho (Dh _ _ hv) hb hQ) (by rw [ho]; rfl) hn
end
end Go.Proofs.YtfkchihlchlfdaaDoor
namespace Nums
def dJ (p : Nat) : Prop:=1 < p /\ ∀ m,m ∣ p -> m = 1 \/ m = p
theorem dJ.pos {p : Nat} (h : dJ p) : 0 < p:=by have:=h.1; omega
theorem dJ.coprime {p a : Nat} (h : dJ p) (ha : ¬ p ∣ a) : Nat.Coprime p a:=by
 have hd : rI p a ∣ p:=Nat.gcd_dvd_left p a
 rcases h.2 _ hd with h1 | h1
 ·exact h1
 ·exact absurd (h1 ▸ Nat.gcd_dvd_right p a) ha
theorem dJ.dvd_mul {p a b : Nat} (h : dJ p) (hd : p ∣ a * b) : p ∣ a \/ p ∣ b:=by
 by_cases ha : p ∣ a
 ·exact .inl ha
 ·exact .inr ((h.coprime ha).dvd_of_dvd_mul_left hd)
theorem rX : ∀ (n : Nat),1 < n -> ∃ r,dJ r /\ r ∣ n:=by
 intro n
 induction n using Nat.strongRecOn with
 | ind n ih =>
  intro hn
  by_cases hp : ∃ m,m ∣ n /\ m ≠ 1 /\ m ≠ n
  ·obtain ⟨m,hm,h1,h2⟩:=hp
   have hle:=mY (by omega) hm;have hpos:=Nat.pos_of_dvd_of_pos hm (by omega);obtain ⟨r,hr,hrm⟩:=ih m (by omega) (by omega);exact ⟨r,hr,tK hrm hm⟩
  ·refine ⟨n,⟨hn,λm hm=>?_⟩,Nat.dvd_refl n⟩
   by_cases h1 : m = 1
   ·exact .inl h1
   ·by_cases h2 : m = n
    ·exact .inr h2
    ·exact absurd ⟨m,hm,h1,h2⟩ hp
theorem Au {n : Nat} (hn : 1 < n) (hp : ¬ dJ n) : ∃ r,dJ r /\ r ∣ n /\ r * r <= n:=by
 have : ∃ m,m ∣ n /\ m ≠ 1 /\ m ≠ n:=by
  by_cases h : ∃ m,m ∣ n /\ m ≠ 1 /\ m ≠ n
  ·exact h
  ·refine absurd ⟨hn,λm hm=>?_⟩ hp
   by_cases h1 : m = 1
   ·exact .inl h1
   ·by_cases h2 : m = n
    ·exact .inr h2
    ·exact absurd ⟨m,hm,h1,h2⟩ h
 obtain ⟨m,⟨k,hk⟩,h1,h2⟩:=this
 have hm0 : 0 < m:=by
  rcases Bp m with h | h
  ·subst h; simp at hk; omega
  ·exact h
 have hk0 : 0 < k:=by
  rcases Bp k with h | h
  ·subst h; simp at hk; omega
  ·exact h
 have hk1 : k ≠ 1:=λh=>by subst h; simp at hk; omega
 rcases Nat.le_total m k with hle | hle
 ·obtain ⟨r,hr,hrm⟩:=rX m (by omega)
  have hrle:=mY hm0 hrm;exact ⟨r,hr,tK hrm ⟨k,hk⟩,by rw [hk]; exact mJ hrle (jL hrle hle)⟩
 ·obtain ⟨r,hr,hrk⟩:=rX k (by omega)
  have hrle:=mY hk0 hrk;exact ⟨r,hr,tK hrk ⟨m,by rw [hk,gN]⟩,by rw [hk]; exact mJ (jL hrle hle) hrle⟩
def prod (l : List Nat) : Nat:=l.foldr (· * ·) 1
theorem prod_cons (a : Nat) (l : List Nat) : prod (a :: l) = a * prod l:=rfl
theorem Ll {l1 l2 : List Nat} (h : l1.Perm l2) : prod l1 = prod l2:=by
 induction h with
 | nil=>rfl
 | cons x _ ih=>rw [prod_cons,prod_cons,ih]
 | swap x y l=>rw [prod_cons,prod_cons,prod_cons,prod_cons,<-kJ,<-kJ,gN x y]
 | trans _ _ ih1 ih2=>rw [ih1,ih2]
theorem JV : ∀ {l1 l2 : List Nat},l1.Nodup -> (∀ x ∈ l1,x ∈ l2) -> l2.length <= l1.length -> l1.Perm l2
 | [],l2,_,_,hl=>by
  have : l2 = []:=cQ (by simpa using hl);subst this;exact List.Perm.refl _
 | x :: l1,l2,hn,hs,hl=>by
  have hx : x ∈ l2:=hs x (by simp);have hp:=List.perm_cons_erase hx;obtain ⟨hx1,hn1⟩:=AV.1 hn
  have h1 : l1.Perm (l2.erase x):=JV hn1 (λy hy=>(List.mem_erase_of_ne (λ(e : y = x)=>hx1 (e ▸ hy))).2 (hs y (by simp [hy]))) (by
   rw [List.length_erase_of_mem hx]
   simp at hl
   omega)
  exact (List.Perm.cons x h1).trans hp.symm
theorem yI (a r : Nat) : ∀ (l : List Nat),prod (l.map λi=>a * i % r) % r = a ^ l.length * prod l % r
 | []=>by simp [prod]
 | i :: l=>by
  rw [cH,prod_cons,prod_cons,bW,wR,yI a r l,Nat.mod_mod,<-wR,dE]
  congr 1
  rw [kJ,kJ];rw [Nat.mul_left_comm i,<-kJ a (a ^ l.length),gN a (a ^ l.length),kJ]
theorem y5 {r : Nat} (hr : dJ r) : ∀ (l : List Nat),(∀ x ∈ l,¬ r ∣ x) -> ¬ r ∣ prod l
 | [],_,h=>by
  have:=mY (by simp [prod]) h
  simp [prod] at this
  have:=hr.1
  omega
 | x :: l,hl,h=>by
  rw [prod_cons] at h
  rcases hr.dvd_mul h with h1 | h1
  ·exact hl x (by simp) h1
  ·exact y5 hr l (λy hy=>hl y (by simp [hy])) h1
theorem B4 {r a b c : Nat} (hr : dJ r) (hc : ¬ r ∣ c) (h : a * c % r = b * c % r) : a % r = b % r:=by
 have key : ∀ {x y : Nat},y <= x -> x * c % r = y * c % r -> x % r = y % r:=λ{x y} hle h=>by
  have h1 : r ∣ x * c - y * c:=oO (Fb h);rw [<-Nat.sub_mul] at h1
  rcases hr.dvd_mul h1 with ⟨t,ht⟩ | h2
  ·have : x = y + r * t:=by omega
   rw [this,Nat.add_mul_mod_self_left]
  ·exact absurd h2 hc
 rcases Nat.le_total b a with hle | hle
 ·exact key hle h
 ·exact (key hle h.symm).symm
theorem Dv {f : Nat -> Nat} : ∀ {l : List Nat},l.Nodup -> (∀ x ∈ l,∀ y ∈ l,f x = f y -> x = y) -> (l.map f).Nodup
 | [],_,_=>by simp
 | a :: l,hn,hi=>by
  obtain ⟨h1,h2⟩:=AV.1 hn;rw [cH,AV];refine ⟨λh=>?_,Dv h2 (λx hx y hy=>hi x (by simp [hx]) y (by simp [hy]))⟩;obtain ⟨b,hb,e⟩:=fV.1 h;have:=hi b (by simp [hb]) a (by simp) e;subst this;exact h1 hb
theorem IV {r a : Nat} (hr : dJ r) (ha : ¬ r ∣ a) : a ^ (r - 1) % r = 1:=by
 have hr1:=hr.1
 have hnd : ∀ i ∈ tB 1 (r - 1),¬ r ∣ i:=λi hi hd=>by
  have hi':=nI.1 hi;have:=mY (by omega) hd
  omega
 have hperm : ((tB 1 (r - 1)).map λi=>a * i % r).Perm (tB 1 (r - 1)):=by
  refine JV ?_ ?_ (by simp)
  ·refine Dv List.nodup_range' λx hx y hy h=>?_
   have hx':=nI.1 hx;have hy':=nI.1 hy;rw [gN a x,gN a y] at h;have:=B4 hr ha h
   rwa [bS (by omega),bS (by omega)] at this
  ·intro x hx
   obtain ⟨i,hi,rfl⟩:=fV.1 hx;have hlt : a * i % r < r:=eR _ hr.pos
   have hne : a * i % r ≠ 0:=λh0=>by
    rcases hr.dvd_mul (oO h0) with h1 | h1
    ·exact ha h1
    ·exact hnd i hi h1
   exact nI.2 ⟨by omega,by omega⟩
 have h1:=yI a r (tB 1 (r - 1));rw [Ll hperm,List.length_range'] at h1
 have h2 : 1 * prod (tB 1 (r - 1)) % r = a ^ (r - 1) * prod (tB 1 (r - 1)) % r:=by rw [CG]; exact h1
 have h3:=B4 hr (y5 hr _ hnd) h2;rw [<-h3,bS hr1]
def pm (n a : Nat) : Nat -> Nat -> Nat
  | 0,_=>1 % n
  | k + 1,e=>if e % 2 = 1 then pm n a k (e / 2) * pm n a k (e / 2) % n * a % n else pm n a k (e / 2) * pm n a k (e / 2) % n
theorem Nj (n a : Nat) : ∀ (k e : Nat),e < 2 ^ k -> pm n a k e = a ^ e % n
 | 0,e,h=>by
  have : e = 0:=by simpa using h
  subst this
  simp [pm]
 | k + 1,e,h=>by
  have h1 : e / 2 < 2 ^ k:=by rw [dE] at h; omega
  have ih:=Nj n a k (e / 2) h1
  unfold pm
  rw [ih]
  have e2 : a ^ (e / 2) % n * (a ^ (e / 2) % n) % n = a ^ (2 * (e / 2)) % n:=by
   rw [<-wR,<-o5]
   congr 2
   omega
  rw [e2]
  split
  ·rw [Nat.mod_mul_mod,<-dE]
   congr 2
   omega
  ·congr 2
   omega
theorem Ql {r a : Nat} (hr : 1 < r) : ∀ (m n : Nat),a ^ m % r = 1 -> a ^ n % r = 1 -> a ^ rI m n % r = 1:=by
 intro m n
 induction m,n using Nat.gcd.induction with
 | H0 n=>intro _ h; simpa using h
 | H1 m n hm ih =>
  intro h1 h2
  rw [Nat.gcd_rec];refine ih ?_ h1
  have e : a ^ n = (a ^ m) ^ (n / m) * a ^ (n % m):=by
   rw [<-wP,<-o5,Nat.div_add_mod]
  have h3 : (a ^ m) ^ (n / m) % r = 1:=by
   rw [Nat.pow_mod,h1,Nat.one_pow,bS hr]
  rw [e,wR,h3,CG,Nat.mod_mod] at h2;exact h2
theorem F6 {n q a m r : Nat} (hq : dJ q) (hn : n - 1 = q * m) (hn1 : 1 < n) (h1 : a ^ (n - 1) % n = 1) (g1 : rI (a ^ m % n + n - 1) n = 1) (hr : dJ r) (hrn : r ∣ n) : q ∣ r - 1:=by
 have hr1:=hr.1;have hmod : ∀ x,x % n % r = x % r:=λx=>Nat.mod_mod_of_dvd x hrn
 have h1r : a ^ (n - 1) % r = 1:=by rw [<-hmod,h1,bS hr1]
 have hra : ¬ r ∣ a:=λhd=>by
  have h0 : a ^ (n - 1) % r = 0:=by
   refine Mi (tK hd ?_);exact ⟨a ^ (n - 2),by rw [<-Nat.pow_succ']; congr 1; omega⟩
  omega
 by_cases hqr : q ∣ r - 1
 ·exact hqr
 ·have hf:=IV hr hra
  have hg:=Ql hr1 (n - 1) (r - 1) h1r hf
  have hcop : Nat.Coprime (rI (n - 1) (r - 1)) q:=by
   have:=hq.coprime (a:=rI (n - 1) (r - 1)) (λhd=>hqr (tK hd (Nat.gcd_dvd_right _ _)));exact this.symm
  have hdm : rI (n - 1) (r - 1) ∣ m:=by
   have : rI (n - 1) (r - 1) ∣ q * m:=hn ▸ Nat.gcd_dvd_left (n - 1) (r - 1);exact hcop.dvd_of_dvd_mul_left this
  obtain ⟨t,ht⟩:=hdm
  have hm : a ^ m % r = 1:=by
   rw [ht,wP,Nat.pow_mod,hg,Nat.one_pow,bS hr1]
  exfalso
  have hlt : a ^ m % n < n:=eR _ (by omega)
  have hd : r ∣ a ^ m % n + n - 1:=by
   have e1 : a ^ m % n % r = 1:=by rw [hmod]; exact hm
   have e2 : 1 <= a ^ m % n:=by
    rcases Bp (a ^ m % n) with h0 | h0
    ·rw [h0] at e1; simp at e1
    ·exact h0
   have e3 : r ∣ a ^ m % n - 1:=oO (by
    have:=Fb (m:=a ^ m % n) (n:=1) (k:=r) (by rw [e1,bS hr1])
    exact this)
   have e4 : a ^ m % n + n - 1 = (a ^ m % n - 1) + n:=by omega
   rw [e4];exact Nat.dvd_add e3 hrn
  have:=Nat.dvd_gcd hd hrn;rw [g1] at this;have:=mY (by omega) this
  omega
theorem F5 {n q1 q2 m1 m2 a : Nat} (hq1 : dJ q1) (hq2 : dJ q2) (hne : q1 ≠ q2) (hn1 : 1 < n) (hm1 : n - 1 = q1 * m1) (hm2 : n - 1 = q2 * m2) (hsz : n < (q1 * q2 + 1) * (q1 * q2 + 1))
  (h1 : a ^ (n - 1) % n = 1) (g1 : rI (a ^ m1 % n + n - 1) n = 1) (g2 : rI (a ^ m2 % n + n - 1) n = 1) : dJ n:=by
 by_cases hp : dJ n
 ·exact hp
 ·exfalso
  obtain ⟨r,hr,hrn,hrr⟩:=Au hn1 hp;have d1:=F6 hq1 hm1 hn1 h1 g1 hr hrn;have d2:=F6 hq2 hm2 hn1 h1 g2 hr hrn
  have hcop : Nat.Coprime q1 q2:=hq1.coprime (λhd=>by
   rcases hq2.2 _ hd with h | h
   ·have:=hq1.1; omega
   ·exact hne h)
  have hd : q1 * q2 ∣ r - 1:=hcop.mul_dvd_of_dvd_of_dvd d1 d2;have hr1:=hr.1;have hle:=mY (by omega) hd
  have h2 : q1 * q2 + 1 <= r:=by omega
  have:=mJ h2 h2
  omega
def RP (n q1 q2 a k : Nat) : Bool :=
  decide (1 < n) && decide (n - 1 = q1 * ((n - 1) / q1)) && decide (n - 1 = q2 * ((n - 1) / q2)) && decide (n < (q1 * q2 + 1) * (q1 * q2 + 1)) && decide (q1 ≠ q2) && decide (n < 2 ^ k) &&
  (pm n a k (n - 1) == 1) && (rI (pm n a k ((n - 1) / q1) + n - 1) n == 1) && (rI (pm n a k ((n - 1) / q2) + n - 1) n == 1)
theorem l4 {n q1 q2 a k : Nat} (hq1 : dJ q1) (hq2 : dJ q2) (h : RP n q1 q2 a k = true) : dJ n:=by
 simp only [RP,aV,decide_eq_true_eq,beq_iff_eq] at h;obtain ⟨⟨⟨⟨⟨⟨⟨⟨h1,h2⟩,h3⟩,h4⟩,h5⟩,h6⟩,h7⟩,h8⟩,h9⟩:=h;have hd1 : (n - 1) / q1 <= n - 1:=gJ _ _;have hd2 : (n - 1) / q2 <= n - 1:=gJ _ _;rw [Nj n a k _ (by omega)] at h7 h8 h9;exact F5 hq1 hq2 h5 h1 h2 h3 h4 h7 h8 h9
def Jx (n : Nat) : Nat -> Bool
  | 0=>true
  | k + 1=>Jx n k && (decide (k < 2) || decide (n % k ≠ 0))
theorem C9 {n : Nat} : ∀ {k m : Nat},Jx n k = true -> 2 <= m -> m < k -> ¬ m ∣ n
 | k + 1,m,h,h2,hm,hd=>by
  simp only [Jx,aV,Bool.or_eq_true,decide_eq_true_eq] at h
  by_cases e : m = k
  ·subst e
   rcases h.2 with h3 | h3
   ·omega
   ·exact h3 (Mi hd)
  ·exact C9 h.1 h2 (by omega) hd
theorem gA {n k : Nat} (hn : 1 < n) (hk : n < k * k) (h : Jx n k = true) : dJ n:=by
 by_cases hp : dJ n
 ·exact hp
 ·exfalso
  obtain ⟨r,hr,hrn,hrr⟩:=Au hn hp;have hr1:=hr.1
  have : r < k:=by
   rcases Nat.lt_or_ge r k with h1 | h1
   ·exact h1
   ·have:=mJ h1 h1; omega
  exact C9 h (by omega) this hrn
theorem Ln : dJ 127:=gA (k:=12) (by decide) (by decide) (by decide +kernel)
theorem CP : dJ 8574133:=gA (k:=2929) (by decide) (by decide +kernel) (by decide +kernel)
theorem F1 : dJ 75707:=gA (k:=276) (by decide) (by decide +kernel) (by decide +kernel)
theorem F3 : dJ 65147:=gA (k:=256) (by decide) (by decide +kernel) (by decide +kernel)
theorem CQ : dJ 1923133:=gA (k:=1387) (by decide) (by decide +kernel) (by decide +kernel)
theorem Qj : dJ 1919519569386763:=l4 (q1:=8574133) (q2:=127) (a:=2) (k:=51) CP Ln (by decide +kernel)
theorem Qi : dJ 75445702479781427272750846543864801:=l4 (q1:=1919519569386763) (q2:=75707) (a:=7) (k:=116) Qj F1 (by decide +kernel)
theorem Qh : dJ 74058212732561358302231226437062788676166966415465897661863160754340907:=l4 (q1:=75445702479781427272750846543864801) (q2:=1923133) (a:=2) (k:=236) Qi CQ (by decide +kernel)
def p : Nat:=57896044618658097711785492504343953926634992332820282019728792003956564819949
theorem gT : dJ p:=l4 (q1:=74058212732561358302231226437062788676166966415465897661863160754340907) (q2:=65147) (a:=2) (k:=255) Qh F3 (by decide +kernel)
end Nums
namespace Nums
section
variable {n : Nat} [NeZero n]
omit [NeZero n] in
theorem val_mul (a b : Fin n) : (a * b).val = a.val * b.val % n:=rfl
theorem val_zero : ((0 : Fin n)).val = 0:=by simp
theorem val_one (hn : dJ n) : ((1 : Fin n)).val = 1:=by
 show 1 % n = 1
 exact bS hn.1
theorem xF (hn : dJ n) : (0 : Fin n) ≠ 1:=by
 intro h
 have:=congrArg Fin.val h;rw [val_one hn,val_zero] at this
 omega
theorem zero_or (hn : dJ n) {a b : Fin n} (h : a * b = 0) : a = 0 \/ b = 0:=by
 have h1 : a.val * b.val % n = 0:=by rw [<-val_mul,h]; exact val_zero
 have z : ∀ c : Fin n,n ∣ c.val -> c = 0:=λc hc=>by
  apply nC
  rw [val_zero];exact KK hc c.isLt
 rcases hn.dvd_mul (oO h1) with h2 | h2
 ·exact .inl (z a h2)
 ·exact .inr (z b h2)
theorem eJ (hn : dJ n) {a b : Fin n} (ha : a ≠ 0) (hb : b ≠ 0) : a * b ≠ 0:=λh=>by
 rcases zero_or hn h with h | h
 ·exact ha h
 ·exact hb h
def fP (a : Fin n) : Nat -> Fin n
  | 0=>1
  | k + 1=>fP a k * a
theorem pH (a : Fin n) : fP a 0 = 1:=rfl
theorem gU (a : Fin n) (k : Nat) : fP a (k + 1) = fP a k * a:=rfl
theorem rT (a : Fin n) (j k : Nat) : fP a (j + k) = fP a j * fP a k:=by
 induction k with
 | zero=>rw [fJ,pH]; grind
 | succ k ih=>rw [Nat.add_succ,gU,gU,ih]; grind
theorem yV (a : Fin n) : fP a 1 = a:=by rw [gU,pH]; grind
theorem UB (k : Nat) : fP (1 : Fin n) k = 1:=by
 induction k with
 | zero=>rfl
 | succ k ih=>rw [gU,ih]; grind
theorem Ci (a : Fin n) (j k : Nat) : fP a (j * k) = fP (fP a j) k:=by
 induction k with
 | zero=>rfl
 | succ k ih=>rw [CJ,rT,gU,ih]
theorem NR (a b : Fin n) (k : Nat) : fP (a * b) k = fP a k * fP b k:=by
 induction k with
 | zero=>rw [pH,pH,pH]; grind
 | succ k ih=>rw [gU,gU,gU,ih]; grind
theorem Oq (hn : dJ n) (a : Fin n) (k : Nat) : (fP a k).val = a.val ^ k % n:=by
 induction k with
 | zero=>rw [pH,val_one hn,Nat.pow_zero,bS hn.1]
 | succ k ih=>rw [gU,val_mul,ih,dE,Nat.mod_mul_mod]
theorem AM (hn : dJ n) {a : Fin n} (ha : a ≠ 0) : fP a (n - 1) = 1:=by
 apply nC
 rw [Oq hn,val_one hn]
 apply IV hn
 intro hd
 apply ha
 apply nC
 rw [val_zero];exact KK hd a.isLt
def kR (a : Fin n) : Fin n:=fP a (n - 2)
theorem mQ (hn : dJ n) {a : Fin n} (ha : a ≠ 0) : a * kR a = 1:=by
 have h:=AM hn ha
 have h2 : n - 1 = (n - 2) + 1:=by have:=hn.1; omega
 rw [h2,gU] at h
 unfold kR
 rw [<-h]; grind
theorem cancel (hn : dJ n) {a b c : Fin n} (hc : c ≠ 0) (h : a * c = b * c) : a = b:=by
 have h1:=mQ hn hc
 have : a * c * kR c = b * c * kR c:=by rw [h]
 grind
theorem Kl (hn : dJ n) {a b : Fin n} (h : a * b = 1) : kR a = b:=by
 have ha : a ≠ 0:=by
  rintro rfl
  exact xF hn (by rw [<-h]; grind)
 apply cancel hn ha
 have:=mQ hn ha
 grind
theorem JO (hn : dJ n) {a b : Fin n} (h : a * a = b * b) : a = b \/ a = -b:=by
 have : (a - b) * (a + b) = 0:=by grind
 rcases zero_or hn this with h | h
 ·left; grind
 ·right; grind
end
end Nums
namespace Nums
theorem Ed.closed {n : Nat} [NeZero n] (x1 y1 x2 y2 d : Fin n) (h1 : y1*y1 - x1*x1 = 1 + d*x1*x1*y1*y1) (h2 : y2*y2 - x2*x2 = 1 + d*x2*x2*y2*y2) :
  (y1*y2+x1*x2)*(y1*y2+x1*x2)*(1+d*x1*x2*y1*y2)*(1+d*x1*x2*y1*y2) - (x1*y2+y1*x2)*(x1*y2+y1*x2)*(1-d*x1*x2*y1*y2)*(1-d*x1*x2*y1*y2)
   = (1+d*x1*x2*y1*y2)*(1+d*x1*x2*y1*y2)*(1-d*x1*x2*y1*y2)*(1-d*x1*x2*y1*y2) + d*(y1*y2+x1*x2)*(y1*y2+x1*x2)*(x1*y2+y1*x2)*(x1*y2+y1*x2):=by grind
theorem Ed.RA {n : Nat} [NeZero n] (x1 y1 x2 y2 x3 y3 d : Fin n) (h1 : y1*y1 - x1*x1 = 1 + d*x1*x1*y1*y1) (h2 : y2*y2 - x2*x2 = 1 + d*x2*x2*y2*y2) (h3 : y3*y3 - x3*x3 = 1 + d*x3*x3*y3*y3) :
 ((x1*y2+y1*x2)*(1-d*x1*x2*y1*y2)*y3 + (y1*y2+x1*x2)*(1+d*x1*x2*y1*y2)*x3) * ((1+d*x2*x3*y2*y3)*(1-d*x2*x3*y2*y3) + d*x1*y1*(x2*y3+y2*x3)*(y2*y3+x2*x3))
 = (x1*(y2*y3+x2*x3)*(1+d*x2*x3*y2*y3) + y1*(x2*y3+y2*x3)*(1-d*x2*x3*y2*y3)) * ((1+d*x1*x2*y1*y2)*(1-d*x1*x2*y1*y2) + d*(x1*y2+y1*x2)*(y1*y2+x1*x2)*x3*y3):=by grind
theorem Ed.Rz {n : Nat} [NeZero n] (x1 y1 x2 y2 x3 y3 d : Fin n) (h1 : y1*y1 - x1*x1 = 1 + d*x1*x1*y1*y1) (h2 : y2*y2 - x2*x2 = 1 + d*x2*x2*y2*y2) (h3 : y3*y3 - x3*x3 = 1 + d*x3*x3*y3*y3) :
 ((y1*y2+x1*x2)*(1+d*x1*x2*y1*y2)*y3 + (x1*y2+y1*x2)*(1-d*x1*x2*y1*y2)*x3) * ((1+d*x2*x3*y2*y3)*(1-d*x2*x3*y2*y3) - d*x1*y1*(x2*y3+y2*x3)*(y2*y3+x2*x3))
 = (y1*(y2*y3+x2*x3)*(1+d*x2*x3*y2*y3) + x1*(x2*y3+y2*x3)*(1-d*x2*x3*y2*y3)) * ((1+d*x1*x2*y1*y2)*(1-d*x1*x2*y1*y2) - d*(x1*y2+y1*x2)*(y1*y2+x1*x2)*x3*y3):=by grind
theorem Ed.key {n : Nat} [NeZero n] {X1 Y1 X2 Y2 D e s : Fin n} (h1 : X1*X1 + Y1*Y1 = 1 + D*X1*X1*Y1*Y1) (h2 : X2*X2 + Y2*Y2 = 1 + D*X2*X2*Y2*Y2) (h : D*X1*X2*Y1*Y2 = e) (he : e * e = 1) (hs : s * s = 1) :
  (X1 + s*e*Y1) * (X1 + s*e*Y1) = D * ((X1*Y1*(X2+s*Y2)) * (X1*Y1*(X2+s*Y2))):=by
 have l : (X1 + s*e*Y1) * (X1 + s*e*Y1) = X1*X1 + (s*s)*(e*e)*(Y1*Y1) + 2*s*e*X1*Y1:=by grind only
 have r : D * ((X1*Y1*(X2+s*Y2)) * (X1*Y1*(X2+s*Y2))) = D*X1*X1*Y1*Y1*(X2*X2 + (s*s)*(Y2*Y2)) + 2*s*(D*X1*X2*Y1*Y2)*X1*Y1:=by grind only
 rw [l,r,hs,he,h]
 have e1 : (1 : Fin n) * 1 * (Y1*Y1) = Y1 * Y1:=by grind only
 have e2 : (1 : Fin n) * (Y2*Y2) = Y2 * Y2:=by grind only
 have e3 : D*X1*X1*Y1*Y1*(1 + D*X2*X2*Y2*Y2) = D*X1*X1*Y1*Y1 + (D*X1*X2*Y1*Y2) * (D*X1*X2*Y1*Y2):=by grind only
 rw [e1,e2,h1,h2,e3,h,he]
 grind only
section
variable {n : Nat} [NeZero n]
structure Ed.Pt (n : Nat) where
  x : Fin n
  y : Fin n
structure Ed.Good (n : Nat) [NeZero n] (d : Fin n) : Prop where
  pr : dJ n
  two : (2 : Fin n) ≠ 0
  i : ∃ i : Fin n,i * i = -1
  d : ∀ t : Fin n,t * t ≠ d
namespace Ed
variable {d : Fin n}
def On (d : Fin n) (P : Pt n) : Prop:=P.y*P.y - P.x*P.x = 1 + d*P.x*P.x*P.y*P.y
theorem complete (g : Good n d) {x1 y1 x2 y2 e : Fin n} (h1 : y1*y1 - x1*x1 = 1 + d*x1*x1*y1*y1) (h2 : y2*y2 - x2*x2 = 1 + d*x2*x2*y2*y2) (he : e * e = 1) :
  d*x1*x2*y1*y2 ≠ e:=by
 intro h
 obtain ⟨i,hi⟩:=g.i
 have e0 : e ≠ 0:=by rintro rfl; exact xF g.pr (by grind only)
 have hx1 : x1 ≠ 0:=by rintro rfl; exact e0 (by grind only)
 have hy1 : y1 ≠ 0:=by rintro rfl; exact e0 (by grind only)
 have hx2 : x2 ≠ 0:=by rintro rfl; exact e0 (by grind only)
 have hi0 : i ≠ 0:=by
  rintro rfl
  exact xF g.pr (by grind only)
 have g1 : (i*x1)*(i*x1) + y1*y1 = 1 + (-d)*(i*x1)*(i*x1)*y1*y1:=by
  have a : (i*x1)*(i*x1) + y1*y1 = (i*i)*(x1*x1) + y1*y1:=by grind only
  have b : 1 + (-d)*(i*x1)*(i*x1)*y1*y1 = 1 + (-d)*(i*i)*(x1*x1)*y1*y1:=by grind only
  rw [a,b,hi]
  grind only
 have g2 : (i*x2)*(i*x2) + y2*y2 = 1 + (-d)*(i*x2)*(i*x2)*y2*y2:=by
  have a : (i*x2)*(i*x2) + y2*y2 = (i*i)*(x2*x2) + y2*y2:=by grind only
  have b : 1 + (-d)*(i*x2)*(i*x2)*y2*y2 = 1 + (-d)*(i*i)*(x2*x2)*y2*y2:=by grind only
  rw [a,b,hi]
  grind only
 have g3 : (-d)*(i*x1)*(i*x2)*y1*y2 = e:=by
  have a : (-d)*(i*x1)*(i*x2)*y1*y2 = (-d)*(i*i)*x1*x2*y1*y2:=by grind only
  rw [a,hi,<-h]
  grind only
 have key : ∀ s : Fin n,s * s = 1 -> i*x2 + s*y2 = 0:=by
  intro s hs
  by_cases hz : i*x2 + s*y2 = 0
  ·exact hz
  exfalso
  have hw : i*x1*y1*(i*x2+s*y2) ≠ 0:=eJ g.pr (eJ g.pr (eJ g.pr hi0 hx1) hy1) hz;have hm:=mQ g.pr hw;have hk:=Ed.key g1 g2 g3 he hs;generalize i*x1*y1*(i*x2+s*y2) = w at hm hk;generalize i*x1 + s*e*y1 = v at hk;refine g.d (i * (v * kR w)) ?_
  have a : i * (v * kR w) * (i * (v * kR w)) = (i*i)*(v*v)*(kR w)*(kR w):=by grind only
  have b : (-1) * ((-d) * (w*w)) * kR w * kR w = d * (w * kR w) * (w * kR w):=by grind only
  rw [a,hi,hk,b,hm]
  grind only
 have k1:=key 1 (by grind only);have k2:=key (-1) (by grind only)
 have : (2 : Fin n) * (i * x2) = 0:=by grind only
 rcases zero_or g.pr this with h3 | h3
 ·exact g.two h3
 ·exact eJ g.pr hi0 hx2 h3
end Ed
end
end Nums
namespace Nums
namespace Ed
variable {n : Nat} [NeZero n] {d : Fin n}
def kk (d : Fin n) (P Q : Pt n) : Fin n:=d * P.x * Q.x * P.y * Q.y
theorem qQ (g : Good n d) {P Q : Pt n} (hP : On d P) (hQ : On d Q) : 1 + kk d P Q ≠ 0:=λh =>
 complete g hP hQ (e := -1) (by grind only) (by unfold kk at h; grind only)
theorem mR (g : Good n d) {P Q : Pt n} (hP : On d P) (hQ : On d Q) : 1 - kk d P Q ≠ 0:=λh =>
 complete g hP hQ (e:=1) (by grind only) (by unfold kk at h; grind only)
def add (d : Fin n) (P Q : Pt n) : Pt n :=
  ⟨(P.x*Q.y + P.y*Q.x) * kR (1 + kk d P Q),(P.y*Q.y + P.x*Q.x) * kR (1 - kk d P Q)⟩
def zero : Pt n:=⟨0,1⟩
def neg (P : Pt n) : Pt n:=⟨-P.x,P.y⟩
theorem sS : On d (zero : Pt n):=by
 show (1 : Fin n) * 1 - 0 * 0 = 1 + d * 0 * 0 * 1 * 1
 grind only
theorem tZ {P : Pt n} (h : On d P) : On d (neg P):=by
 unfold On neg at *
 show P.y * P.y - -P.x * -P.x = 1 + d * -P.x * -P.x * P.y * P.y
 grind only
theorem CA (g : Good n d) {P Q : Pt n} (hP : On d P) (hQ : On d Q) : (add d P Q).x * (1 + kk d P Q) = P.x*Q.y + P.y*Q.x:=by
 have:=mQ g.pr (qQ g hP hQ)
 show (P.x*Q.y + P.y*Q.x) * kR (1 + kk d P Q) * (1 + kk d P Q) = _
 generalize kR (1 + kk d P Q) = u at *;generalize 1 + kk d P Q = v at *
 have a : (P.x*Q.y + P.y*Q.x) * u * v = (P.x*Q.y + P.y*Q.x) * (v * u):=by grind only
 rw [a,this]
 grind only
theorem Cz (g : Good n d) {P Q : Pt n} (hP : On d P) (hQ : On d Q) : (add d P Q).y * (1 - kk d P Q) = P.y*Q.y + P.x*Q.x:=by
 have:=mQ g.pr (mR g hP hQ)
 show (P.y*Q.y + P.x*Q.x) * kR (1 - kk d P Q) * (1 - kk d P Q) = _
 generalize kR (1 - kk d P Q) = u at *;generalize 1 - kk d P Q = v at *
 have a : (P.y*Q.y + P.x*Q.x) * u * v = (P.y*Q.y + P.x*Q.x) * (v * u):=by grind only
 rw [a,this]
 grind only
theorem pW (g : Good n d) {P Q : Pt n} (hP : On d P) (hQ : On d Q) : On d (add d P Q):=by
 have hx:=CA g hP hQ;have hy:=Cz g hP hQ;have h1:=qQ g hP hQ;have h2:=mR g hP hQ;have c:=closed P.x P.y Q.x Q.y d hP hQ;have k1 : (1 : Fin n) + d*P.x*Q.x*P.y*Q.y = 1 + kk d P Q:=rfl;have k2 : (1 : Fin n) - d*P.x*Q.x*P.y*Q.y = 1 - kk d P Q:=rfl;rw [k1,k2] at c
 show (add d P Q).y * (add d P Q).y - (add d P Q).x * (add d P Q).x = 1 + d * (add d P Q).x * (add d P Q).x * (add d P Q).y * (add d P Q).y
 rw [<-hx,<-hy] at c;generalize (add d P Q).x = x at *;generalize (add d P Q).y = y at *;generalize 1 + kk d P Q = u at *;generalize 1 - kk d P Q = v at *
 apply cancel g.pr (eJ g.pr (eJ g.pr h1 h1) (eJ g.pr h2 h2))
 clear hP hQ hx hy
 grind only
theorem add_comm (P Q : Pt n) : add d P Q = add d Q P:=by
 unfold add kk
 have a : d * P.x * Q.x * P.y * Q.y = d * Q.x * P.x * Q.y * P.y:=by grind only
 have b : P.x*Q.y + P.y*Q.x = Q.x*P.y + Q.y*P.x:=by grind only
 have c : P.y*Q.y + P.x*Q.x = Q.y*P.y + Q.x*P.x:=by grind only
 rw [a,b,c]
theorem zero_add (g : Good n d) (P : Pt n) : add d zero P = P:=by
 unfold add kk zero
 have a : d * 0 * P.x * 1 * P.y = 0:=by grind only
 have f1 : kR (1 + 0 : Fin n) = 1:=Kl g.pr (by grind only);have f2 : kR (1 - 0 : Fin n) = 1:=Kl g.pr (by grind only)
 show Pt.mk ((0 * P.y + 1 * P.x) * kR (1 + d * 0 * P.x * 1 * P.y)) ((1 * P.y + 0 * P.x) * kR (1 - d * 0 * P.x * 1 * P.y)) = P
 rw [a,f1,f2]
 have b : (0 * P.y + 1 * P.x) * 1 = P.x:=by grind only
 have c : (1 * P.y + 0 * P.x) * 1 = P.y:=by grind only
 rw [b,c]
theorem add_zero (g : Good n d) (P : Pt n) : add d P zero = P:=by rw [add_comm,zero_add g]
theorem add_neg (g : Good n d) {P : Pt n} (hP : On d P) : add d P (neg P) = zero:=by
 have hm:=mR g hP (tZ hP);have:=mQ g.pr hm
 unfold add zero
 have a : (P.x * (neg P).y + P.y * (neg P).x) = 0:=by show P.x * P.y + P.y * -P.x = 0; grind only
 have b : P.y * (neg P).y + P.x * (neg P).x = 1 - kk d P (neg P):=by
  show P.y * P.y + P.x * -P.x = 1 - d * P.x * -P.x * P.y * P.y
  unfold On at hP
  grind only
 rw [a,b,this]
 have c : 0 * kR (1 + kk d P (neg P)) = 0:=by grind only
 rw [c]
theorem Uv (sx sy rx ry px py tx ty a b e f d : Fin n) : (sx * a * b * ry + sy * b * a * rx) * (e * f + d * px * py * (tx * e) * (ty * f))
   = (a * b * e * f) * ((sx * ry + sy * rx) * (1 + d * px * tx * py * ty)):=by grind only
theorem Uu (sx sy rx ry px py tx ty a b e f d : Fin n) : (px * (ty * f) * e + py * (tx * e) * f) * (a * b + d * (sx * a) * (sy * b) * rx * ry)
   = (a * b * e * f) * ((px * ty + py * tx) * (1 + d * sx * rx * sy * ry)):=by grind only
theorem Ut (sx sy rx ry px py tx ty a b e f d : Fin n) : (sy * b * a * ry + sx * a * b * rx) * (e * f - d * px * py * (tx * e) * (ty * f))
   = (a * b * e * f) * ((sy * ry + sx * rx) * (1 - d * px * tx * py * ty)):=by grind only
theorem Ur (sx sy rx ry px py tx ty a b e f d : Fin n) : (py * (ty * f) * e + px * (tx * e) * f) * (a * b - d * (sx * a) * (sy * b) * rx * ry)
   = (a * b * e * f) * ((py * ty + px * tx) * (1 - d * sx * rx * sy * ry)):=by grind only
theorem Uy (u z w v : Fin n) : u * (z * (w * v)) = z * (u * w * v):=by grind only
theorem Ux (t z w v : Fin n) : t * (z * (w * v)) = z * (t * v * w):=by grind only
theorem add_assoc (g : Good n d) {P Q R : Pt n} (hP : On d P) (hQ : On d Q) (hR : On d R) : add d (add d P Q) R = add d P (add d Q R):=by
 have hPQ:=pW g hP hQ;have hQR:=pW g hQ hR;have x1:=CA g hP hQ;have y1:=Cz g hP hQ;have p1:=qQ g hP hQ;have m1:=mR g hP hQ;have x2:=CA g hQ hR;have y2:=Cz g hQ hR;have p2:=qQ g hQ hR;have m2:=mR g hQ hR;have x3:=CA g hPQ hR;have y3:=Cz g hPQ hR;have p3:=qQ g hPQ hR;have m3:=mR g hPQ hR;have x4:=CA g hP hQR;have y4:=Cz g hP hQR;have p4:=qQ g hP hQR;have m4:=mR g hP hQR;have ax:=RA P.x P.y Q.x Q.y R.x R.y d hP hQ hR;have ay:=Rz P.x P.y Q.x Q.y R.x R.y d hP hQ hR;clear hP hQ hR hPQ hQR;have c1 : (1 : Fin n) + d*P.x*Q.x*P.y*Q.y = 1 + kk d P Q:=rfl;have c2 : (1 : Fin n) - d*P.x*Q.x*P.y*Q.y = 1 - kk d P Q:=rfl;have c3 : (1 : Fin n) + d*Q.x*R.x*Q.y*R.y = 1 + kk d Q R:=rfl;have c4 : (1 : Fin n) - d*Q.x*R.x*Q.y*R.y = 1 - kk d Q R:=rfl;rw [c1,c2,c3,c4,<-x1,<-y1,<-x2,<-y2] at ax ay
 have ex : (add d (add d P Q) R).x = (add d P (add d Q R)).x:=by
  generalize add d (add d P Q) R = U at *;generalize add d P (add d Q R) = V at *
  unfold kk at x3 p3 x4 p4
  generalize add d P Q = S at *;generalize add d Q R = T at *;generalize 1 + kk d P Q = a at *;generalize 1 - kk d P Q = b at *;generalize 1 + kk d Q R = e at *;generalize 1 - kk d Q R = f at *
  -- ax: (S.x a b R.y + S.y b a R.x) (e f + d P.x P.y (T.x e)(T.y f)) = (P.x T.y f e + P.y T.x e f) (a b + d (S.x a)(S.y b) R.x R.y)
  rw [Uv,Uu,<-x3,<-x4] at ax;have hne:=eJ g.pr (eJ g.pr (eJ g.pr p1 m1) p2) m2
  apply cancel g.pr (eJ g.pr hne (eJ g.pr p3 p4))
  clear x1 y1 x2 y2 x3 y3 x4 y4 ay c1 c2 c3 c4 hne p1 p2 m1 m2 m3 m4;generalize a * b * e * f = z at *;generalize 1 + d * S.x * R.x * S.y * R.y = w at *;generalize 1 + d * P.x * T.x * P.y * T.y = v at *;generalize U.x = u at *;generalize V.x = t at *;clear g p3 p4;rw [Uy,Ux,ax]
 have ey : (add d (add d P Q) R).y = (add d P (add d Q R)).y:=by
  generalize add d (add d P Q) R = U at *;generalize add d P (add d Q R) = V at *
  unfold kk at y3 m3 y4 m4
  generalize add d P Q = S at *;generalize add d Q R = T at *;generalize 1 + kk d P Q = a at *;generalize 1 - kk d P Q = b at *;generalize 1 + kk d Q R = e at *;generalize 1 - kk d Q R = f at *;rw [Ut,Ur,<-y3,<-y4] at ay;have hne:=eJ g.pr (eJ g.pr (eJ g.pr p1 m1) p2) m2
  apply cancel g.pr (eJ g.pr hne (eJ g.pr m3 m4))
  clear x1 y1 x2 y2 x3 y3 x4 y4 ax c1 c2 c3 c4 hne p1 p2 m1 m2 p3 p4;generalize a * b * e * f = z at *;generalize 1 - d * S.x * R.x * S.y * R.y = w at *;generalize 1 - d * P.x * T.x * P.y * T.y = v at *;generalize U.y = u at *;generalize V.y = t at *;clear g m3 m4;rw [Uy,Ux,ay]
 have eta : ∀ A B : Pt n,A.x = B.x -> A.y = B.y -> A = B:=by
  rintro ⟨_,_⟩ ⟨_,_⟩ h1 h2
  simp only at h1 h2;rw [h1,h2]
 exact eta _ _ ex ey
end Ed
end Nums
namespace Nums
namespace Ed
variable {n : Nat} [NeZero n] {d : Fin n}
def mul (d : Fin n) : Nat -> Pt n -> Pt n
  | 0,_=>zero
  | k + 1,P=>add d (mul d k P) P
theorem yP (P : Pt n) : mul d 0 P = zero:=rfl
theorem mul_succ (k : Nat) (P : Pt n) : mul d (k + 1) P = add d (mul d k P) P:=rfl
theorem j9 (g : Good n d) {P : Pt n} (hP : On d P) (k : Nat) : On d (mul d k P):=by
 induction k with
 | zero=>exact sS
 | succ k ih=>exact pW g ih hP
theorem Gs (g : Good n d) (P : Pt n) : mul d 1 P = P:=by rw [mul_succ,yP,zero_add g]
theorem UK (g : Good n d) (P : Pt n) : mul d 2 P = add d P P:=by rw [mul_succ,Gs g]
theorem mul_add (g : Good n d) {P : Pt n} (hP : On d P) (j k : Nat) : mul d (j + k) P = add d (mul d j P) (mul d k P):=by
 induction k with
 | zero=>rw [fJ,yP,add_zero g]
 | succ k ih=>rw [<-Nat.add_assoc,mul_succ,mul_succ,ih,add_assoc g (j9 g hP j) (j9 g hP k) hP]
theorem mul_zero (g : Good n d) (k : Nat) : mul d k (zero : Pt n) = zero:=by
 induction k with
 | zero=>rfl
 | succ k ih=>rw [mul_succ,ih,zero_add g]
theorem vH (g : Good n d) {P : Pt n} (hP : On d P) (j k : Nat) : mul d (j * k) P = mul d k (mul d j P):=by
 induction k with
 | zero=>rw [Nat.mul_zero,yP,yP]
 | succ k ih=>rw [CJ,mul_add g hP,ih,mul_succ]
theorem Hm (g : Good n d) {A B C D : Pt n} (hA : On d A) (hB : On d B) (hC : On d C) (hD : On d D) :
  add d (add d A B) (add d C D) = add d (add d A C) (add d B D):=by
 rw [add_assoc g hA hB (pW g hC hD),add_assoc g hA hC (pW g hB hD),<-add_assoc g hB hC hD,<-add_assoc g hC hB hD,add_comm B C]
theorem S8 (g : Good n d) {P Q : Pt n} (hP : On d P) (hQ : On d Q) (h : add d P Q = zero) : Q = neg P:=by
 have a : add d (neg P) (add d P Q) = Q:=by
  rw [<-add_assoc g (tZ hP) hP hQ,add_comm (neg P) P,add_neg g hP,zero_add g]
 rw [h,add_zero g] at a;exact a.symm
theorem neg_zero : neg (zero : Pt n) = zero:=by
 show Pt.mk (-0 : Fin n) 1 = Pt.mk 0 1
 have : (-0 : Fin n) = 0:=by grind only
 rw [this]
theorem neg_add (g : Good n d) {P Q : Pt n} (hP : On d P) (hQ : On d Q) : neg (add d P Q) = add d (neg P) (neg Q):=by
 symm
 apply S8 g (pW g hP hQ) (pW g (tZ hP) (tZ hQ))
 rw [Hm g hP hQ (tZ hP) (tZ hQ),add_neg g hP,add_neg g hQ,zero_add g]
theorem mul_neg (g : Good n d) {P : Pt n} (hP : On d P) (k : Nat) : mul d k (neg P) = neg (mul d k P):=by
 induction k with
 | zero=>rw [yP,yP,neg_zero]
 | succ k ih=>rw [mul_succ,mul_succ,ih,neg_add g (j9 g hP k) hP]
theorem mul_mod (g : Good n d) {P : Pt n} (hP : On d P) {L : Nat} (hL : mul d L P = zero) (k : Nat) : mul d k P = mul d (k % L) P:=by
 have h:=mul_add g hP (L * (k / L)) (k % L);rw [vH g hP,hL,mul_zero g,zero_add g,Nat.div_add_mod] at h;exact h
theorem Dw (g : Good n d) {P : Pt n} (hP : On d P) (a b : Nat) : mul d a (mul d b P) = mul d (a * b) P:=by
 rw [gN,vH g hP]
theorem PF (g : Good n d) {P : Pt n} (hP : On d P) {j k a b : Nat} (hj : mul d j P = zero) (hk : mul d k P = zero) (h : j * a = k * b + 1) : P = zero:=by
 have h1 : mul d (j * a) P = zero:=by rw [vH g hP,hj,mul_zero g]
 rw [h,mul_add g hP,vH g hP,hk,mul_zero g,zero_add g,Gs g] at h1;exact h1
structure Rep (X Y Z : Fin n) (P : Pt n) : Prop where
  z : Z ≠ 0
  x : X = P.x * Z
  y : Y = P.y * Z
theorem Rep.zero (hn : dJ n) : Rep (0 : Fin n) 1 1 zero where
 z:=λh=>xF hn h.symm
 x:=by show (0 : Fin n) = 0 * 1; grind only
 y:=by show (1 : Fin n) = 1 * 1; grind only
theorem Rep.neg {X Y Z : Fin n} {P : Pt n} (r : Rep X Y Z P) : Rep (-X) Y Z (neg P) where
 z:=r.z
 x:=by
  rw [r.x]
  show -(P.x * Z) = -P.x * Z
  grind only
 y:=r.y
theorem Tn {X1 Y1 Z1 X2 Y2 Z2 : Fin n} {P Q : Pt n} (r : Rep X1 Y1 Z1 P) (s : Rep X2 Y2 Z2 Q) :
  d * ((X1 * X2) * (Y1 * Y2)) = kk d P Q * ((Z1 * Z2) * (Z1 * Z2)):=by
 rw [r.x,r.y,s.x,s.y]
 unfold kk
 grind only
theorem Rep.add (g : Good n d) {X1 Y1 Z1 X2 Y2 Z2 : Fin n} {P Q : Pt n} (hP : On d P) (hQ : On d Q) (r : Rep X1 Y1 Z1 P) (s : Rep X2 Y2 Z2 Q)
  {z m : Fin n} (hz : z = Z1 * Z2) (hm : m = d * ((X1 * X2) * (Y1 * Y2))) :
  Rep (((X1 * Y2 + Y1 * X2) * z) * (z * z - m)) (((Y1 * Y2 + X1 * X2) * z) * (z * z + m)) ((z * z + m) * (z * z - m)) (add d P Q):=by
 have hzn : z ≠ 0:=hz ▸ eJ g.pr r.z s.z
 have hm2 : m = kk d P Q * (z * z):=by rw [hm,hz,Tn r s]
 have p1 : z * z + m = (1 + kk d P Q) * (z * z):=by rw [hm2]; grind only
 have p2 : z * z - m = (1 - kk d P Q) * (z * z):=by rw [hm2]; grind only
 have nx : X1 * Y2 + Y1 * X2 = (P.x * Q.y + P.y * Q.x) * z:=by rw [r.x,r.y,s.x,s.y,hz]; grind only
 have ny : Y1 * Y2 + X1 * X2 = (P.y * Q.y + P.x * Q.x) * z:=by rw [r.x,r.y,s.x,s.y,hz]; grind only
 have hx:=CA g hP hQ;have hy:=Cz g hP hQ;have n1:=qQ g hP hQ;have n2:=mR g hP hQ
 constructor
 ·rw [p1,p2]
  exact eJ g.pr (eJ g.pr n1 (eJ g.pr hzn hzn)) (eJ g.pr n2 (eJ g.pr hzn hzn))
 ·rw [p1,p2,nx,<-hx]
  grind only
 ·rw [p1,p2,ny,<-hy]
  grind only
theorem Rep.same (hn : dJ n) {X Y Z : Fin n} {P Q : Pt n} (r : Rep X Y Z P) (s : Rep X Y Z Q) : P = Q:=by
 have hx : P.x = Q.x:=cancel hn r.z (r.x.symm.trans s.x);have hy : P.y = Q.y:=cancel hn r.z (r.y.symm.trans s.y)
 cases P
 cases Q
 simp only at hx hy;rw [hx,hy]
theorem Rep.aff (hn : dJ n) {X Y Z : Fin n} {P : Pt n} (r : Rep X Y Z P) : X * kR Z = P.x /\ Y * kR Z = P.y:=by
 have h:=mQ hn r.z
 have a : ∀ u : Fin n,u * Z * kR Z = u * (Z * kR Z):=λu=>by grind only
 have b : ∀ u : Fin n,u * 1 = u:=λu=>by grind only
 rw [r.x,r.y,a,a,h,b,b];exact ⟨rfl,rfl⟩
end Ed
end Nums
namespace Nums
instance : NeZero p:=⟨by decide⟩
abbrev F:=Fin p
def fof (k : Nat) : F:=⟨k % p,eR _ (by decide)⟩
theorem vO (k : Nat) : (fof k).val = k % p:=rfl
theorem pB (a b : Nat) : fof (a + b) = fof a + fof b:=by
 apply nC
 show (a + b) % p = (a % p + b % p) % p
 rw [<-Nat.add_mod]
theorem jE (a b : Nat) : fof (a * b) = fof a * fof b:=by
 apply nC
 show (a * b) % p = (a % p * (b % p)) % p
 rw [<-wR]
theorem yW (a : Nat) : fof (a % p) = fof a:=by
 apply nC
 show a % p % p = a % p
 rw [Nat.mod_mod]
theorem qE {a b : Nat} (h : a % p = b % p) : fof a = fof b:=nC h
theorem uG : fof 0 = 0:=by
 apply nC
 show 0 % p = 0 % p
 rfl
theorem oA : fof 1 = 1:=by
 apply nC
 show 1 % p = 1 % p
 rfl
theorem Tx (a : F) : fof a.val = a:=by
 apply nC
 exact bS a.isLt
theorem Bl {a b : Nat} (h : b <= a) : fof (a - b) = fof a - fof b:=by
 have : fof a = fof (a - b) + fof b:=by rw [<-pB,Nat.sub_add_cancel h]
 rw [this];generalize fof (a - b) = u;generalize fof b = v
 grind only
theorem QZ (a k : Nat) : fof (a ^ k) = fP (fof a) k:=by
 induction k with
 | zero=>exact oA
 | succ k ih=>rw [dE,jE,ih,gU]
theorem Ot {a e : Nat} (k : Nat) (h : e < 2 ^ k) : fP (fof a) e = fof (pm p a k e):=by
 rw [Nj p a k e h,yW,QZ]
def ph : Nat:=28948022309329048855892746252171976963317496166410141009864396001978282409974
def pq : Nat:=14474011154664524427946373126085988481658748083205070504932198000989141204987
theorem SN : pq * 2 = ph:=by decide
def im : F:=fP (fof 2) pq
theorem RZ : im * im = -1:=by
 unfold im
 rw [<-rT,show pq + pq = ph from by decide,Ot 255 (by decide)];have : fof (pm p 2 255 ph) = fof (p - 1):=qE (by decide +kernel);rw [this,Bl (by decide),oA,show fof p = 0 from qE (a:=p) (b:=0) (by decide)];generalize (1 : F) = u
 grind only
theorem Sp : (2 : F) ≠ 0:=by
 intro h
 have h1 : (2 : F).val = (0 : F).val:=by rw [h]
 revert h1
 decide
theorem G2 {a : F} (ha : a ≠ 0) : fP (a * a) ph = 1:=by
 rw [NR,<-rT,show ph + ph = p - 1 from by decide];exact AM gT ha
theorem Qx {w : F} (h0 : w ≠ 0) (h : fP w ph ≠ 1) (x : F) : x * x ≠ w:=by
 rintro rfl
 apply h
 apply G2
 rintro rfl
 exact h0 (by grind only)
theorem QA {a : F} (h : a ≠ 0) : (-a).val = p - a.val:=by
 have h1 : a.val ≠ 0:=λh2=>h (nC h2);have h2:=a.isLt
 have h3 : fof (p - a.val) = -a:=by
  rw [Bl (by omega),Tx,show fof p = 0 from qE (a:=p) (b:=0) (by decide)]
  grind only
 rw [<-h3,vO];exact bS (by omega)
theorem UA : p % 2 = 1:=by decide
theorem Bk {a : F} (h : a ≠ 0) : (-a).val % 2 = 1 - a.val % 2:=by
 rw [QA h];have h2:=a.isLt;have h3:=UA
 omega
def dn : Nat:=37095705934669439343138083508754565189542113879843219016388785533085940283555
def dd : F:=fof dn
theorem Vg : dd ≠ 0:=λh=>by
 have:=congrArg Fin.val h
 revert this
 decide
theorem TS : fP dd ph ≠ 1:=by
 unfold dd
 rw [Ot 255 (by decide)]
 intro h
 have:=congrArg Fin.val h
 revert this
 rw [vO]
 decide +kernel
theorem iL : Ed.Good p dd where
 pr:=gT
 two:=Sp
 i:=⟨im,RZ⟩
 d:=Qx Vg TS
def bx : Nat:=15112221349535400772501151409588531511454012693041857206046113283949847762202
def bY : Nat:=46316835694926478169428394003475163141307993866256225615783033603165251855960
def base : Ed.Pt p:=⟨fof bx,fof bY⟩
theorem l8 : Ed.On dd base:=by
 show fof bY * fof bY - fof bx * fof bx = 1 + dd * fof bx * fof bx * fof bY * fof bY
 unfold dd
 have h : fof (bY * bY) = fof (bx * bx + (1 + dn * bx * bx * bY * bY)):=qE (by decide +kernel);rw [jE,pB,pB,jE,jE,jE,jE,jE,oA] at h;rw [h];generalize fof bx = u;generalize fof bY = v;generalize fof dn = w
 grind only
end Nums
namespace Nums
def forced {α : Type} (x : Nat) (f : Nat -> α) : α :=
  match x with
  | 0=>f 0
  | k + 1=>f (k + 1)
theorem pI {α : Type} (x : Nat) (f : Nat -> α) : forced x f = f x:=by cases x <;> rfl
structure Tri where
  x : Nat
  y : Nat
  z : Nat
def sN (a b : Tri) : Tri :=
  forced (a.z * b.z % p) λz=>forced (z * z % p) λzz=>forced (dn * (a.x * b.x % p * (a.y * b.y % p) % p) % p) λm =>
  forced ((zz + m) % p) λpl=>forced ((zz + p - m) % p) λmi =>
  forced ((a.x * b.y + a.y * b.x) % p * z % p * mi % p) λx=>forced ((a.y * b.y + a.x * b.x) % p * z % p * pl % p) λy =>
  forced (pl * mi % p) λw=>⟨x,y,w⟩
def Bv : Nat -> Nat -> Tri -> Tri -> Tri
  | 0,_,acc,_=>acc
  | n + 1,k,acc,q=>Bv n (k / 2) (if k % 2 = 1 then sN acc q else acc) (sN q q)
def qF (t : Tri) (P : Ed.Pt p) : Prop:=Ed.Rep (fof t.x) (fof t.y) (fof t.z) P
theorem Bw {a b : Tri} {P Q : Ed.Pt p} (hP : Ed.On dd P) (hQ : Ed.On dd Q) (ha : qF a P) (hb : qF b Q) : qF (sN a b) (Ed.add dd P Q):=by
 unfold sN
 simp only [pI];have h:=Ed.Rep.add iL hP hQ ha hb rfl rfl
 unfold qF
 simp only
 generalize hz : a.z * b.z % p = z;generalize hm : dn * (a.x * b.x % p * (a.y * b.y % p) % p) % p = m
 have ez : fof z = fof a.z * fof b.z:=by rw [<-hz,yW,jE]
 have em : fof m = dd * ((fof a.x * fof b.x) * (fof a.y * fof b.y)):=by
  rw [<-hm];simp only [yW,jE]
  rfl
 have hmp : m < p:=by rw [<-hm]; exact eR _ (by decide)
 have es : fof (z * z % p + p - m) = fof z * fof z - fof m:=by
  rw [Bl (by omega),pB,yW,jE,show fof p = 0 from qE (a:=p) (b:=0) (by decide)]
  grind only
 rw [<-ez,<-em] at h;simp only [yW,jE,pB,es];exact h
theorem wX : ∀ (n k : Nat) (acc q : Tri) (A Q : Ed.Pt p),k < 2 ^ n -> Ed.On dd A -> Ed.On dd Q -> qF acc A -> qF q Q -> qF (Bv n k acc q) (Ed.add dd A (Ed.mul dd k Q))
 | 0,k,acc,q,A,Q,hk,hA,hQ,ha,hq=>by
  have : k = 0:=by simp at hk; omega
  subst this;rw [Ed.yP,Ed.add_zero iL];exact ha
 | n + 1,k,acc,q,A,Q,hk,hA,hQ,ha,hq=>by
  have hk2 : k / 2 < 2 ^ n:=by rw [dE] at hk; omega
  have h2:=Bw hQ hQ hq hq;have o2:=Ed.pW iL hQ hQ
  have e2 : Ed.mul dd (k / 2) (Ed.add dd Q Q) = Ed.mul dd (2 * (k / 2)) Q:=by
   rw [Ed.vH iL hQ,Ed.UK iL]
  show qF (Bv n (k / 2) (if k % 2 = 1 then sN acc q else acc) (sN q q)) _
  by_cases h : k % 2 = 1
  ·rw [if_pos h]
   have ih:=wX n (k / 2) (sN acc q) (sN q q) (Ed.add dd A Q) (Ed.add dd Q Q) hk2 (Ed.pW iL hA hQ) o2 (Bw hA hQ ha hq) h2;rw [e2,Ed.add_assoc iL hA hQ (Ed.j9 iL hQ _),Ed.add_comm Q,<-Ed.mul_succ,show 2 * (k / 2) + 1 = k by omega] at ih;exact ih
  ·rw [if_neg h]
   have ih:=wX n (k / 2) acc (sN q q) A (Ed.add dd Q Q) hk2 hA o2 ha h2;rw [e2,show 2 * (k / 2) = k by omega] at ih;exact ih
def LL : Nat:=7237005577332262213973186563042994240857116359379907606001950938285454250989
def ending : Bool :=
  let t:=Bv 253 LL ⟨0,1,1⟩ ⟨bx,bY,1⟩
  forced t.x λx=>forced t.y λy=>forced t.z λz=>g7 (x % p) 0 && g7 (y % p) (z % p)
theorem G4 : ending = true:=by decide +kernel
theorem order : Ed.mul dd LL base = Ed.zero:=by
 have ha : qF ⟨0,1,1⟩ Ed.zero:=by
  have:=Ed.Rep.zero gT
  unfold qF
  rw [uG,oA];exact this
 have hq : qF ⟨bx,bY,1⟩ base:=by
  refine ⟨?_,?_,?_⟩
  ·show fof 1 ≠ 0
   rw [oA];exact λh=>xF gT h.symm
  ·show fof bx = fof bx * fof 1
   rw [oA]
   grind only
  ·show fof bY = fof bY * fof 1
   rw [oA]
   grind only
 have h:=wX 253 LL _ _ Ed.zero base (by decide) Ed.sS l8 ha hq;rw [Ed.zero_add iL] at h;have e:=G4
 unfold ending at e
 simp only [pI] at e;generalize Bv 253 LL ⟨0,1,1⟩ ⟨bx,bY,1⟩ = t at h e;rw [aV] at e;obtain ⟨e1,e2⟩:=e;have e1:=bL e1;have e2:=bL e2;have x0 : fof t.x = 0:=nC e1;have yz : fof t.y = fof t.z:=nC e2
 have hz : Ed.Rep (fof t.x) (fof t.y) (fof t.z) Ed.zero:=by
  refine ⟨h.z,?_,?_⟩
  ·rw [x0]
   show (0 : F) = 0 * fof t.z
   grind only
  ·rw [yz]
   show fof t.z = 1 * fof t.z
   grind only
 exact Ed.Rep.same gT h hz
end Nums
namespace Nums
def Small (l : List Int) : Prop:=∀ x ∈ l,0 <= x /\ x < 65536
end Nums
namespace Nums
end Nums
namespace Nums
def le : List UInt8 -> Nat
  | []=>0
  | b :: bs=>b.toNat + 256 * le bs
def split : List Int -> List UInt8
  | []=>[]
  | d :: ds=>aX (d % 256).toNat :: aX (d / 256).toNat :: split ds
theorem xH : ∀ {a b : List UInt8},a.length = b.length -> le a = le b -> a = b
 | [],[],_,_=>rfl
 | x :: a,y :: b,hl,h=>by
  have h1:=x.toNat_lt;have h2:=y.toNat_lt;have h3 : x.toNat + 256 * le a = y.toNat + 256 * le b:=h;have h4 : x = y:=UInt8.toNat.inj (by omega);have h5:=xH (a:=a) (b:=b) (by simpa using hl) (by omega);rw [h4,h5]
def bytes : Nat -> Nat -> List UInt8
  | 0,_=>[]
  | k + 1,v=>aX v :: bytes k (v / 256)
theorem cK : ∀ k v,(bytes k v).length = k
 | 0,_=>rfl
 | k + 1,v=>by show (bytes k (v / 256)).length + 1 = k + 1; rw [cK]
theorem oJ : ∀ k v,le (bytes k v) = v % 256 ^ k
 | 0,v=>by show 0 = v % 1; omega
 | k + 1,v=>by
  show (aX v).toNat + 256 * le (bytes k (v / 256)) = v % 256 ^ (k + 1)
  rw [oJ,UInt8.toNat_ofNat',show 256 ^ (k + 1) = 256 * 256 ^ k by rw [dE,gN],Nat.mod_mul]
def enc (x : F) : List UInt8:=bytes 32 x.val
theorem kW (x : F) : (enc x).length = 32:=cK _ _
theorem xI (x : F) : le (enc x) = x.val:=by
 unfold enc
 rw [oJ];exact bS (Nat.lt_trans x.isLt (by decide))
theorem Ra {x y : F} (h : enc x = enc y) : x = y:=by
 apply nC
 rw [<-xI,<-xI,h]
theorem TO {b : List UInt8} (hb : b.length = 32) {x : F} (h : le b = x.val) : b = enc x :=
 xH (by rw [hb,kW]) (by rw [h,xI])
end Nums
namespace Go.Proofs.YtfkchihlchlfdaaDoor
open Go.RowKit Go.IntWalk
theorem nS : ∀ (k v : Nat) {m : Nat},m < k -> ((Nums.bytes k v)[m]!).toNat = v / 256 ^ m % 256
 | k + 1,v,0,_=>by
  show (aX v).toNat = v / 1 % 256
  rw [UInt8.toNat_ofNat',Nat.div_one]
 | k + 1,v,m + 1,h=>by
  have ih:=nS k (v / 256) (m:=m) (by omega)
  show ((Nums.bytes k (v / 256))[m]!).toNat = v / 256 ^ (m + 1) % 256
  rw [ih,Nat.div_div_eq_div_mul,dE,gN 256]
end Go.Proofs.YtfkchihlchlfdaaDoor
namespace Nums
def dW (w n x : Nat) : Nat:=x / 2 ^ n + x % 2 ^ n * 2 ^ (w - n)
def chw (w e f g : Nat) : Nat:=(e &&& f) ^^^ ((2 ^ w - 1 - e) &&& g)
def maw (a b c : Nat) : Nat:=(a &&& b) ^^^ (a &&& c) ^^^ (b &&& c)
structure Sha where
  w : Nat
  n : Nat
  big1 : Nat × Nat × Nat
  big0 : Nat × Nat × Nat
  IC : Nat × Nat × Nat
  low0 : Nat × Nat × Nat
  k : Nat -> Nat
  start : List Nat
def oU (w : Nat) (t : Nat × Nat × Nat) (x : Nat) : Nat:=dW w t.1 x ^^^ dW w t.2.1 x ^^^ dW w t.2.2 x
def o9 (w : Nat) (t : Nat × Nat × Nat) (x : Nat) : Nat:=dW w t.1 x ^^^ dW w t.2.1 x ^^^ x / 2 ^ t.2.2
def sqs : List Nat:=[7640891576956012808,13503953896175478587,4354685564936845355,11912009170470909681,5840696475078001361,11170449401992604703,2270897969802886507,6620516959819538809]
def cbs : List Nat:=[4794697086780616226,8158064640168781261,13096744586834688815,16840607885511220156,4131703408338449720,6480981068601479193,10538285296894168987,12329834152419229976,15566598209576043074,1334009975649890238,2608012711638119052,6128411473006802146,8268148722764581231,9286055187155687089,11230858885718282805,13951009754708518548,16472876342353939154,17275323862435702243,1135362057144423861,2597628984639134821,3308224258029322869,5365058923640841347,6679025012923562964,8573033837759648693,10970295158949994411,12119686244451234320,12683024718118986047,13788192230050041572,14330467153632333762,15395433587784984357,489312712824947311,1452737877330783856,2861767655752347644,3322285676063803686,5560940570517711597,5996557281743188959,7280758554555802590,8532644243296465576,9350256976987008742,10552545826968843579,11727347734174303076,12113106623233404929,14000437183269869457,14369950271660146224,15101387698204529176,15463397548674623760,17586052441742319658,1182934255886127544,1847814050463011016,2177327727835720531,2830643537854262169,3796741975233480872,4115178125766777443,5681478168544905931,6601373596472566643,7507060721942968483,8399075790359081724,8693463985226723168,9568029438360202098,10144078919501101548,10430055236837252648,11840083180663258601,13761210420658862357,14299343276471374635,14566680578165727644,15097957966210449927,16922976911328602910,17689382322260857208,500013540394364858,748580250866718886,1242879168328830382,1977374033974150939,2944078676154940804,3659926193048069267,4368137639120453308,4836135668995329356,5532061633213252278,6448918945643986474,6902733635092675308,7801388544844847127]
def eM : Sha where
  w:=64
  n:=80
  big1:=(14,18,41)
  big0:=(28,34,39)
  IC:=(19,61,6)
  low0:=(1,8,7)
  k:=λt=>cbs[t]!
  start:=sqs
def b7 : Sha where
  w:=32
  n:=64
  big1:=(6,11,25)
  big0:=(2,13,22)
  IC:=(17,19,10)
  low0:=(7,18,3)
  k:=λt=>cbs[t]! / 4294967296
  start:=sqs.map (· / 4294967296)
def ben (f : Nat -> Nat) : Nat -> Nat
  | 0=>0
  | j + 1=>ben f j * 256 + f j
theorem E4 {f : Nat -> Nat} (h : ∀ j,f j < 256) : ∀ j,ben f j < 256 ^ j
 | 0=>Nat.one_pos
 | j + 1=>by
  have h1:=E4 h j;have h2:=h j
  show ben f j * 256 + f j < 256 ^ (j + 1)
  rw [dE]
  omega
def Hf (s : Sha) (b : List UInt8) (t : Nat) : Nat:=ben (λk=>(b[t * (s.w / 8) + k]!).toNat) (s.w / 8)
def sx (s : Sha) (b : List UInt8) (t : Nat) : Nat :=
  if _h : t < 16 then Hf s b t else (o9 s.w s.IC (sx s b (t - 2)) + sx s b (t - 7) + o9 s.w s.low0 (sx s b (t - 15)) + sx s b (t - 16)) % 2 ^ s.w
termination_by t
decreasing_by all_goals omega
structure Oct where
  a : Nat
  b : Nat
  c : Nat
  d : Nat
  e : Nat
  f : Nat
  g : Nat
  h : Nat
def Oct.list (o : Oct) : List Nat:=[o.a,o.b,o.c,o.d,o.e,o.f,o.g,o.h]
def t1w (s : Sha) (k x : Nat) (o : Oct) : Nat:=o.h + oU s.w s.big1 o.e + chw s.w o.e o.f o.g + k + x
def t2w (s : Sha) (o : Oct) : Nat:=oU s.w s.big0 o.a + maw o.a o.b o.c
def rnd (s : Sha) (k x : Nat) (o : Oct) : Oct:=⟨(t1w s k x o + t2w s o) % 2 ^ s.w,o.a,o.b,o.c,(o.d + t1w s k x o) % 2 ^ s.w,o.e,o.f,o.g⟩
def nO (s : Sha) (b : List UInt8) (o : Oct) : Nat -> Oct
  | 0=>o
  | t + 1=>rnd s (s.k t) (sx s b t) (nO s b o t)
def CB (w : Nat) (o p : Oct) : Oct:=⟨(o.a + p.a) % 2 ^ w,(o.b + p.b) % 2 ^ w,(o.c + p.c) % 2 ^ w,(o.d + p.d) % 2 ^ w,(o.e + p.e) % 2 ^ w,(o.f + p.f) % 2 ^ w,(o.g + p.g) % 2 ^ w,(o.h + p.h) % 2 ^ w⟩
def iA (s : Sha) (o : Oct) (b : List UInt8) : Oct:=CB s.w o (nO s b o s.n)
theorem gL {a b w : Nat} (ha : a < 2 ^ w) (hb : b < 2 ^ w) : a ^^^ b < 2 ^ w:=Nat.xor_lt_two_pow ha hb
theorem gR {a b w : Nat} (ha : a < 2 ^ w) : a &&& b < 2 ^ w:=bR Nat.and_le_left ha
theorem eG {w n x : Nat} (hn : n <= w) (hx : x < 2 ^ w) : dW w n x < 2 ^ w:=by
 have e : (2 : Nat) ^ w = 2 ^ n * 2 ^ (w - n):=by rw [<-o5,AU hn]
 have h1 : x / 2 ^ n < 2 ^ (w - n):=C1 (by rw [<-e]; exact hx);have h2 : x % 2 ^ n + 1 <= 2 ^ n:=eR _ (lL n);have h3:=Nat.mul_le_mul_right (2 ^ (w - n)) h2;rw [<-e,rH,CG] at h3
 unfold dW
 omega
theorem vU {w x : Nat} {t : Nat × Nat × Nat} (h : t.1 <= w /\ t.2.1 <= w /\ t.2.2 <= w) (hx : x < 2 ^ w) : oU w t x < 2 ^ w :=
 gL (gL (eG h.1 hx) (eG h.2.1 hx)) (eG h.2.2 hx)
theorem J1 {w x : Nat} {t : Nat × Nat × Nat} (h : t.1 <= w /\ t.2.1 <= w) (hx : x < 2 ^ w) : o9 w t x < 2 ^ w :=
 gL (gL (eG h.1 hx) (eG h.2 hx)) (bR (gJ _ _) hx)
theorem Ja {w e f g : Nat} (he : e < 2 ^ w) : chw w e f g < 2 ^ w:=gL (gR he) (gR (by have:=lL w; omega))
theorem IA {w a b c : Nat} (ha : a < 2 ^ w) (hb : b < 2 ^ w) : maw a b c < 2 ^ w:=gL (gL (gR ha) (gR ha)) (gR hb)
theorem Fy (s : Sha) (b : List UInt8) (hw : s.w / 8 * 8 = s.w) (t : Nat) : sx s b t < 2 ^ s.w:=by
 rw [sx]
 split
 ·have h:=E4 (f:=λk=>(b[t * (s.w / 8) + k]!).toNat) (λj=>UInt8.toNat_lt _) (s.w / 8)
  rw [show (256 : Nat) = 2 ^ 8 from rfl,<-wP,gN 8,hw] at h;exact h
 ·exact eR _ (lL _)
structure OB (w : Nat) (o : Oct) : Prop where
  a : o.a < 2 ^ w
  b : o.b < 2 ^ w
  c : o.c < 2 ^ w
  d : o.d < 2 ^ w
  e : o.e < 2 ^ w
  f : o.f < 2 ^ w
  g : o.g < 2 ^ w
  h : o.h < 2 ^ w
theorem OB.rnd {s : Sha} {o : Oct} (h : OB s.w o) (k x : Nat) : OB s.w (rnd s k x o) :=
 ⟨eR _ (lL _),h.a,h.b,h.c,eR _ (lL _),h.e,h.f,h.g⟩
theorem OB.nO {s : Sha} {b : List UInt8} {o : Oct} (h : OB s.w o) : ∀ t,OB s.w (nO s b o t)
 | 0=>h
 | t + 1=>(OB.nO h t).rnd _ _
theorem OB.CB (w : Nat) (o p : Oct) : OB w (CB w o p):=by
 constructor <;> exact eR _ (lL _)
theorem OB.iA (s : Sha) (o : Oct) (b : List UInt8) : OB s.w (iA s o b):=OB.CB _ _ _
theorem Vn {w e f g : Nat} (he : e < 2 ^ w) : (e &&& f) ||| ((2 ^ w - 1 - e) &&& g) = chw w e f g:=by
 unfold chw
 apply Nat.eq_of_testBit_eq
 intro i
 simp only [Nat.testBit_or,Nat.testBit_xor,Nat.testBit_and];have h:=Nat.testBit_two_pow_sub_succ he i;rw [show 2 ^ w - 1 - e = 2 ^ w - (e + 1) by omega,h]
 cases e.testBit i <;> cases f.testBit i <;> cases g.testBit i <;> simp
theorem UN (a b c : Nat) : (a &&& b) ||| (a &&& c) ||| (b &&& c) = maw a b c:=by
 unfold maw
 apply Nat.eq_of_testBit_eq
 intro i
 simp only [Nat.testBit_or,Nat.testBit_xor,Nat.testBit_and]
 cases a.testBit i <;> cases b.testBit i <;> cases c.testBit i <;> rfl
def jQ (s : Sha) (B : Nat) (o : Oct) (l : List UInt8) : Oct :=
  if _h : B = 0 \/ l.length < B then o else jQ s B (iA s o (l.take B)) (l.drop B)
termination_by l.length
decreasing_by
  rw [iG]
  omega
theorem iX {s : Sha} {B : Nat} {o : Oct} {l : List UInt8} (h : l.length < B) : jQ s B o l = o:=by
 rw [jQ,dif_pos (.inr h)]
theorem lD {s : Sha} {B : Nat} {o : Oct} {b l : List UInt8} (hB : 0 < B) (h : b.length = B) : jQ s B o (b ++ l) = jQ s B (iA s o b) l:=by
 rw [jQ,dif_neg (by rw [aO]; omega),<-h,List.take_left,List.drop_left]
theorem qP {s : Sha} {B : Nat} (hB : 0 < B) : ∀ (n : Nat) {o : Oct} {a l : List UInt8},a.length = n * B -> jQ s B o (a ++ l) = jQ s B (jQ s B o a) l
 | 0,o,a,l,h=>by
  have h0 : a = []:=cQ (by omega);subst h0;rw [jD,iX (l:=[]) (by simpa using hB)]
 | n + 1,o,a,l,h=>by
  have hl : (a.take B).length = B:=by rw [aZ,h,rH]; omega
  have hd : (a.drop B).length = n * B:=by rw [iG,h,rH]; omega
  have e : a = a.take B ++ a.drop B:=(fQ B a).symm;rw [e,aU,lD hB hl,lD hB hl,qP hB n hd]
def s6 (v : Nat) : List UInt8:=(bytes 8 v).reverse
def jG (B r v : Nat) : List UInt8:=128 :: (aD ((if r + 1 <= B - B / 8 then B else 2 * B) - 9 - r) 0 ++ s6 v)
def ME (s : Sha) (m : List UInt8) : Oct:=jQ s (2 * s.w) (⟨s.start[0]!,s.start[1]!,s.start[2]!,s.start[3]!,s.start[4]!,s.start[5]!,s.start[6]!,s.start[7]!⟩) (m ++ jG (2 * s.w) (m.length % (2 * s.w)) (8 * m.length))
def m9 (s : Sha) (x : Nat) : List UInt8:=(bytes (s.w / 8) x).reverse
def eK (s : Sha) (m : List UInt8) : List UInt8:=((ME s m).list.map (m9 s)).flatten
end Nums
namespace Go.Proofs.YtfkchihlchlfdaaDoor
open Go.RowKit Go.IntWalk Nums
theorem JN (w n x : Nat) (hn : n <= w) (hx : x < 2 ^ w) : x * 2 ^ (w - n) % 2 ^ w = x % 2 ^ n * 2 ^ (w - n) /\ x / 2 ^ n < 2 ^ (w - n):=by
 have e : (2 : Nat) ^ w = 2 ^ n * 2 ^ (w - n):=by rw [<-o5,AU hn]
 refine ⟨?_,C1 (by rw [<-e]; exact hx)⟩;rw [e,Nat.mul_mod_mul_right]
theorem Lg (x n : Nat) (hx : x < 4294967296) (hn : n < 32) : (x * 2 ^ (32 - n) + x / 2 ^ n) % 4294967296 = dW 32 n x:=by
 obtain ⟨e1,e2⟩:=JN 32 n x (by omega) hx;have h4 : x % 2 ^ n + 1 <= 2 ^ n:=eR _ (lL n);have h5:=Nat.mul_le_mul_right (2 ^ (32 - n)) h4
 have h6 : (2 : Nat) ^ n * 2 ^ (32 - n) = 4294967296:=by
  rw [<-o5,AU (show n <= 32 by omega)]
 rw [h6,rH,CG] at h5;rw [show (2 : Nat) ^ 32 = 4294967296 from rfl] at e1
 unfold dW
 generalize x / 2 ^ n = d at *;generalize x * 2 ^ (32 - n) = y at *;generalize x % 2 ^ n * 2 ^ (32 - n) = z at *;generalize (2 : Nat) ^ (32 - n) = c at *
 omega
theorem rM (x n : Nat) (hx : x < 4294967296) (hn : n < 32) (w : World) :
  Calls Tryd.prog 79 #[.int .u64 (x : Int),.int .u64 (n : Int),.int .u64 32] w λe w'=>e = .returned (.int .u64 ((dW 32 n x : Nat) : Int)) /\ w' = w:=by
 obtain ⟨e1,e2⟩:=JN 32 n x (by omega) hx;have hp : (2 : Nat) ^ (32 - n) <= 2 ^ 32:=Nat.pow_le_pow_right (by decide) (by omega)
 have hb : x * 2 ^ (32 - n) < 18446744073709551616:=by
  have h1:=mJ (show x <= 4294967295 by omega) hp
  have : (4294967295 : Nat) * 2 ^ 32 < 18446744073709551616:=by decide
  omega
 have q3 : IntKind.u64.wrap ((x : Int) * 2 ^ (32 - n)) = ((x * 2 ^ (32 - n) : Nat) : Int):=by
  rw [show ((x : Int) * 2 ^ (32 - n)) = ((x * 2 ^ (32 - n) : Nat) : Int) by simp];exact rJ _ hb
 have q4 : IntKind.u64.wrap (32 - (n : Int)) = ((32 - n : Nat) : Int):=by
  rw [IntKind.wrap_u64]
  omega
 have f1 : ((x : Int) / 2 ^ n) = ((x / 2 ^ n : Nat) : Int):=by simp
 have hd : x / 2 ^ n < 18446744073709551616:=bR (gJ _ _) (by omega)
 have q5 : bits .or .u64 ((x / 2 ^ n : Nat) : Int) ((x * 2 ^ (32 - n) : Nat) : Int) = ((x * 2 ^ (32 - n) + x / 2 ^ n : Nat) : Int):=by
  rw [u64_or_nat _ _ hd hb,Nat.or_comm,nat_join (32 - n) _ _ (Nat.mul_mod_left _ _) e2]
 have q6:=Lg x n hx hn
 have q7 : ((x * 2 ^ (32 - n) + x / 2 ^ n : Nat) : Int).tmod 4294967296 = ((dW 32 n x : Nat) : Int):=by
  rw [<-q6]
  rfl
 have g1 : ((32 - n : Nat) : Int) <= 64:=by omega
 have g2 : (n : Int) <= 64:=by omega
 clear e1 e2 hb hd q6 hp;generalize dW 32 n x = r at *;generalize x * 2 ^ (32 - n) + x / 2 ^ n = y at *;generalize x * 2 ^ (32 - n) = m at *;generalize x / 2 ^ n = d at *;generalize hs : 32 - n = s at *;clear hs
 go_enter Tryd.func79,Tryd.ntmps79
 go_wp2
 go_ret
 exact ⟨rfl,rfl⟩
theorem sQ : Own 56:=λ_ _=>by go_simp
theorem tV : Own 55:=λ_ _=>by go_simp
theorem Lu : Own 57:=λ_ _=>by go_simp
theorem Gb : Own 54:=λ_ _=>by go_simp
theorem rO (x : Nat) (w : World) : Calls Tryd.prog 55 #[.int .u64 (x : Int),.int .u64 32] w λe w'=>e = .returned (.int .u64 ((x % 4294967296 : Nat) : Int)) /\ w' = w:=by
 have q : (x : Int).tmod 4294967296 = ((x % 4294967296 : Nat) : Int):=rfl;generalize x % 4294967296 = y at *
 go_enter Tryd.func55,Tryd.ntmps55
 go_wp2
 go_ret
 exact ⟨rfl,rfl⟩
theorem Qd (i : Nat) (hi : i < 80) (w : World) :
  Calls Tryd.prog 57 #[.int .i64 (i : Int)] w λe w'=>e = .returned (.int .u64 (cbs[i]! : Nat)) /\ Below w.heap.size w w':=by
 go_enter Tryd.func57,Tryd.ntmps57
 go_wp2
 go_ret
 refine ⟨?_,(Below.refl _ _).alloc (aF _) _⟩;have hod : i < cbs.length:=hi
 have e : (Us cbs)[i]'(by rw [cY]; exact hod) = .int .u64 (cbs[i]! : Nat):=by
  rw [getElem!_pos cbs i hod]
  simp [Us]
 exact congrArg l7 e
theorem Lf (i : Nat) (hi : i < 8) (w : World) :
  Calls Tryd.prog 54 #[.int .i64 (i : Int)] w λe w'=>e = .returned (.int .u64 (sqs[i]! : Nat)) /\ Below w.heap.size w w':=by
 go_enter Tryd.func54,Tryd.ntmps54
 go_wp2
 go_ret
 refine ⟨?_,(Below.refl _ _).alloc (aF _) _⟩;have hod : i < sqs.length:=hi
 have e : (Us sqs)[i]'(by rw [cY]; exact hod) = .int .u64 (sqs[i]! : Nat):=by
  rw [getElem!_pos sqs i hod]
  simp [Us]
 exact congrArg l7 e
end Go.Proofs.YtfkchihlchlfdaaDoor
