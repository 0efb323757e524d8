import Derived.Test.YtfkchihlchlfdaaGreatDoorMb
import Derived.Maps.AppendAt
import Derived.Deep.OwnRows
import Derived.Test.YtfkchihlchlfdaaGreatDoorMa
import Derived.Great.BuildSlice
import Derived.Lib.SlBytesConst
import Derived.Deep.MidRow
import Derived.Laws.Tables
open Array renaming getD_eq_getD_getElem?->cN,length_toList->dL,getElem?_eq_getElem->dM,toArray_toList->jX,toList_append->kV
open Bool renaming and_eq_true->aW
open Go.Act renaming eval->AV
open Go.Addr renaming add_mid->iS
open Go.Instr renaming fill->gN,fieldAt->kA,buildSlice->nN,sureAddr->rL,loadAt->rM,storeAt->Dr
open Go.Oper renaming upon->mJ,wp->nC
open Go.Region renaming wanted->aN
open Go.Result renaming andThen_ok->aF
open Go.Sem renaming run_bind->aJ,run_pure->aK
open Go.World renaming setRow->dT
open Iff renaming rfl->wZ
open List renaming set_cons_zero->aB,set_cons_succ->aC,replicate->aE,length_append->aI,append_assoc->aU,length_take->aY,size_toArray->a9,mem_cons_of_mem->bL,append_nil->bV,take_of_length_le->bW,getElem?_cons_zero->b6,mem_cons->b7,map_cons->cA,mem_cons_self->cB,length_cons->cC,all_eq_true->cL,eq_nil_of_length_eq_zero->cM,getElem?_eq_some_iff->dI,map_toArray->dW,length_drop->fW,map_nil->gB,getElem?_take->iJ,getElem?_append_right->iL,getElem?_append_left->lM,drop_zero->qX,length_nil->AR
open List.cons renaming injEq->uI
open Nat renaming le_refl->aH,blt->aQ,eq_of_beq_eq_true->bD,lt_of_lt_of_le->bM,zero_le->bZ,zero_add->cK,min_eq_left->cW,add_assoc->dO,add_zero->fN,beq->hH,le_trans->j6,le_of_ble_eq_true->yL,add_sub_cancel_left->AQ
open Option renaming map_some->eZ
open Option.some renaming injEq->bG,inj->fV
open Prod.mk renaming injEq->F6
namespace Go.Proofs.YtfkchihlchlfdaaGreatDoor
open Go.RowKit Go.IntWalk
def GS (w : World) (base e : Nat) (A : Option Addr) (c : Nat) (xs : List Value) : Prop:=w.ownsRow base e 1 (.slice A xs.length c) xs.length xs
section
variable {w w' : World} {base e c : Nat} {A : Option Addr} {xs : List Value}
theorem GS.nil (w : World) (base e : Nat) : GS w base e none 0 []:=⟨rfl,.inl ⟨rfl,rfl⟩⟩
theorem GS.cut (h : GS w base e A c xs) : (A = none /\ c = 0 /\ xs = []) \/ ∃ g,A = some ⟨g,0,none⟩ /\ base <= g /\ VL w g xs:=by
 rcases h.2 with ⟨h1,h2⟩ | ⟨g,cap,cur,hv,hb,hg,hn,hc,hcs,htk⟩
 ·injection h1 with h3 h4 h5
  exact .inl ⟨h3,h5,cM h2⟩
 ·injection hv with h3 h4 h5
  have hB : Blk w g e cur:=hg;refine .inr ⟨g,h3,hb,hB.lt,λj v hj=>?_,λj _=>hB.free j⟩;rw [hB.cell j];rw [<-htk,iJ] at hj
  split at hj
  ·simpa using hj
  ·cases hj
theorem GS.lt (h : GS w base e A c xs) : ∀ k,A.map (·.block) = some k -> base <= k /\ k < w.heap.size:=λk hk=>by
 rcases h.cut with ⟨h1,_,_⟩ | ⟨g,h1,h2,h3⟩
 ·rw [h1] at hk
  cases hk
 ·rw [h1] at hk
  cases hk
  exact ⟨h2,h3.lt⟩
theorem GS.mF (h : GS w base e A c xs) (hk : ∀ k,A.map (·.block) = some k -> w'.heap[k]? = w.heap[k]?) : GS w' base e A c xs:=by
 refine ⟨h.1,?_⟩
 rcases h.2 with h1 | ⟨g,cap,cur,hv,hb,hg,hr⟩
 ·exact .inl h1
 ·injection hv with h3 h4 h5
  refine .inr ⟨g,cap,cur,by rw [h3,h5],hb,?_,hr⟩;rw [hk g (by rw [h3]; rfl)];exact hg
theorem GS.below {B : Nat} (h : GS w base e A c xs) (hb : Below B w w') (hB : w.heap.size <= B) : GS w' base e A c xs:=h.mF λk hk=>hb.block k (bM (h.lt k hk).2 hB)
theorem GS.up (h : GS w base e A c xs) (hb : Up w w') : GS w' base e A c xs:=h.below hb (aH _)
theorem GS.far (h : GS w base e A c xs) {p : Addr} (hp : A.map (·.block) ≠ some p.block) (u : Value) : GS (w.setCell p u) base e A c xs:=h.mF λk hk=>heap_setCell_other w p k u (λhe=>hp (by rw [hk,he]))
theorem GS.JW {W0 : World} (h : GS w base e A c xs) (hbe : Below base W0 w) (hg : w.grownBy w' (A.map (·.block))) (hz : base <= w.heap.size) : Below base W0 w':=hbe.grown hg hz λk hk=>(h.lt k hk).1
end
theorem JO (z : Value) (n : Nat) : madeCells #[z] n = (aE n z).toArray:=by
 apply Array.ext (by simp [madeCells])
 intro i h1 h2
 simp [madeCells,Nat.mod_one]
section
variable {ops : Array Oper} {Q : Exit -> Act -> World -> Prop} {N : Nat} {E : List (Nat × Value)} {w : World} {o : Oper} {rest : List Oper} {k : Nat}
theorem JR {l c : Operand} {t e : TypeId} {K : IntKind} {z : Value} {bytes : Nat} (n : Nat) (hg : o.guard = none) (hd : o.dst = some k) (hk : aQ k N = true) (ho : o.op = .makeSlice t l c) (hl : ev E l = some (.int K (n : Int))) (hc : ev E c = some (.int K (n : Int)))
  (ht : Tryz.prog.underlying t = some (.slice e)) (hi : (Tryz.prog.info? e).map (λi=>(i.zero,i.size,i.bytes)) = some (some z,1,bytes)) (hz1 : z.cells = #[z]) (hbytes : bytes * n <= 281474976710656) (h63 : n <= 9223372036854775807)
  (hn : lF Tryz.prog ops Q rest N ((k,.slice (some ⟨w.heap.size,0,none⟩) n n) :: E) (w.alloc (.cells (aE n z).toArray e))) : lF Tryz.prog ops Q (o :: rest) N E w:=by
 obtain ⟨i,hi0,hz0,hs,hb⟩:=info_parts hi;refine nZ _ hg hd hk (λa ha=>?_) hn;have h1:=ha.eval hl;have h2:=ha.eval hc;have hr:=run_make_row (P:=Tryz.prog) t e i z ht hi0 hz0 hs hz1 K K n (by rw [hb]; exact hbytes) h63 w;rw [JO] at hr
 unfold execOp
 simp only [ho,h1,h2,aJ,hr,aF,aK]
theorem CM {s x : Operand} {t e : TypeId} {z : Value} {base bytes c m d : Nat} {A : Option Addr} {xs news : List Value} {ad : Addr} (hg : o.guard = none) (hd : o.dst = some k) (hk : aQ k N = true) (ho : o.op = .call { callee:=.builtin .append,args:=#[s,x],argTypes:=#[t,t] })
  (hs : ev E s = some (.slice A xs.length c)) (hx : ev E x = some (.slice (some ad) m d)) (ht : Tryz.prog.underlying t = some (.slice e)) (hi : (Tryz.prog.info? e).map (λi=>(i.zero,i.size,i.bytes)) = some (some z,1,bytes)) (hz1 : z.cells.size = 1)
  (hown : GS w base e A c xs) (hm : news.length = m) (hnews : ∀ j u,news[j]? = some u -> w.cell? (ad.add j) = some u) (h1 : ∀ u ∈ news,u.oneCell' = true) (hbytes : (xs.length + m) * bytes <= 140737488355328) (h63 : xs.length + m <= maxLen) (hbase : base <= w.heap.size)
  (hn : ∀ A' c' w',GS w' base e A' c' (xs ++ news) -> w.grownBy w' (A.map (·.block)) -> (A'.map (·.block) = A.map (·.block) \/ A'.map (·.block) = some w.heap.size) -> lF Tryz.prog ops Q rest N ((k,.slice A' (xs ++ news).length c') :: E) w') :
  lF Tryz.prog ops Q (o :: rest) N E w:=by
 obtain ⟨i,hi0,hz0,hs0,hb⟩:=info_parts hi
 have hob : ∀ (B : Option Addr) (n m : Nat),(Value.slice B n m).ownBlock = B.map (·.block):=λB n m=>by cases B <;> rfl
 obtain ⟨v',w',hr,ho',hgr,_,hat⟩:=run_append_own_at (P:=Tryz.prog) w base t o.type e i z 1 bytes ht hi0 hz0 hs0 hb hz1 (by omega) _ xs.length xs hown ad m d news (by rw [hm,Nat.mul_one]) hnews h1 h63 hbytes hbase
 have hlen : (xs ++ news).length = xs.length + m:=by rw [aI,hm]
 rw [<-hlen] at ho'
 obtain ⟨A',c',rfl⟩ : ∃ A' c',v' = .slice A' (xs ++ news).length c':=by
  rcases ho'.2 with ⟨h0,hn⟩ | ⟨g,cap,cur,hv,_⟩
  ·exact ⟨none,0,by rw [h0,hn]⟩
  ·exact ⟨_,_,hv⟩
 rw [hob] at hgr hat;rw [hob] at hat;refine nZ _ hg hd hk (λa ha=>?_) (hn A' c' w' ho' hgr hat);have h2:=ha.eval hs;have h3:=ha.eval hx
 unfold execOp
 simp only [ho,resolve,invoke,builtin,aJ,aK,aF,dW,cA,gB,h2,h3,hr]
end
theorem Az : (Tryz.prog.info? 48).map (λi=>(i.zero,i.size,i.bytes)) = some (some (.int .u64 0),1,8):=by kernel_rfl
theorem mB : (Tryz.prog.info? 5).map (λi=>(i.zero,i.size,i.bytes)) = some (some (.int .u8 0),1,1):=by kernel_rfl
theorem GS.new (w : World) (base e : Nat) (h : base <= w.heap.size) : GS (w.alloc (.cells #[] e)) base e (some ⟨w.heap.size,0,none⟩) 0 [] :=
 ⟨rfl,.inr ⟨w.heap.size,0,#[],rfl,h,Blk.new w _ _,aH _,bZ _,rfl,rfl⟩⟩
def cop (z : List UInt8) (off : Nat) (l : List UInt8) : List UInt8:=z.take off ++ (l ++ z.drop (off + l.length))
theorem FP {z l : List UInt8} {off : Nat} (h : off + l.length <= z.length) : (cop z off l).length = z.length:=by
 simp [cop]
 omega
def T7 (Q : Exit -> Act -> World -> Prop) (w : World) (d s : Operand) (dst : Option Tmp) (a' : Act) : Prop :=
  ∃ (g off n c g2 c2 : Nat) (t t2 : TypeId) (z l : List UInt8),a'.eval d = .slice (some ⟨g,off,none⟩) n c /\ a'.eval s = .slice (some ⟨g2,0,none⟩) l.length c2 /\ Blk w g t (By z).toArray /\ Blk w g2 t2 (By l).toArray /\ l.length <= n /\ off + l.length <= z.length /\
    ∀ w',Up w w' -> Q .normal (a'.put dst (goInt l.length)) (w'.setRow g (By (cop z off l)).toArray)
theorem vV : (Tryz.prog.info? 5).map (·.size) = some 1:=by kernel_rfl
theorem OX {Q : Exit -> Act -> World -> Prop} {id : Nat} {a : Act} {w : World} {l : List Oper} {o : Oper} (n : Nat) (d s : Operand) (hos : l.drop n = [o]) (ho : o.op = .call { callee:=.builtin .copy,args:=#[d,s],argTypes:=#[23,23] }) (hg : o.guard = none)
  (hB : nV l.toArray n 0 1 = true) (hQ : ∀ c a d v w,Q (.panic c) (a.put d v) w -> Q (.panic c) a w) (hm : Tryz.prog.follows .mixedOrders = true)
  (h : wpB Tryz.prog l.toArray (Up w) (T7 Q w d s o.dst) (l.take n) a) : (Code.region id l.toArray true).wp Tryz.prog Q a w:=by
 have hn : n <= l.length:=by
  have h1:=congrArg List.length hos;simp only [fW,cC,AR] at h1
  omega
 refine yV n (Up w) hn hm (by rw [hos]; exact hB) (λ_ _ h k=>h.step k) (Up.drew w) hQ ?_;rw [hos];refine kW (λa' h' w' hw'=>?_) _ _ h;obtain ⟨g,off,n,c,g2,c2,t,t2,z,l,hd,hs,hz,hl,h1,h2,hk⟩:=h';have hb:=hw'.blk hz;have hb2:=hw'.blk hl;refine wpList_copy_own hg d s 23 23 ho 5 Tryz.underlying23 vV g off n c ⟨g2,0,none⟩ l.length c2 hd hs (By z).toArray t hb (By l) (by rw [cD]; exact (cW h1).symm) ?_ (by rw [cD,a9,cD]; exact h2) (kU l) ?_
 ·intro j v hv
  have hj : (Addr.mk g2 0 none).add j = ⟨g2,j,none⟩:=by
   unfold Addr.add
   by_cases h0 : j = 0
   ·subst h0; rfl
   ·simp [h0]
  rw [hj,hb2.cell j]
  simpa using hv
 ·have e : (By z).toArray.toList.take off ++ (By l ++ (By z).toArray.toList.drop (off + (By l).length)) = By (cop z off l):=by
   simp [cop,By]
  rw [e,cD];exact hk w' hw'
theorem oW {ops : Array Oper} {rest : List Oper} {o : Oper} {a : Act} {w : World} {Q : Exit -> Act -> World -> Prop} (d s : Operand) (hgd : o.guard = none) (ho : o.op = .call { callee:=.builtin .copy,args:=#[d,s],argTypes:=#[23,23] })
  (g off n c : Nat) (hd : a.eval d = .slice (some ⟨g,off,none⟩) n c) (P : Option Addr) (l : List UInt8) (c2 : Nat) (hs : a.eval s = .slice P l.length c2) (z : List UInt8) (t : Nat) (hz : Blk w g t (By z).toArray) (lo hi : Nat) (hl : BV w lo hi P l) (hn : off + n = z.length)
  (z' : List UInt8) (hz' : Go.RowKit.Hid (cop z off (l.take n) = z')) (m : Nat) (hm : Go.RowKit.Hid (min l.length n = m)) (h : wpList Tryz.prog ops Q rest (a.put o.dst (.int .i64 (m : Int))) (w.setRow g (By z').toArray)) : wpList Tryz.prog ops Q (o :: rest) a w:=by
 have e0:=hz'.out;have e1:=hm.out;subst e0;subst e1
 by_cases h0 : min l.length n = 0
 ·have ht : l.take n = []:=by
   rw [List.take_eq_nil_iff]
   rcases Nat.min_eq_zero_iff.1 h0 with h1 | h1
   ·exact .inr (cM h1)
   ·exact .inl h1
  have e : cop z off (l.take n) = z:=by
   rw [ht]
   simp [cop]
  have e2 : w.setRow g (By z).toArray = w:=setRow_self w g _ t (0,0) hz;rw [e,e2,h0] at h;exact wpList_copy_nothing hgd d s 23 23 ho 5 Tryz.underlying23 vV _ _ n c l.length c2 hd hs h0 h
 ·have hlp : 0 < l.length:=by omega
  obtain ⟨ad,rfl,_,_,hc⟩:=hl hlp
  have hlt : (By (l.take n)).length = Nat.min l.length n:=by
   rw [cD,aY];exact Nat.min_comm _ _
  refine wpList_copy_own hgd d s 23 23 ho 5 Tryz.underlying23 vV g off n c ad l.length c2 hd hs (By z).toArray t hz (By (l.take n)) hlt ?_ (by rw [hlt,a9,cD,<-hn]; exact Nat.add_le_add_left (Nat.min_le_right _ _) _) (kU _) ?_
  ·intro j v hv
   obtain ⟨x,hx,rfl⟩:=L8 hv;refine hc j x ?_;rw [iJ] at hx
   split at hx
   ·exact hx
   ·cases hx
  ·have e : (By z).toArray.toList.take off ++ (By (l.take n) ++ (By z).toArray.toList.drop (off + (By (l.take n)).length)) = By (cop z off (l.take n)):=by
    simp [cop,By]
   rw [e,hlt];exact h
def z64 : List UInt8:=aE 64 0
theorem Kv : z64.length = 64:=List.length_replicate
def SB (w : World) (v : Value) (l : List UInt8) : Prop:=∃ A c,v = .slice A l.length c /\ SL w 0 w.heap.size A l c
def PT (w : World) (A : Option Addr) (ls : List (List UInt8)) : Prop:=o8 w w.heap.size A ls
theorem SB.later {w w' : World} {v : Value} {l : List UInt8} (h : SB w v l) (hb : Below w.heap.size w w') : SB w' v l:=by
 obtain ⟨A,c,e,h1⟩:=h;exact ⟨A,c,e,(h1.below hb (aH _)).more (aH _) hb.size⟩
theorem PT.later {w w' : World} {A : Option Addr} {ls : List (List UInt8)} (h : PT w A ls) (hb : Below w.heap.size w w') : PT w' A ls:=λhl=>by
 obtain ⟨ad,e,h1,h2⟩:=h.below hb (aH _) hl;refine ⟨ad,e,bM h1 hb.size,λi l hi=>?_⟩;obtain ⟨A',c,h3,h4⟩:=h2 i l hi;exact ⟨A',c,h3,h4.more (aH _) hb.size⟩
theorem SB.nil (w : World) : SB w (.slice none 0 0) []:=⟨none,0,rfl,SL.nil _ _ _⟩
theorem SB.arr {w : World} {g t off n c : Nat} {z l : List UInt8} (h : Blk w g t (By z).toArray) (hl : (z.drop off).take n = l) (hn : l.length = n) (hc : n <= c) (hc2 : c <= 9223372036854775807) : SB w (.slice (some ⟨g,off,none⟩) n c) l:=by
 refine ⟨some ⟨g,off,none⟩,c,by rw [hn],by rw [hn]; exact hc,hc2,λh=>(by cases h),λ_=>⟨_,rfl,bZ _,h.lt,λj x hx=>?_⟩⟩;rw [<-hl,iJ] at hx
 split at hx
 ·rw [List.getElem?_drop] at hx
  rw [iS,h.cell]
  simp [By,hx]
 ·cases hx
theorem SB.all {w : World} {g t n : Nat} {l : List UInt8} (h : Blk w g t (By l).toArray) (hn : l.length = n) (hc2 : n <= 9223372036854775807) : SB w (.slice (some ⟨g,0,none⟩) n n) l :=
 SB.arr h (by rw [qX,bW (by omega)]) hn (aH _) hc2
theorem GS.sb {w : World} {base c : Nat} {A : Option Addr} {l : List UInt8} (h : GS w base 5 A c (By l)) : SB w (.slice A l.length c) l:=by
 have h2:=h.2;rw [cD] at h2
 rcases h2 with ⟨h1,h3⟩ | ⟨g,cap,cur,hv,_,hg,hn,hc,_,htk⟩
 ·injection h1 with h4 h5 h6
  have:=cM h3;subst h4 h6 this;exact SB.nil w
 ·injection hv with h4 h5 h6
  subst h4 h6;refine ⟨_,c,rfl,hn,by unfold maxLen at hc; omega,λh=>(by cases h),λ_=>⟨_,rfl,bZ _,Blk.lt hg,λj x hx=>?_⟩⟩;have hB : Blk w g _ cur:=hg;rw [iS,hB.cell,cK]
  have h7 : (By l)[j]? = some (.int .u8 (x.toNat : Int)):=by simp [By,hx]
  rw [<-htk,iJ] at h7
  split at h7
  ·simpa using h7
  ·cases h7
theorem SL.part {w : World} {lo hi c : Nat} {A : Option Addr} {l : List UInt8} (h : SL w lo hi A l c) {k n : Nat} (hk : k <= l.length) : SL w lo hi (if c = k then A else A.map (·.add k)) ((l.drop k).take n) (c - k):=(h.cut hk).take n
section
variable {ops : Array Oper} {Rel : World -> World -> Prop} [hR : L4 Rel] {C0 : World -> Prop} {Q : Facts -> Act -> Prop} {N : Nat} {E : List (Nat × Value)} {Fa : Told} {o : Oper} {rest : List (Nat × Oper)} {i k : Nat}
theorem JX {f : FuncId} {xs : Array Operand} {ats : Array TypeId} (args : Array Value) (V : Value -> World -> Prop) (hg : o.guard = none) (hd : o.dst = some k) (hk : aQ k N = true) (hf : rS i Fa = true) (hp : ∀ v,IU Rel (V v)) (hown : Own f)
  (hc : ∀ w,C0 w -> Uses o Fa w -> Calls Tryz.prog f args w (λe w'=>∃ v,e = .returned v /\ V v w' /\ Below w.heap.size w w'))
  (ho : o.op = .call { callee:=.value (.func f),args:=xs,argTypes:=ats }) (hx : xs.toList.map (ev E) = args.toList.map some)
  (hn : ∀ v w,C0 w -> V v w -> gF Tryz.prog Rel ops C0 Q rest N ((k,v) :: E) ((i,V v) :: Fa)) : gF Tryz.prog Rel ops C0 Q ((i,o) :: rest) N E Fa :=
 Lw V hg hd hk hf (by rw [ho]; rfl) hp (λa ha w hw hu=>by
  rw [kD hown ho,oZ (ha.Im _ _ hx)]
  exact ⟨rfl,(hc w hw hu).mono λe w' ⟨v,h1,h2,h3⟩=>⟨v,h1,hR.below _ _ h3,h2⟩⟩) hn
theorem zK {ty : TypeId} (zs : Array Value) (base : Nat) (hg : o.guard = none) (hd : o.dst = some k) (hk : aQ k N = true) (hf : rS i Fa = true) (ho : o.op = .alloc ty) (hz : (Tryz.prog.info? ty).bind (λi=>i.zero.map (·.cells)) = some zs)
  (hb : ∀ w,C0 w -> base <= w.heap.size) (hp : ∀ g,IU Rel λw=>base <= g /\ Blk w g ty zs)
  (hn : ∀ g w,C0 w -> base <= g -> Blk w g ty zs -> gF Tryz.prog Rel ops C0 Q rest N ((k,.pointer (some ⟨g,0,none⟩)) :: E) ((i,λw=>base <= g /\ Blk w g ty zs) :: Fa)) : gF Tryz.prog Rel ops C0 Q ((i,o) :: rest) N E Fa :=
 Lw (λv w=>∃ g,v = .pointer (some ⟨g,0,none⟩) /\ base <= g /\ Blk w g ty zs) hg hd hk hf (by rw [ho]; rfl) (λv w w' ⟨g,e,h⟩ hr=>⟨g,e,hp g w w' h hr⟩) (λa _ w hw _=>by
  rw [dE ho hz a w]
  exact ⟨hR.below _ _ ((Below.refl w.heap.size w).alloc (aH _) _),w.heap.size,rfl,hb w hw,Blk.new w _ _⟩) (λv w hw ⟨g,e,h1,h2⟩=>by
  subst e
  intro a F ha hF
  refine hn g w hw h1 h2 a F ha λx hx w hw=>?_
  rcases b7.1 hx with rfl | hx
  ·obtain ⟨g',e,h⟩:=hF (i,λw=>∃ g',Value.pointer (some ⟨g,0,none⟩) = .pointer (some ⟨g',0,none⟩) /\ base <= g' /\ Blk w g' ty zs) cB w hw
   injection e with e
   injection e with e
   injection e with e
   subst e;exact h
  ·exact hF x (bL _ hx) w hw)
end
theorem tM : (Tryz.prog.info? 23).map (λi=>(i.zero,i.size,i.bytes)) = some (some (.slice none 0 0),1,24):=by kernel_rfl
theorem Jj (vs : List Value) (n : Nat) (parts : Array (Nat × Value)) (hp : parts.toList = (vs.zipIdx 0).map λx=>(x.2,x.1)) (hn : vs.length = n) (h0 : 0 < n) (h24 : n <= 16777216) (h1 : ∀ v ∈ vs,v.cells = #[v]) (w : World) :
  (nN 30 n parts).run Tryz.prog w = .ok (.slice (some ⟨w.heap.size,0,none⟩) n n) (w.alloc (.cells vs.toArray 23)):=by
 obtain ⟨ie,h2,h3,h4,_⟩:=info_parts tM;refine run_buildSlice w 30 23 n parts vs.toArray ie _ Tryz.underlying30 h2 h3 (by rw [h4]; omega) (by rw [h4]; omega) ?_;rw [hp,h4];exact Great.fill_flat _ _ h1 (by simp [hn])
def mI (w : World) : List Value -> List (List UInt8) -> Prop
  | [],[]=>True
  | v :: vs,l :: ls=>SB w v l /\ mI w vs ls
  | _,_=>False
theorem mI.len {w : World} : ∀ {vs : List Value} {ls : List (List UInt8)},mI w vs ls -> vs.length = ls.length
 | [],[],_=>rfl
 | _ :: _,_ :: _,h=>by rw [cC,cC,mI.len h.2]
 | [],_ :: _,h=>h.elim
 | _ :: _,[],h=>h.elim
theorem mI.get {w : World} : ∀ {vs : List Value} {ls : List (List UInt8)},mI w vs ls -> ∀ (i : Nat) l,ls[i]? = some l -> ∃ v,vs[i]? = some v /\ SB w v l
 | [],[],_,i,l,h=>by simp at h
 | v :: vs,l0 :: ls,h,0,l,hi=>by
  simp only [b6,bG] at hi;subst hi;exact ⟨v,rfl,h.1⟩
 | v :: vs,l0 :: ls,h,i + 1,l,hi=>by
  obtain ⟨u,h1,h2⟩:=mI.get h.2 i l (by simpa using hi);exact ⟨u,by simpa using h1,h2⟩
 | [],_ :: _,h,_,_,_=>h.elim
 | _ :: _,[],h,_,_,_=>h.elim
theorem mI.one {w : World} : ∀ {vs : List Value} {ls : List (List UInt8)},mI w vs ls -> ∀ v ∈ vs,v.cells = #[v] /\ v.oneCell' = true
 | [],_,_,v,hv=>by simp at hv
 | u :: vs,l :: ls,h,v,hv=>by
  rcases b7.1 hv with rfl | hv
  ·obtain ⟨A,c,rfl,_⟩:=h.1
   exact ⟨rfl,rfl⟩
  ·exact mI.one h.2 v hv
 | _ :: _,[],h,_,_=>h.elim
theorem mI.later {w w' : World} (hb : Below w.heap.size w w') : ∀ {vs : List Value} {ls : List (List UInt8)},mI w vs ls -> mI w' vs ls
 | [],[],_=>trivial
 | _ :: _,_ :: _,h=>⟨h.1.later hb,mI.later hb h.2⟩
 | [],_ :: _,h=>h.elim
 | _ :: _,[],h=>h.elim
structure zY (base : Nat) (vs : List Value) (ls : List (List UInt8)) (g : Nat) (w : World) : Prop where
  ge : base <= g
  blk : Blk w g 23 vs.toArray
  all : mI w vs ls
theorem zY.later {base g : Nat} {vs : List Value} {ls : List (List UInt8)} {w w' : World} (h : zY base vs ls g w) (hb : Below w.heap.size w w') : zY base vs ls g w':=⟨h.ge,h.blk.later hb,mI.later hb h.all⟩
theorem O5 {w : World} {g : Nat} {vs : List Value} {ls : List (List UInt8)} {cs : Array Value} {t : Nat} (hB : Blk w g t cs) (htk : ∀ (j : Nat) (v : Value),vs[j]? = some v -> cs[j]? = some v) (h : mI w vs ls) : PT w (some ⟨g,0,none⟩) ls:=λ_=>by
 refine ⟨_,rfl,hB.lt,λi l hi=>?_⟩;obtain ⟨v,h1,A,c,rfl,h3⟩:=h.get i l hi;refine ⟨A,c,?_,h3⟩;rw [iS,hB.cell,cK];exact htk i _ h1
theorem zY.pt {base g : Nat} {vs : List Value} {ls : List (List UInt8)} {w : World} (h : zY base vs ls g w) : PT w (some ⟨g,0,none⟩) ls:=O5 h.blk (λj v hj=>by simpa using hj) h.all
section
variable {ops : Array Oper} {C0 : World -> Prop} {Q : Facts -> Act -> Prop} {N : Nat} {E : List (Nat × Value)} {Fa : Told} {o : Oper} {rest : List (Nat × Oper)} {i k : Nat}
theorem vA {n : Nat} {parts : Array (Nat × Operand)} (vs : List Value) (ls : List (List UInt8)) (base : Nat) (hg : o.guard = none) (hd : o.dst = some k) (hk : aQ k N = true) (hf : rS i Fa = true) (ho : o.op = .buildSlice 30 n parts)
  (hv : parts.toList.map (λp=>(p.1,ev E p.2)) = (vs.zipIdx 0).map λx=>(x.2,some x.1)) (hn : vs.length = n) (h0 : 0 < n) (h24 : n <= 16777216) (hb : ∀ w,C0 w -> base <= w.heap.size) (h : ∀ w,C0 w -> Uses o Fa w -> mI w vs ls)
  (hk2 : ∀ g w,C0 w -> zY base vs ls g w -> gF Tryz.prog Bel ops C0 Q rest N ((k,.slice (some ⟨g,0,none⟩) n n) :: E) ((i,zY base vs ls g) :: Fa)) : gF Tryz.prog Bel ops C0 Q ((i,o) :: rest) N E Fa :=
 Lw (λv w=>∃ g,v = .slice (some ⟨g,0,none⟩) n n /\ zY base vs ls g w) hg hd hk hf (by rw [ho]; rfl) (λv w w' ⟨g,e,h⟩ hr=>⟨g,e,h.later hr⟩) (λa ha w hw hu=>by
  have hA:=h w hw hu
  have hm : ∀ (l : List (Nat × Operand)) (m : List (Value × Nat)),l.map (λp=>(p.1,ev E p.2)) = m.map (λx=>(x.2,some x.1)) -> l.map (λ(i,x)=>(i,a.eval x)) = m.map λx=>(x.2,x.1):=by
   intro l
   induction l with
   | nil=>intro m h; cases m with
    | nil=>rfl
    | cons=>cases h
   | cons p l ih=>intro m h; cases m with
    | nil=>cases h
    | cons u m =>
     simp only [cA,uI,F6] at h ⊢;exact ⟨⟨h.1.1,ha.eval h.1.2⟩,ih m h.2⟩
  have hr:=Jj vs n (parts.map λ(i,x)=>(i,a.eval x)) (by rw [Array.toList_map]; exact hm _ _ hv) hn h0 h24 (λv hv=>(hA.one v hv).1) w;have hal:=(Below.refl w.heap.size w).alloc (aH _) (.cells vs.toArray 23)
  unfold execOp
  simp only [ho,aJ,hr,aF,aK]
  exact ⟨hal,w.heap.size,rfl,hb w hw,Blk.new w _ _,mI.later hal hA⟩) (λv w hw ⟨g,e,h2⟩=>by
  subst e
  intro a F ha hF
  refine hk2 g w hw h2 a F ha λx hx w hw=>?_
  rcases b7.1 hx with rfl | hx
  ·obtain ⟨g',e,h⟩:=hF (i,λw=>∃ g',Value.slice (some ⟨g,0,none⟩) n n = .slice (some ⟨g',0,none⟩) n n /\ zY base vs ls g' w) cB w hw
   injection e with e
   injection e with e
   injection e with e
   subst e;exact h
  ·exact hF x (bL _ hx) w hw)
end
theorem mI.app {w : World} : ∀ {vs us : List Value} {ls ms : List (List UInt8)},mI w vs ls -> mI w us ms -> mI w (vs ++ us) (ls ++ ms)
 | [],_,[],_,_,h=>h
 | _ :: _,_,_ :: _,_,h,h'=>⟨h.1,mI.app h.2 h'⟩
 | [],_,_ :: _,_,h,_=>h.elim
 | _ :: _,_,[],_,h,_=>h.elim
theorem Lb {w : World} {ad : Addr} : ∀ (ls : List (List UInt8)) (o : Nat),(∀ (i : Nat) l,ls[i]? = some l -> ∃ v,w.cell? (ad.add (o + i)) = some v /\ SB w v l) -> ∃ vs,mI w vs ls /\ ∀ (j : Nat) u,vs[j]? = some u -> w.cell? (ad.add (o + j)) = some u
 | [],_,_=>⟨[],trivial,λj u h=>by simp at h⟩
 | l :: ls,o,h=>by
  obtain ⟨v,h1,h2⟩:=h 0 l rfl
  obtain ⟨vs,h3,h4⟩:=Lb ls (o + 1) λi l' hi=>by
   obtain ⟨v',h5,h6⟩:=h (i + 1) l' (by simpa using hi);exact ⟨v',by rw [show o + 1 + i = o + (i + 1) by omega]; exact h5,h6⟩
  refine ⟨v :: vs,⟨h2,h3⟩,λj u hj=>?_⟩
  cases j with
  | zero =>
   simp only [b6,bG] at hj;subst hj;exact h1
  | succ j =>
   have:=h4 j u (by simpa using hj)
   rwa [show o + 1 + j = o + (j + 1) by omega] at this
theorem GS.pt {w : World} {base c : Nat} {A : Option Addr} {vs : List Value} {ls : List (List UInt8)} (h : GS w base 23 A c vs) (hA : mI w vs ls) : PT w A ls /\ ls.length <= c /\ c <= 9223372036854775807:=by
 have hlen:=hA.len
 rcases h.2 with ⟨h1,h3⟩ | ⟨g,cap,cur,hv,_,hg,hn,hc,_,htk⟩
 ·injection h1 with h4 h5 h6
  subst h6;exact ⟨λh0=>absurd h0 (by omega),by omega,by omega⟩
 ·injection hv with h4 h5 h6
  subst h4 h6;refine ⟨O5 (cs:=cur) hg (λj v hj=>?_) hA,by omega,by unfold maxLen at hc; omega⟩;rw [<-htk,iJ] at hj
  split at hj
  ·simpa using hj
  ·cases hj
theorem zY.gs {base n g : Nat} {vs : List Value} {ls : List (List UInt8)} {w : World} (h : zY base vs ls g w) (hn : vs.length = n) (hm : n <= 9223372036854775807) : GS w base 23 (some ⟨g,0,none⟩) n vs:=by
 refine ⟨by simp,.inr ⟨g,n,vs.toArray,rfl,h.ge,h.blk,by omega,by unfold maxLen; omega,by simp [hn],by simp⟩⟩
section
variable {ops : Array Oper} {Q : Exit -> Act -> World -> Prop} {N : Nat} {E : List (Nat × Value)} {w : World} {o : Oper} {rest : List Oper} {k : Nat}
theorem V3 {s x : Operand} {base c d : Nat} {A X : Option Addr} {vs : List Value} {ls : List (List UInt8)} (hg : o.guard = none) (hd : o.dst = some k) (hk : aQ k N = true) (ho : o.op = .call { callee:=.builtin .append,args:=#[s,x],argTypes:=#[30,30] })
  (hs : ev E s = some (.slice A vs.length c)) (hx : ev E x = some (.slice X ls.length d)) (hown : GS w base 23 A c vs) {W0 : World} (hW : Up W0 w) (hP : PT W0 X ls) (h0 : X = none -> d = 0 /\ ls = []) (hb : (vs.length + ls.length) * 24 <= 140737488355328) (hbase : base <= w.heap.size)
  (hn : ∀ A' c' w' us,mI W0 us ls -> GS w' base 23 A' c' (vs ++ us) -> w.grownBy w' (A.map (·.block)) -> lF Tryz.prog ops Q rest N ((k,.slice A' (vs ++ us).length c') :: E) w') : lF Tryz.prog ops Q (o :: rest) N E w:=by
 cases X with
 | none =>
  obtain ⟨rfl,rfl⟩:=h0 rfl;obtain ⟨i,hi0,hz,hs0,hb⟩:=info_parts tM;have hr:=run_append_owned_none (P:=Tryz.prog) w base 30 o.type 23 i 1 Tryz.underlying30 hi0 _ vs.length vs hown;have h1:=hn A c w [] trivial (by rw [bV]; exact hown) (World.grownBy.refl _ _);rw [bV] at h1;refine nZ _ hg hd hk (λa ha=>?_) h1;have h2:=ha.eval hs;have h3:=ha.eval hx
  unfold execOp
  simp only [ho,resolve,invoke,builtin,aJ,aK,aF,dW,cA,gB,h2,h3,AR,hr]
 | some ad =>
  obtain ⟨us,h1,h2⟩:=Lb (w:=W0) (ad:=ad) ls 0 λi l hi=>by
   obtain ⟨ad',e,_,h3⟩:=hP (by have:=(dI.1 hi).1; omega)
   injection e with e
   subst e;obtain ⟨A',c',h4,h5⟩:=h3 i l hi;exact ⟨_,by rw [cK]; exact h4,A',c',rfl,h5⟩
  have hl:=h1.len
  refine CM (bytes:=24) (z:=.slice none 0 0) (news:=us) (base:=base) (e:=23) (xs:=vs) (A:=A) (c:=c) (ad:=ad) (m:=ls.length) (d:=d) hg hd hk ho hs hx Tryz.underlying30 tM rfl hown hl (λj u hj=>by
   have h5:=h2 j u hj;rw [cK] at h5
   exact (hW.cell (World.block_lt_of_cell? W0 _ h5)).trans h5) (λu hu=>(h1.one u hu).2) hb (by unfold maxLen; omega) hbase ?_
  intro A' c' w' h3 h4 _
  exact hn A' c' w' us h1 h3 h4
end
section
variable {ops : Array Oper} {Q : Exit -> Act -> World -> Prop} {N : Nat} {E : List (Nat × Value)} {w : World} {o : Oper} {rest : List Oper} {k : Nat}
theorem JS {d s : Operand} (g off n c t : Nat) (z l : List UInt8) (v : Value) (hgd : o.guard = none) (hdst : o.dst = some k) (hE : look E k = none) (ho : o.op = .call { callee:=.builtin .copy,args:=#[d,s],argTypes:=#[23,23] })
  (hd : ev E d = some (.slice (some ⟨g,off,none⟩) n c)) (hs : ev E s = some v) (hz : Blk w g t (By z).toArray) (hl : SB w v l) (h0 : 0 < l.length) (h1 : l.length <= n) (h2 : off + l.length <= z.length)
  (hn : Blk (w.setRow g (By (cop z off l)).toArray) g t (By (cop z off l)).toArray -> lF Tryz.prog ops Q rest N E (w.setRow g (By (cop z off l)).toArray)) : lF Tryz.prog ops Q (o :: rest) N E w:=λa ha=>by
 obtain ⟨A,c2,rfl,hS⟩:=hl;obtain ⟨ad,rfl,_,_,hc⟩:=hS.2.2.2 h0;refine wpList_copy_own hgd d s 23 23 ho 5 Tryz.underlying23 vV g off n c ad l.length c2 (ha.eval hd) (ha.eval hs) (By z).toArray t hz (By l) (by rw [cD]; exact (cW h1).symm) ?_ (by rw [cD,a9,cD]; exact h2) (kU l) ?_
 ·intro j u hu
  obtain ⟨x,hx,rfl⟩:=L8 hu;exact hc j x hx
 ·have e : (By z).toArray.toList.take off ++ (By l ++ (By z).toArray.toList.drop (off + (By l).length)) = By (cop z off l):=by
   simp [cop,By]
  rw [e,hdst];exact hn (hz.row _) _ (ha.Fc hE _)
end
structure mM (g : Nat) (t : TypeId) (c : Array Value) (w w' : World) : Prop where
  os : w'.os = w.os
  tape : w'.tape = w.tape
  output : w'.output = w.output
  size : w.heap.size <= w'.heap.size
  block : ∀ k,k < w.heap.size -> k ≠ g -> w'.heap[k]? = w.heap[k]?
  here : g < w.heap.size -> w'.heap[g]? = w.heap[g]? \/ Blk w' g t c
section
variable {g : Nat} {t : TypeId} {c : Array Value} {w w' w'' : World}
theorem mM.of (h : Below w.heap.size w w') : mM g t c w w':=⟨h.os,h.tape,h.output,h.size,λk hk _=>h.block k hk,λhk=>.inl (h.block g hk)⟩
instance : L4 (mM g t c):=⟨λ_ _=>mM.of⟩
theorem mM.trans (h : mM g t c w w') (k : mM g t c w' w'') : mM g t c w w'':=by
 refine ⟨k.os.trans h.os,k.tape.trans h.tape,k.output.trans h.output,j6 h.size k.size,λi hi hn=>(k.block i (bM hi h.size) hn).trans (h.block i hi hn),λhg=>?_⟩
 rcases k.here (bM hg h.size) with h1 | h1
 ·rcases h.here hg with h2 | h2
  ·exact .inl (h1.trans h2)
  ·exact .inr (h1.trans h2)
 ·exact .inr h1
theorem mM.far (h : mM g t c w w') {g' t' : Nat} {cs : Array Value} (hb : Blk w g' t' cs) (hn : g' ≠ g) : Blk w' g' t' cs:=(h.block g' hb.lt hn).trans hb
theorem mM.self (h : mM g t c w w') (hb : Blk w g t c) : Blk w' g t c:=by
 rcases h.here hb.lt with h1 | h1
 ·exact h1.trans hb
 ·exact h1
theorem mM.up {w0 : World} (h : mM g t c w w') (hU : Up w0 w) (hg : w0.heap.size <= g) : Up w0 w' :=
 hU.trans ⟨h.os,h.tape,h.output,h.size,λk hk=>h.block k (bM hk hU.size) (by omega)⟩
theorem mM.set {old : Array Value} (hb : Blk w g t old) : mM g t c w (w.setRow g c):=by
 have hs : (w.setRow g c).heap.size = w.heap.size:=by simp [dT]
 exact ⟨rfl,rfl,rfl,by rw [hs]; exact aH _,λk _ hn=>setRow_other w g k c hn,λ_=>.inr (hb.row c)⟩
end
section
variable {P : Program} {ops : Array Oper} {Rel : World -> World -> Prop} {C0 : World -> Prop} {Q : Facts -> Act -> Prop} {N : Nat} {E : List (Nat × Value)} {Fa : Told} {o : Oper} {rest : List (Nat × Oper)} {i : Nat}
theorem TK {ty t : TypeId} {p x : Operand} (g : Nat) (cells : Array Value) (hg : o.guard = none) (hd : o.dst = none) (hf : rS i Fa = true) (ho : o.op = .store ty p x) (hp : ev E p = some (.pointer (some ⟨g,0,none⟩))) (hx : ev E x = some (.agg cells))
  (hi : (P.info? ty).map (·.size) = some cells.size) (h1 : ∀ v ∈ cells.toList,v.oneCell' = true) (hb : ∀ w,C0 w -> ∃ old,Blk w g t old /\ old.size = cells.size /\ Rel w (w.setRow g cells)) (hP : IU Rel λw=>Blk w g t cells)
  (hn : gF P Rel ops C0 Q rest N E ((i,λw=>Blk w g t cells) :: Fa)) : gF P Rel ops C0 Q ((i,o) :: rest) N E Fa:=λa F ha hF=>by
 unfold wpG
 rw [if_pos (by simp [aN,hg])];refine ⟨λv w=>v = undef /\ Blk w g t cells,λv w w' h hr=>⟨h.1,hP w w' h.2 hr⟩,.inl ⟨undef,λu w h=>h.1⟩,λw hw _=>?_,λv w hw _ hV=>hn _ _ (by dsimp only; rw [hd]; exact ha) ?_⟩
 ·obtain ⟨old,h2,h3,h4⟩:=hb w hw
  have hst:=rQ (P:=P) w ty g cells old t h2 hi h3 h1
  dsimp only
  unfold execOp
  simp only [ho,ha.eval hp,ha.eval hx,aJ,hst,aF,aK];exact ⟨h4,rfl,h2.row _⟩
 ·intro x hx w hw
  rcases b7.1 hx with rfl | hx
  ·have h5 : (v = undef /\ Blk w g t cells):=by
    dsimp only at hw
    rwa [jH] at hw
   exact h5.2
  ·exact (hF.up hf) x hx w hw
end
section
variable {ops : Array Oper} {C0 : World -> Prop} {Q : Act -> Prop} {N : Nat} {E : List (Nat × Value)} {o : Oper} {rest : List Oper} {k : Nat}
theorem tJ {x : Operand} (g : Nat) (hg : o.guard = none) (hd : o.dst = some k) (hk : aQ k N = true) (ho : o.op = .slice 38 x none (some (.const (.int .i64 32))) none) (hx : ev E x = some (.pointer (some ⟨g,0,none⟩)))
  (hn : bF Tryz.prog ops C0 Q rest N ((k,.slice (some ⟨g,0,none⟩) 32 64) :: E)) : bF Tryz.prog ops C0 Q (o :: rest) N E :=
 dP _ hg hd hk (λa ha w _=>by
  have h1:=ha.eval hx
  unfold execOp
  simp only [ho,h1]
  go_simp) hn
theorem yC {x : Operand} (g : Nat) (hg : o.guard = none) (hd : o.dst = some k) (hk : aQ k N = true) (ho : o.op = .slice 38 x (some (.const (.int .i64 32))) none none) (hx : ev E x = some (.pointer (some ⟨g,0,none⟩)))
  (hn : bF Tryz.prog ops C0 Q rest N ((k,.slice (some ⟨g,32,none⟩) 32 32) :: E)) : bF Tryz.prog ops C0 Q (o :: rest) N E :=
 dP _ hg hd hk (λa ha w _=>by
  have h1:=ha.eval hx
  unfold execOp
  simp only [ho,h1]
  go_simp) hn
theorem J7 {x : Operand} (p : Option Addr) (c : Nat) (hg : o.guard = none) (hd : o.dst = some k) (hk : aQ k N = true) (ho : o.op = .sliceToArrayPointer 27 x) (hx : ev E x = some (.slice p 32 c))
  (hn : bF Tryz.prog ops C0 Q rest N ((k,.pointer p) :: E)) : bF Tryz.prog ops C0 Q (o :: rest) N E :=
 dP _ hg hd hk (λa ha w _=>by
  have h1:=ha.eval hx
  unfold execOp
  simp only [ho,h1];have hu:=run_underlying (P:=Tryz.prog) Tryz.underlying27 (w:=w);simp only [Instr.arrayAt,aJ,hu,aF]
  rfl) hn
end
theorem Tx (b i : Nat) (h : i < 64) (w : World) : (Instr.indexAt 38 (.pointer (some ⟨b,0,none⟩)) (.int .i64 (i : Int))).run Tryz.prog w = .ok (.pointer (some ⟨b,i,none⟩)) w:=by
 have h3 : (i : Int) < 64:=by omega
 have h4 : (0 : Int) <= i:=by omega
 go_simp
theorem yR {l : List UInt8} (h : l.length = 64) : (Tryz.prog.info? 38).map (·.size) = some (By l).toArray.size:=by
 rw [a9,cD,h]
 kernel_rfl
theorem BX : (Tryz.prog.info? 38).bind (λi=>i.zero.map (·.cells)) = some (By z64).toArray:=by kernel_rfl
theorem Dx {P : Program} {fn : Func} {p q : Tmp} {ty ty2 : TypeId} (h : fn.results = #[.cell p ty,.cell q ty2]) (tmps : Array Value) (w : World) (g g2 : Nat) (t t2 : TypeId) (cs cs2 : Array Value) (fr fr2 : Nat × Nat) (d d2 : TypeDesc)
  (hp : tmps.getD p undef = .pointer (some ⟨g,0,none⟩)) (hq : tmps.getD q undef = .pointer (some ⟨g2,0,none⟩)) (hg : w.heap[g]? = some (.cells cs t fr)) (hg2 : w.heap[g2]? = some (.cells cs2 t2 fr2))
  (hu : P.underlying ty = some d) (hd : (match d with | .struct _ | .array _ _=>true | _=>false) = true) (hi : (P.info? ty).map (·.size) = some cs.size)
  (hu2 : P.underlying ty2 = some d2) (hd2 : (match d2 with | .struct _ | .array _ _=>true | _=>false) = true) (hi2 : (P.info? ty2).map (·.size) = some cs2.size) :
  (results fn tmps).run P w = .ok (.tuple #[.agg cs,.agg cs2]) w:=by
 have hp' : tmps[p]?.getD undef = .pointer (some ⟨g,0,none⟩):=by simpa using hp
 have hq' : tmps[q]?.getD undef = .pointer (some ⟨g2,0,none⟩):=by simpa using hq
 simp [results,h,hp',hq',asAddr,run_loadVar_row w g t ty cs fr d hg hu hd hi,run_loadVar_row w g2 t2 ty2 cs2 fr2 d2 hg2 hu2 hd2 hi2]
theorem Ah {l : List UInt8} (h : l.length = 64) : (l.take 32).length = 32:=by rw [aY,h]; rfl
theorem Ka {l : List UInt8} (h : l.length = 64) : (l.drop 32).length = 32:=by rw [fW,h]
theorem Gs {l : List UInt8} (h : l.length = 64) : (l.drop 32).take 32 = l.drop 32:=bW (by rw [Ka h]; exact aH _)
theorem OU {w : World} {g t : Nat} {l : List UInt8} (h : Blk w g t (By l).toArray) (hl : l.length = 64) : w.rangeAt g 32 (By (l.drop 32)):=by
 have h1:=h.part 32 32
 have e : ((By l).drop 32).take 32 = By (l.drop 32):=by
  rw [By,By,<-List.map_drop,<-List.map_take,Gs hl]
 rwa [e] at h1
theorem OT {w : World} {g t : Nat} {l : List UInt8} (h : Blk w g t (By l).toArray) (_ : l.length = 64) : w.rangeAt g 0 (By (l.take 32)):=by
 have h1:=h.part 0 32
 have e : ((By l).drop 0).take 32 = By (l.take 32):=by
  rw [By,By,qX,<-List.map_take]
 rwa [e] at h1
section
variable {P : Program} {ops : Array Oper} {Rel : World -> World -> Prop} {C0 : World -> Prop} {Q : Facts -> Act -> Prop} {N : Nat} {E : List (Nat × Value)} {Fa : Told} {o : Oper} {rest : List (Nat × Oper)} {i k : Nat}
theorem Lx {j t : Nat} {b : Bool} (hgd : o.guard = some (j,b)) (hj : (ops[j]?).bind (·.dst) = some t) (hN : aQ t N = true) (ht : look E t = some (.bool b)) (h : gF P Rel ops C0 Q ((i,{ o with guard:=none }) :: rest) N E Fa) : gF P Rel ops C0 Q ((i,o) :: rest) N E Fa:=λa F ha hF=>by
 have h1:=h a F ha hF
 have htN : t < a.tmps.size:=by rw [ha.size]; simpa using hN
 have h2:=ha.get t _ ht
 have h3 : a.tmps[t]? = some (.bool b):=by
  simp only [AV,cN] at h2;rw [dM htN] at h2 ⊢
  simpa using h2
 have hw : aN o (yielded ops a.tmps) = true:=by
  unfold aN
  rw [hgd]
  simp [yielded,hj,h3]
 obtain ⟨dst,op,ty,pos,af,gd⟩:=o
 unfold wpG at h1 ⊢
 rw [if_pos hw];rw [if_pos (by rfl)] at h1;exact h1
theorem Qx {j t : Nat} {b : Bool} (hgd : o.guard = some (j,b)) (hj : (ops[j]?).bind (·.dst) = some t) (hN : aQ t N = true) (ht : look E t = some (.bool (!b))) (hd : o.dst = some k) (hk : aQ k N = true) (hf : rS i Fa = true) (h : gF P Rel ops C0 Q rest N ((k,undef) :: E) Fa) : gF P Rel ops C0 Q ((i,o) :: rest) N E Fa:=λa F ha hF=>by
 have htN : t < a.tmps.size:=by rw [ha.size]; simpa using hN
 have h2:=ha.get t _ ht
 have h3 : a.tmps[t]? = some (.bool (!b)):=by
  simp only [AV,cN] at h2;rw [dM htN] at h2 ⊢
  simpa using h2
 have hw : ¬ aN o (yielded ops a.tmps) = true:=by
  unfold aN
  rw [hgd]
  simp [yielded,hj,h3]
 unfold wpG
 rw [if_neg hw]
 dsimp only
 rw [hd];exact h _ _ (ha.put hk _) (hF.up hf)
end
section
variable {P : Program} {ops : Array Oper} {C0 : World -> Prop} {Q : Act -> Prop} {N : Nat} {E : List (Nat × Value)} {o : Oper} {rest : List Oper} {k : Nat}
theorem TT {c x y : Operand} (v : Value) (hg : o.guard = none) (hd : o.dst = some k) (hk : aQ k N = true) (ho : o.op = .pick c x y) (hc : ev E c = some (.bool false)) (hy : ev E y = some v) (hn : bF P ops C0 Q rest N ((k,v) :: E)) : bF P ops C0 Q (o :: rest) N E :=
 dP _ hg hd hk (λa ha w _=>by
  have h1:=ha.eval hc;have h2:=ha.eval hy
  unfold execOp
  simp only [ho,h1,h2]
  go_simp) hn
end
section
variable {ops : Array Oper} {C0 : World -> Prop} {Q : Act -> Prop} {N : Nat} {E : List (Nat × Value)} {o : Oper} {rest : List Oper} {k : Nat}
theorem XU {x y : Operand} {t : TypeId} (g off n c i : Nat) (hi : i < n) (ht : t = 79 \/ t = 78 \/ t = 23) (hg : o.guard = none) (hd : o.dst = some k) (hk : aQ k N = true) (ho : o.op = .indexAddr t x y)
  (hx : ev E x = some (.slice (some ⟨g,off,none⟩) n c)) (hy : ev E y = some (.int .i64 (i : Int))) (hn : bF Tryz.prog ops C0 Q rest N ((k,.pointer (some ⟨g,off + i,none⟩)) :: E)) : bF Tryz.prog ops C0 Q (o :: rest) N E :=
 dP _ hg hd hk (λa ha w _=>by
  have h1:=ha.eval hx;have h2:=ha.eval hy
  have h3 : (i : Int) < (n : Int):=by omega
  have h4 : (0 : Int) <= (i : Int):=by omega
  unfold execOp
  simp only [ho,h1,h2]
  rcases ht with rfl | rfl | rfl <;> go_simp) hn
end
section
variable {ops : Array Oper} {C0 : World -> Prop} {Q : Act -> Prop} {N : Nat} {E : List (Nat × Value)} {o : Oper} {rest : List Oper} {k : Nat}
theorem dK {x y : Operand} {t : TypeId} (g n c i : Nat) (hi : i < n) (ht : t = 79 \/ t = 78 \/ t = 23) (hg : o.guard = none) (hd : o.dst = some k) (hk : aQ k N = true) (ho : o.op = .indexAddr t x y)
  (hx : ev E x = some (.slice (some ⟨g,0,none⟩) n c)) (hy : ev E y = some (.int .i64 (i : Int))) (hn : bF Tryz.prog ops C0 Q rest N ((k,.pointer (some ⟨g,i,none⟩)) :: E)) : bF Tryz.prog ops C0 Q (o :: rest) N E :=
 XU g 0 n c i hi ht hg hd hk ho hx hy (by rw [cK]; exact hn)
end
theorem Jl (a b c d e f g h : Int) (w : World) :
  (nN 79 8 #[(0,.int .u64 a),(1,.int .u64 b),(2,.int .u64 c),(3,.int .u64 d),(4,.int .u64 e),(5,.int .u64 f),(6,.int .u64 g),(7,.int .u64 h)]).run Tryz.prog w =
   .ok (.slice (some ⟨w.heap.size,0,none⟩) 8 8) (w.alloc (.cells #[.int .u64 a,.int .u64 b,.int .u64 c,.int .u64 d,.int .u64 e,.int .u64 f,.int .u64 g,.int .u64 h] 48)):=by
 go_simp
section
variable {ops : Array Oper} {C0 : World -> Prop} {Q : Act -> Prop} {N : Nat} {E : List (Nat × Value)} {o : Oper} {rest : List Oper} {k : Nat}
theorem C3 {x : Operand} {t : TypeId} (p : Option Addr) (n c : Nat) (ht : t = 79 \/ t = 23) (hg : o.guard = none) (hd : o.dst = some k) (hk : aQ k N = true) (ho : o.op = .call { callee:=.builtin .len,args:=#[x],argTypes:=#[t] }) (hx : ev E x = some (.slice p n c))
  (hn : bF Tryz.prog ops C0 Q rest N ((k,.int .i64 (n : Int)) :: E)) : bF Tryz.prog ops C0 Q (o :: rest) N E :=
 dP _ hg hd hk (λa ha w _=>by
  have h1:=ha.eval hx
  unfold execOp
  simp only [ho,resolve,invoke,builtin,aJ,aK,aF,dW,cA,gB,h1]
  rcases ht with rfl | rfl <;> go_simp) hn
end
theorem Qb {ops : Array Oper} {Q : Exit -> Act -> World -> Prop} {N : Nat} {E : List (Nat × Value)} {w : World} {o : Oper} {rest : List Oper} {k : Nat} {x0 x1 x2 x3 x4 x5 x6 x7 : Operand} (a b c d e f g h : Nat) (hg : o.guard = none) (hd : o.dst = some k) (hk : aQ k N = true)
  (ho : o.op = .buildSlice 79 8 #[(0,x0),(1,x1),(2,x2),(3,x3),(4,x4),(5,x5),(6,x6),(7,x7)]) (e0 : ev E x0 = some (.int .u64 (a : Int))) (e1 : ev E x1 = some (.int .u64 (b : Int))) (e2 : ev E x2 = some (.int .u64 (c : Int))) (e3 : ev E x3 = some (.int .u64 (d : Int)))
  (e4 : ev E x4 = some (.int .u64 (e : Int))) (e5 : ev E x5 = some (.int .u64 (f : Int))) (e6 : ev E x6 = some (.int .u64 (g : Int))) (e7 : ev E x7 = some (.int .u64 (h : Int)))
  (hn : lF Tryz.prog ops Q rest N ((k,.slice (some ⟨w.heap.size,0,none⟩) 8 8) :: E) (w.alloc (.cells (Us [a,b,c,d,e,f,g,h]).toArray 48))) : lF Tryz.prog ops Q (o :: rest) N E w :=
 nZ _ hg hd hk (λac ha=>by
  have h0:=ha.eval e0;have h1:=ha.eval e1;have h2:=ha.eval e2;have h3:=ha.eval e3;have h4:=ha.eval e4;have h5:=ha.eval e5;have h6:=ha.eval e6;have h7:=ha.eval e7;have hr:=Jl (a : Int) b c d e f g h w
  unfold execOp
  simp only [ho,dW,cA,gB,h0,h1,h2,h3,h4,h5,h6,h7,aJ,hr,aF,aK]
  rfl) hn
theorem Jm (w : World) : (nN 79 0 #[]).run Tryz.prog w = .ok (.slice (some ⟨w.heap.size,0,none⟩) 0 0) (w.alloc (.cells #[] 48)):=by
 go_simp
theorem GI (w : World) : (nN 23 0 #[]).run Tryz.prog w = .ok (.slice (some ⟨w.heap.size,0,none⟩) 0 0) (w.alloc (.cells #[] 5)):=by
 go_simp
theorem GG (x : Int) (w : World) : (nN 23 1 #[(0,.int .u8 x)]).run Tryz.prog w = .ok (.slice (some ⟨w.heap.size,0,none⟩) 1 1) (w.alloc (.cells #[.int .u8 x] 5)):=by
 go_simp
section
variable {ops : Array Oper} {Q : Exit -> Act -> World -> Prop} {N : Nat} {E : List (Nat × Value)} {w : World} {o : Oper} {rest : List Oper} {k : Nat}
theorem Qc (hg : o.guard = none) (hd : o.dst = some k) (hk : aQ k N = true) (ho : o.op = .buildSlice 79 0 #[]) (hn : lF Tryz.prog ops Q rest N ((k,.slice (some ⟨w.heap.size,0,none⟩) 0 0) :: E) (w.alloc (.cells #[] 48))) : lF Tryz.prog ops Q (o :: rest) N E w :=
 nZ _ hg hd hk (λa _=>by
  have hr:=Jm w
  unfold execOp
  simp only [ho,dW,gB,aJ,hr,aF,aK]) hn
theorem Nb (hg : o.guard = none) (hd : o.dst = some k) (hk : aQ k N = true) (ho : o.op = .buildSlice 23 0 #[]) (hn : lF Tryz.prog ops Q rest N ((k,.slice (some ⟨w.heap.size,0,none⟩) 0 0) :: E) (w.alloc (.cells #[] 5))) : lF Tryz.prog ops Q (o :: rest) N E w :=
 nZ _ hg hd hk (λa _=>by
  have hr:=GI w
  unfold execOp
  simp only [ho,dW,gB,aJ,hr,aF,aK]) hn
theorem Av {x : Operand} (v : Int) (hg : o.guard = none) (hd : o.dst = some k) (hk : aQ k N = true) (ho : o.op = .buildSlice 23 1 #[(0,x)]) (hx : ev E x = some (.int .u8 v)) (hn : lF Tryz.prog ops Q rest N ((k,.slice (some ⟨w.heap.size,0,none⟩) 1 1) :: E) (w.alloc (.cells #[.int .u8 v] 5))) : lF Tryz.prog ops Q (o :: rest) N E w :=
 nZ _ hg hd hk (λa ha=>by
  have h1:=ha.eval hx;have hr:=GG v w
  unfold execOp
  simp only [ho,dW,cA,gB,h1,aJ,hr,aF,aK]) hn
end
section
variable {P : Program} {ops : Array Oper} {Q : Exit -> Act -> World -> Prop} {N : Nat} {E : List (Nat × Value)} {w : World} {o : Oper} {rest l : List Oper} {k : Nat}
def WG (ops : Array Oper) (N : Nat) (E : List (Nat × Value)) (o : Oper) : Prop:=o.guard = none \/ ∃ j b t,o.guard = some (j,b) /\ (ops[j]?).bind (·.dst) = some t /\ aQ t N = true /\ look E t = some (.bool b)
theorem WG.wanted {a : Act} (h : WG ops N E o) (ha : Fr N E a) : aN o (yielded ops a.tmps) = true:=by
 rcases h with h | ⟨j,b,t,hgd,hj,hN,ht⟩
 ·simp [aN,h]
 ·have htN : t < a.tmps.size:=by rw [ha.size]; simpa using hN
  have h2:=ha.get t _ ht
  have h3 : a.tmps[t]? = some (.bool b):=by
   simp only [AV,cN] at h2;rw [dM htN] at h2 ⊢
   simpa using h2
  unfold aN
  rw [hgd]
  simp [yielded,hj,h3]
theorem Qa (v : Value) (w' : World) (hw : WG ops N E o) (hd : o.dst = some k) (hk : aQ k N = true) (h : ∀ a,Fr N E a -> (execOp a.eval o).run P w = .ok (.value v) w') (hn : lF P ops Q rest N ((k,v) :: E) w') : lF P ops Q (o :: rest) N E w:=λa ha=>by
 have h1:=h a ha;have h2:=hn _ (ha.put hk v)
 unfold wpList
 rw [if_pos (hw.wanted ha)];refine .inl ?_
 unfold nC
 rw [h1];simp only [mJ,hd];exact h2
end
def YS (E : List (Nat × Value)) : Op -> Option Value
  | .move x=>ev E x
  | .assign x=>ev E x
  | .pick c x y=>match ev E c with
    | some (.bool true)=>ev E x
    | some (.bool false)=>ev E y
    | _=>none
  | .extract x i=>match ev E x with
    | some (.tuple vs)=>vs[i]?
    | _=>none
  | .unOp .not _ x=>match ev E x with
    | some (.bool true)=>some (.bool false)
    | some (.bool false)=>some (.bool true)
    | _=>none
  | .nilCheck x=>match ev E x with
    | some (.pointer (some p))=>some (.pointer (some p))
    | _=>none
  | _=>none
def N1 (ops : Array Oper) (N : Nat) (E : List (Nat × Value)) (o : Oper) : Option Bool :=
  match o.guard with
  | none=>some true
  | some (j,b)=>match (ops[j]?).bind (·.dst) with
    | some t=>match aQ t N with
      | true=>match look E t with
        | some (.bool true)=>some b
        | some (.bool false)=>some (!b)
        | _=>none
      | false=>none
    | none=>none
theorem N0 {ops : Array Oper} {N : Nat} {E : List (Nat × Value)} {a : Act} {o : Oper} {q : Bool} (ha : Fr N E a) (h : N1 ops N E o = some q) : aN o (yielded ops a.tmps) = q:=by
 unfold N1 at h
 split at h
 ·rename_i hg
  injection h with h
  subst h
  simp [aN,hg]
 ·rename_i j b hg
  split at h
  ·rename_i t hj
   split at h
   ·rename_i hN
    have htN : t < a.tmps.size:=by rw [ha.size]; simpa using hN
    have key : ∀ c,look E t = some (.bool c) -> a.tmps[t]? = some (.bool c):=λc hc=>by
     have h2:=ha.get t _ hc;simp only [AV,cN] at h2;rw [dM htN] at h2 ⊢
     simpa using h2
    split at h
    ·rename_i hc
     injection h with h
     subst h
     unfold aN
     rw [hg]
     simp [yielded,hj,key _ hc]
    ·rename_i hc
     injection h with h
     subst h
     unfold aN
     rw [hg]
     cases b <;> simp [yielded,hj,key _ hc]
    ·cases h
   ·cases h
  ·cases h
def xH (o : Oper) : Oper:={ o with guard:=none }
section
variable {P : Program} {ops : Array Oper} {Q : Exit -> Act -> World -> Prop}
theorem pM {T : List Oper} : ∀ (L : List Oper) (a : Act) (w : World),L.all (λo=>mE o.op) = true -> wpB P ops (· = w) (λa'=>wpList P ops Q T a' w) L a -> wpList P ops Q (L ++ T) a w
 | [],_,_,_,h=>h
 | o :: L,a,w,hs,h=>by
  rw [List.all_cons,aW] at hs
  have key : ∀ V : Value -> Prop,atB P o a w V -> (∀ v,V v -> wpList P ops Q (L ++ T) (a.put o.dst v) w) -> o.wp P a w (wpList P ops Q (L ++ T)) Q:=λV h3 hk=>by
   unfold atB at h3
   unfold nC
   have hst:=λn w'=>Cf (P:=P) (ρ:=a.eval) (o:=o) (w:=w) (w':=w') (n:=n) hs.1;generalize (execOp a.eval o).run P w = r at *
   cases r with
   | ok n w' =>
    cases n <;> simp only [pK] at h3 <;> simp only [mJ]
    case value u =>
     obtain ⟨e1,e2⟩:=h3;rw [e1];exact hk _ e2
    case skip =>
     obtain ⟨e1,e2⟩:=h3;rw [e1];exact hk _ e2
    case enter f args =>
     rcases hst _ _ rfl with ⟨v,hv⟩ | hv <;> cases hv
   | halt x w'=>simp only [pK] at h3
  rw [List.cons_append]
  unfold wpList
  unfold wpB at h
  split at h
  ·rename_i hw
   rw [if_pos hw];refine .inl ?_
   rcases h with ⟨v,h3,h4⟩ | ⟨_,V,h3,h4⟩
   ·exact key (· = v) (h3 w rfl) (λu hu=>by rw [hu]; exact pM L _ w hs.2 h4)
   ·exact key V (h3 w rfl) (λu hu=>pM L _ w hs.2 (h4 u hu))
  ·rename_i hw
   rw [if_neg hw];exact pM L _ w hs.2 h
variable {N : Nat} {E : List (Nat × Value)} {w : World} {l T : List Oper}
end
def pP : Code -> List Code
  | .loop c=>c :: pP c
  | .seq a b=>pP a ++ pP b
  | .block _ c=>pP c
  | .scope c=>pP c
  | .cond _ a b=>pP a ++ pP b
  | _=>[]
def Rw : Nat -> List Value -> List (Nat × Value)
  | _,[]=>[]
  | j,v :: vs=>(j,v) :: Rw (j + 1) vs
theorem EH : ∀ (vs : List Value) (j k : Nat) (v : Value),look (Rw j vs) k = some v -> j <= k /\ vs[k - j]? = some v
 | [],_,_,_,h=>by cases h
 | u :: vs,j,k,v,h=>by
  rw [Rw,fU] at h
  split at h
  ·rename_i e
   subst e
   cases h
   exact ⟨aH _,by simp⟩
  ·obtain ⟨h1,h2⟩:=EH vs (j + 1) k v h
   refine ⟨by omega,?_⟩;obtain ⟨m,rfl⟩ : ∃ m,k = j + 1 + m:=⟨k - (j + 1),by omega⟩;rw [show j + 1 + m - (j + 1) = m from by omega] at h2;rw [show j + 1 + m - j = m + 1 from by omega]
   simpa using h2
theorem fI {P : Program} {f : FuncId} {fn : Func} {c : Code} {vs : List Value} {w : World} {R : Ending -> World -> Prop} (N : Nat) (hf : P.funcs[f]? = some fn) (hb : fn.body = some c) (hn : vs.length + (fn.ntmps - vs.length) = N)
  (h : cF P c (bodyPost P fn R) N (Rw 0 vs) w) : Calls P f vs.toArray w R:=by
 refine calls_of_wp hf hb (h _ (Fr.start (by simpa using hn) _ λk v hk=>?_));have:=(EH vs 0 k v hk).2
 simpa using this
theorem Fr.at {N : Nat} {E : List (Nat × Value)} {a : Act} (h : Fr N E a) {k : Nat} {v : Value} (hk : look E k = some v) : a.tmps.getD k undef = v:=h.get k v hk
theorem eH {P : Program} {fn : Func} {R : Ending -> World -> Prop} {N : Nat} {E : List (Nat × Value)} {w : World} {q : Tmp} {ty t : TypeId} {d : TypeDesc} (g : Nat) (cs : Array Value) (hr : fn.results = #[.cell q ty]) (hq : look E q = some (.pointer (some ⟨g,0,none⟩))) (hb : Blk w g t cs)
  (hu : P.underlying ty = some d) (hd : (match d with | .struct _ | .array _ _=>true | _=>false) = true) (hi : (P.info? ty).map (·.size) = some cs.size) (h : R (.returned (.agg cs)) w) : kF (bodyPost P fn R .ret) N E w:=λ_ ha=>bodyPost_ret (results_cell_row hr _ _ g t cs (0,0) d (ha.at hq) hb hu hd hi) ha.defers h
section
variable {ops : Array Oper} {Q : Exit -> Act -> World -> Prop} {N : Nat} {E : List (Nat × Value)} {w : World} {o : Oper} {rest : List Oper} {k : Nat}
theorem TV {a : Act} (ha : Fr N E a) : ∀ (l : List Operand) (m : List Value),l.map (ev E) = m.map some -> l.map a.eval = m:=by
 intro l
 induction l with
 | nil=>intro m h; cases m with
  | nil=>rfl
  | cons=>cases h
 | cons y l ih=>intro m h; cases m with
  | nil=>cases h
  | cons u m =>
   simp only [cA,uI] at h ⊢;exact ⟨ha.eval h.1,ih m h.2⟩
theorem Qi {f : FuncId} {xs : Array Operand} {ats : Array TypeId} (args : Array Value) {R : Ending -> World -> Prop} (hg : o.guard = none) (hd : o.dst = some k) (hk : aQ k N = true)
  (hf : Own f) (hc : Calls Tryz.prog f args w R) (ho : o.op = .call { callee:=.value (.func f),args:=xs,argTypes:=ats }) (hx : xs.toList.map (ev E) = args.toList.map some)
  (hn : ∀ e w',R e w' -> ∃ v,e = .returned v /\ lF Tryz.prog ops Q rest N ((k,v) :: E) w') : lF Tryz.prog ops Q (o :: rest) N E w:=λa ha=>by
 have hr:=kD (a:=a) hf ho w;rw [oZ (TV ha _ _ hx)] at hr
 unfold wpList
 rw [if_pos (by simp [aN,hg])];refine .inl ?_
 unfold nC
 rw [hr];simp only [mJ,hd]
 exact hc.mono λe w' he=>by
  obtain ⟨v,rfl,h1⟩:=hn e w' he;exact h1 _ (ha.put hk v)
end
structure Chg (D : Nat -> Prop) (w w' : World) : Prop where
  os : w'.os = w.os
  tape : w'.tape = w.tape
  output : w'.output = w.output
  size : w.heap.size <= w'.heap.size
  block : ∀ k,k < w.heap.size -> ¬ D k -> w'.heap[k]? = w.heap[k]?
section
variable {D D' : Nat -> Prop} {w w' w'' : World}
theorem Chg.refl (D : Nat -> Prop) (w : World) : Chg D w w:=⟨rfl,rfl,rfl,aH _,λ_ _ _=>rfl⟩
theorem Chg.step (h : Chg D w w') (k : Chg D' w' w'') (hd : ∀ i,i < w.heap.size -> D' i -> D i) : Chg D w w'' :=
 ⟨k.os.trans h.os,k.tape.trans h.tape,k.output.trans h.output,j6 h.size k.size,λi hi hn=>(k.block i (bM hi h.size) (λh'=>hn (hd i hi h'))).trans (h.block i hi hn)⟩
theorem Chg.mono (h : Chg D w w') (hd : ∀ i,i < w.heap.size -> D i -> D' i) : Chg D' w w':=⟨h.os,h.tape,h.output,h.size,λi hi hn=>h.block i hi λh'=>hn (hd i hi h')⟩
theorem Chg.tV (h : Up w w') : Chg D w w':=⟨h.os,h.tape,h.output,h.size,λk hk _=>h.block k hk⟩
theorem Chg.up (h : Chg D w w') (hd : ∀ i,i < w.heap.size -> ¬ D i) : Up w w':=⟨h.os,h.tape,h.output,h.size,λk hk=>h.block k hk (hd k hk)⟩
theorem Chg.PI {r : Option Nat} (h : w.grownBy w' r) : Chg (λk=>r = some k) w w':=⟨h.os,h.tape,h.output,h.size,λk hk hn=>h.block k hk λe=>hn e.symm⟩
theorem Chg.row (w : World) (g : Nat) (cs : Array Value) : Chg (λk=>k = g) w (w.setRow g cs):=⟨rfl,rfl,rfl,by simp [dT],λk _ hn=>setRow_other w g k cs hn⟩
end
def Stb (D : Nat -> Prop) (p : World -> Prop) (w : World) : Prop:=∀ w',Chg D w w' -> p w'
section
variable {D D' : Nat -> Prop} {w w' : World} {p q : World -> Prop}
theorem Stb.now (h : Stb D p w) : p w:=h w (Chg.refl _ _)
theorem Stb.step (h : Stb D p w) (k : Chg D w w') : Stb D p w':=λw2 h2=>h w2 (k.step h2 λ_ _ h=>h)
theorem Stb.less (h : Stb D p w) (hd : ∀ k,k < w.heap.size -> D' k -> D k) : Stb D' p w:=λw2 h2=>h w2 (h2.mono hd)
theorem Stb.imp (h : Stb D p w) (hpq : ∀ w,p w -> q w) : Stb D q w:=λw2 h2=>hpq _ (h w2 h2)
theorem Stb.and (h : Stb D p w) (h' : Stb D q w) : Stb D (λw=>p w /\ q w) w:=λw2 h2=>⟨h w2 h2,h' w2 h2⟩
theorem Stb.G5 (h : Stb D p w) (k : Chg D w w') (hd : ∀ i,i < w.heap.size -> D' i -> D i) : Stb D' p w':=λw2 h2=>h w2 (k.step h2 hd)
end
class Pst (p : World -> Prop) : Prop where
  later : ∀ w w',p w -> Below w.heap.size w w' -> p w'
theorem Stb.JK {p : World -> Prop} [hp : Pst p] {D : Nat -> Prop} {w : World} (h : p w) (hd : ∀ k,k < w.heap.size -> ¬ D k) : Stb D p w:=λw' hw=>hp.later w w' h (hw.up hd)
inductive SC where
  | v (x : Value)
  | b (e : Bool)
  | o (x : Value)
def SC.den : SC -> Value
  | .v x=>x
  | .b e=>.bool e
  | .o x=>x
def SC.Ok : SC -> Prop
  | .v _=>True
  | .b _=>True
  | .o x=>x.oneCell' = true /\ x.cells = #[x]
inductive Pt where
  | one (s : SC)
  | agg (n : Nat) (cs : Array Value)
def Pt.cells : Pt -> Array Value
  | .one s=>#[s.den]
  | .agg _ cs=>cs
def Pt.size : Pt -> Nat
  | .one _=>1
  | .agg n _=>n
def Pt.Ok : Pt -> Prop
  | .one s=>s.Ok /\ s.den.oneCell' = true /\ s.den.cells = #[s.den]
  | .agg n cs=>cs.size = n /\ ∀ v ∈ cs.toList,v.oneCell' = true
theorem Pt.Ok.size {p : Pt} (h : p.Ok) : p.cells.size = p.size:=by
 cases p with
 | one v=>rfl
 | agg n cs=>exact h.1
theorem Pt.Ok.one {p : Pt} (h : p.Ok) : ∀ v ∈ p.cells.toList,v.oneCell' = true:=by
 cases p with
 | one v=>intro u hu; simp [Pt.cells] at hu; subst hu; exact h.2.1
 | agg n cs=>exact h.2
def eI : List Pt -> Array Value
  | []=>#[]
  | [p]=>p.cells
  | p :: q :: r=>p.cells ++ eI (q :: r)
def mW : List Pt -> Nat
  | []=>0
  | p :: r=>p.size + mW r
def OkP (ps : List Pt) : Prop:=∀ p ∈ ps,p.Ok
theorem gL (p : Pt) (r : List Pt) : eI (p :: r) = p.cells ++ eI r:=by
 cases r with
 | nil=>simp [eI]
 | cons q r=>rfl
theorem OkP.size : ∀ {ps : List Pt},OkP ps -> (eI ps).size = mW ps
 | [],_=>rfl
 | p :: r,h=>by rw [gL,Array.size_append,OkP.size (ps:=r) (λq hq=>h q (by simp [hq])),(h p (by simp)).size]; rfl
theorem OkP.one : ∀ {ps : List Pt},OkP ps -> ∀ v ∈ (eI ps).toList,v.oneCell' = true
 | [],_,v,hv=>by simp [eI] at hv
 | p :: r,h,v,hv=>by
  rw [gL,kV,List.mem_append] at hv
  rcases hv with hv | hv
  ·exact (h p (by simp)).one v hv
  ·exact OkP.one (ps:=r) (λq hq=>h q (by simp [hq])) v hv
def atP : List Pt -> Nat -> Option Pt
  | [],_=>none
  | p :: r,off=>match hH off 0 with
    | true=>some p
    | false=>match Nat.ble p.size off with
      | true=>atP r (off - p.size)
      | false=>none
def OD : List Pt -> Nat -> Pt -> Option (List Pt)
  | [],_,_=>none
  | p :: r,off,q=>match hH off 0 with
    | true=>match hH p.size q.size with
      | true=>some (q :: r)
      | false=>none
    | false=>match Nat.ble p.size off with
      | true=>(OD r (off - p.size) q).map (p :: ·)
      | false=>none
theorem Km : ∀ {ps : List Pt} {off : Nat} {p : Pt},OkP ps -> atP ps off = some p -> p.Ok /\ ∃ A Z,(eI ps).toList = A ++ (p.cells.toList ++ Z) /\ A.length = off
 | [],_,_,_,h=>by cases h
 | q :: r,off,p,hok,h=>by
  have hq:=hok q (by simp)
  unfold atP at h
  split at h
  ·rename_i e
   injection h with h
   subst h;exact ⟨hq,[],(eI r).toList,by rw [gL]; simp,by simpa using (bD e).symm⟩
  ·split at h
   ·rename_i e
    have e:=yL e;obtain ⟨h1,A,Z,h2,h3⟩:=Km (λx hx=>hok x (by simp [hx])) h;exact ⟨h1,q.cells.toList ++ A,Z,by rw [gL,kV,h2,aU],by rw [aI,h3,dL,hq.size]; omega⟩
   ·cases h
theorem KO : ∀ {ps ps' : List Pt} {off : Nat} {q : Pt},OkP ps -> q.Ok -> OD ps off q = some ps' -> OkP ps' /\ mW ps' = mW ps /\ ∃ A B Z,(eI ps).toList = A ++ (B ++ Z) /\ A.length = off /\ B.length = q.size /\ (eI ps').toList = A ++ (q.cells.toList ++ Z)
 | [],_,_,_,_,_,h=>by cases h
 | p :: r,ps',off,q,hok,hq,h=>by
  have hp:=hok p (by simp)
  unfold OD at h
  split at h
  ·rename_i e
   split at h
   ·rename_i e2
    injection h with h
    subst h;have e2:=bD e2;refine ⟨λx hx=>?_,by simp only [mW,e2],[],p.cells.toList,(eI r).toList,by rw [gL]; simp,by simpa using (bD e).symm,by rw [dL,hp.size,e2],by rw [gL]; simp⟩
    rcases b7.1 hx with rfl | hx
    ·exact hq
    ·exact hok x (by simp [hx])
   ·cases h
  ·split at h
   ·rename_i e
    have e:=yL e
    cases hs : OD r (off - p.size) q with
    | none=>rw [hs] at h; cases h
    | some r' =>
     rw [hs] at h;simp only [eZ,bG] at h;subst h;obtain ⟨h1,h2,A,B,Z,h3,h4,h5,h6⟩:=KO (λx hx=>hok x (by simp [hx])) hq hs;refine ⟨λx hx=>?_,by simp only [mW,h2],p.cells.toList ++ A,B,Z,by rw [gL,kV,h3,aU],by rw [aI,h4,dL,hp.size]; omega,h5,by rw [gL,kV,h6,aU]⟩
     rcases b7.1 hx with rfl | hx
     ·exact hp
     ·exact h1 x hx
   ·cases h
inductive SQ where
  | c (s : SC)
  | p (ps : List Pt)
def SQ.den : SQ -> Value
  | .c s=>s.den
  | .p ps=>.agg (eI ps)
def SQ.Ok : SQ -> Prop
  | .c s=>s.Ok
  | .p ps=>OkP ps
inductive SV where
  | q (x : SQ)
  | a (j off : Nat)
  | s (j off n c : Nat)
  | t (vs : List SQ)
@[match_pattern] abbrev SV.v (x : Value) : SV:=.q (.c (.v x))
@[match_pattern] abbrev SV.b (e : Bool) : SV:=.q (.c (.b e))
@[match_pattern] abbrev SV.o (x : Value) : SV:=.q (.c (.o x))
@[match_pattern] abbrev SV.p (ps : List Pt) : SV:=.q (.p ps)
def SV.den (G : Nat -> Nat) : SV -> Value
  | .q x=>x.den
  | .a j off=>.pointer (some ⟨G j,off,none⟩)
  | .s j off n c=>.slice (some ⟨G j,off,none⟩) n c
  | .t vs=>.tuple (vs.map SQ.den).toArray
def SV.Ok : SV -> Prop
  | .q x=>x.Ok
  | .a _ _=>True
  | .s _ _ _ _=>True
  | .t vs=>∀ x ∈ vs,x.Ok
def SV.TN (j : Nat) : SV -> Bool
  | .a i _=>!Nat.beq i j
  | .s i _ _ _=>!Nat.beq i j
  | _=>true
abbrev SE:=List (Nat × SV)
def iU : SE -> Nat -> Option SV
  | [],_=>none
  | (k,v) :: r,j=>match hH k j with
    | true=>some v
    | false=>iU r j
def fS (G : Nat -> Nat) : SE -> List (Nat × Value)
  | []=>[]
  | (k,v) :: r=>(k,v.den G) :: fS G r
theorem iK (G : Nat -> Nat) : ∀ (E : SE) (j : Nat),look (fS G E) j = (iU E j).map (SV.den G)
 | [],_=>rfl
 | (k,v) :: r,j=>by
  unfold fS look iU
  cases hH k j with
  | true=>rfl
  | false=>exact iK G r j
def OkE (E : SE) : Prop:=∀ x ∈ E,x.2.Ok
theorem Er : ∀ {E : SE} {j : Nat} {v : SV},iU E j = some v -> (j,v) ∈ E
 | [],_,_,h=>by cases h
 | (k,u) :: r,j,v,h=>by
  unfold iU at h
  split at h
  ·rename_i e
   obtain rfl:=bD e
   cases h
   exact cB
  ·exact bL _ (Er h)
theorem OkE.get {E : SE} (h : OkE E) {j : Nat} {v : SV} (hj : iU E j = some v) : v.Ok:=h _ (Er hj)
theorem OkE.cons {E : SE} (h : OkE E) {k : Nat} {v : SV} (hv : v.Ok) : OkE ((k,v) :: E):=λx hx=>by
 rcases b7.1 hx with rfl | hx
 ·exact hv
 ·exact h x hx
def evS (E : SE) : Operand -> Option SV
  | .tmp t=>iU E t
  | .const v=>some (.v v)
  | .global g=>some (.v (.pointer (some ⟨g,0,none⟩)))
  | .func f=>some (.v (.func (.func f) #[] #[]))
theorem cU {G : Nat -> Nat} {E : SE} {x : Operand} {v : SV} (h : evS E x = some v) : ev (fS G E) x = some (v.den G):=by
 cases x with
 | tmp t =>
  show look (fS G E) t = _
  rw [iK];rw [show iU E t = some v from h]
  rfl
 | const u=>cases h; rfl
 | global g=>cases h; rfl
 | func f=>cases h; rfl
theorem OkE.ev {E : SE} (h : OkE E) {x : Operand} {v : SV} (hx : evS E x = some v) : v.Ok:=by
 cases x with
 | tmp t=>exact h.get hx
 | const u=>cases hx; trivial
 | global g=>cases hx; trivial
 | func f=>cases hx; trivial
def C5 (E : SE) : List Operand -> Option (List SV)
  | []=>some []
  | x :: r=>match evS E x,C5 E r with
    | some v,some vs=>some (v :: vs)
    | _,_=>none
theorem BR {G : Nat -> Nat} {E : SE} : ∀ {xs : List Operand} {vs : List SV},C5 E xs = some vs -> xs.map (ev (fS G E)) = (vs.map (SV.den G)).map some
 | [],vs,h=>by cases h; rfl
 | x :: r,vs,h=>by
  unfold C5 at h
  split at h
  ·rename_i v us h1 h2
   injection h with h
   subst h;rw [cA,cU h1,BR h2]
   rfl
  ·cases h
structure LV where
  j : Nat
  g : Option Nat
  t : TypeId
  ps : List Pt
def tW : List LV -> Nat -> Option (List Pt)
  | [],_=>none
  | x :: r,j=>match hH x.j j with
    | true=>some x.ps
    | false=>tW r j
theorem mX : ∀ {L : List LV} {j : Nat} {ps : List Pt},tW L j = some ps -> ∃ x ∈ L,x.j = j /\ x.ps = ps
 | [],_,_,h=>by cases h
 | x :: r,j,ps,h=>by
  unfold tW at h
  split at h
  ·rename_i e
   injection h with h
   exact ⟨x,cB,bD e,h⟩
  ·obtain ⟨y,h1,h2⟩:=mX h
   exact ⟨y,bL _ h1,h2⟩
def y5 : List LV -> Nat -> List Pt -> List LV
  | [],_,_=>[]
  | x :: r,j,ps=>match hH x.j j with
    | true=>{ x with ps:=ps } :: r
    | false=>x :: y5 r j ps
def fF (L : List LV) : List Nat:=L.map (·.j)
theorem s9 : ∀ (L : List LV) (j : Nat) (ps : List Pt),fF (y5 L j ps) = fF L
 | [],_,_=>rfl
 | x :: r,j,ps=>by
  unfold y5
  split
  ·rfl
  ·exact congrArg (x.j :: ·) (s9 r j ps)
def AE (j : Nat) : List LV -> Bool
  | []=>true
  | x :: r=>!Nat.beq x.j j && AE j r
structure Res where
  holds : World -> (Nat -> Prop) -> Prop
  mF : ∀ {w w' : World} {S : Nat -> Prop},holds w S -> (∀ k,S k -> w'.heap[k]? = w.heap[k]?) -> holds w' S
  lt : ∀ {w : World} {S : Nat -> Prop},holds w S -> ∀ k,S k -> k < w.heap.size
def gU : List Res -> World -> (Nat -> Prop) -> Prop
  | [],_,S=>∀ k,¬ S k
  | r :: R,w,S=>∃ S1 S2,r.holds w S1 /\ gU R w S2 /\ (∀ k,S k ↔ S1 k \/ S2 k) /\ ∀ k,S1 k -> ¬ S2 k
theorem gU.mF : ∀ {R : List Res} {w w' : World} {S : Nat -> Prop},gU R w S -> (∀ k,S k -> w'.heap[k]? = w.heap[k]?) -> gU R w' S
 | [],_,_,_,h,_=>h
 | r :: _,_,_,_,⟨S1,S2,h1,h2,h3,h4⟩,hk=>⟨S1,S2,r.mF h1 λk hs=>hk k ((h3 k).2 (.inl hs)),h2.mF λk hs=>hk k ((h3 k).2 (.inr hs)),h3,h4⟩
theorem gU.lt : ∀ {R : List Res} {w : World} {S : Nat -> Prop},gU R w S -> ∀ k,S k -> k < w.heap.size
 | [],_,_,h,k,hs=>absurd hs (h k)
 | r :: _,_,_,⟨_,_,h1,h2,h3,_⟩,k,hs=>((h3 k).1 hs).elim (r.lt h1 k) (h2.lt k)
theorem gU.same {R : List Res} {w : World} {S S' : Nat -> Prop} (h : gU R w S) (e : ∀ k,S k ↔ S' k) : gU R w S':=by
 have : S = S':=funext λk=>propext (e k)
 rwa [<-this]
theorem gU.app : ∀ {R R' : List Res} {w : World} {S : Nat -> Prop},gU (R ++ R') w S ↔ ∃ S1 S2,gU R w S1 /\ gU R' w S2 /\ (∀ k,S k ↔ S1 k \/ S2 k) /\ ∀ k,S1 k -> ¬ S2 k
 | [],R',w,S=>⟨λh=>⟨λ_=>False,S,λ_ h=>h,h,λk=>⟨.inr,λh=>h.elim False.elim id⟩,λ_ h=>h.elim⟩,λ⟨S1,S2,h1,h2,h3,_⟩=>by
   show gU R' w S
   exact h2.same λk=>⟨λh=>(h3 k).2 (.inr h),λh=>((h3 k).1 h).resolve_left (h1 k)⟩⟩
 | r :: R,R',w,S=>by
  constructor
  ·rintro ⟨S1,S2,h1,h2,h3,h4⟩
   obtain ⟨S3,S4,h5,h6,h7,h8⟩:=gU.app.1 h2;refine ⟨λk=>S1 k \/ S3 k,S4,⟨S1,S3,h1,h5,λk=>wZ,λk hk h=>h4 k hk ((h7 k).2 (.inl h))⟩,h6,λk=>?_,λk hk h=>?_⟩
   ·rw [h3 k,h7 k,or_assoc]
   ·rcases hk with hk | hk
    ·exact h4 k hk ((h7 k).2 (.inr h))
    ·exact h8 k hk h
  ·rintro ⟨S0,S4,⟨S1,S3,h1,h5,h9,h10⟩,h6,h3,h8⟩
   refine ⟨S1,λk=>S3 k \/ S4 k,h1,gU.app.2 ⟨S3,S4,h5,h6,λk=>wZ,λk hk=>h8 k ((h9 k).2 (.inr hk))⟩,λk=>by rw [h3 k,h9 k,or_assoc],λk hk h=>?_⟩
   rcases h with h | h
   ·exact h10 k hk h
   ·exact h8 k ((h9 k).2 (.inl hk)) h
theorem gU.perm {R R' : List Res} (h : R.Perm R') : ∀ {w : World} {S : Nat -> Prop},gU R w S -> gU R' w S:=by
 induction h with
 | nil=>exact λh=>h
 | cons r _ ih =>
  rintro w S ⟨S1,S2,h1,h2,h3⟩
  exact ⟨S1,S2,h1,ih h2,h3⟩
 | swap r r' R =>
  rintro w S ⟨S1,S2,h1,⟨S3,S4,h3,h4,h5,h6⟩,h7,h8⟩
  refine ⟨S3,λk=>S1 k \/ S4 k,h3,⟨S1,S4,h1,h4,λ_=>wZ,λk hk hk'=>h8 k hk ((h5 k).2 (.inr hk'))⟩,λk=>?_,λk hk hk'=>?_⟩
  ·rw [h7 k,h5 k,<-or_assoc,<-or_assoc,or_comm (a:=S1 k)]
  ·rcases hk' with hk' | hk'
   ·exact h8 k hk' ((h5 k).2 (.inl hk))
   ·exact h6 k hk hk'
 | trans _ _ ih1 ih2=>exact λh=>ih2 (ih1 h)
theorem gU.at : ∀ {R : List Res} {i : Nat} {r : Res} {w : World} {S : Nat -> Prop},gU R w S -> R[i]? = some r -> ∃ S1 S2,r.holds w S1 /\ (∀ k,S k ↔ S1 k \/ S2 k) /\ (∀ k,S1 k -> ¬ S2 k) /\ gU (R.eraseIdx i) w S2 /\
  ∀ (r' : Res) (w' : World) (S' : Nat -> Prop),r'.holds w' S' -> (∀ k,S2 k -> w'.heap[k]? = w.heap[k]?) -> (∀ k,S' k -> ¬ S2 k) -> gU (R.set i r') w' λk=>S' k \/ S2 k
 | [],_,_,_,_,_,h=>by simp at h
 | r0 :: R,0,r,w,S,⟨S1,S2,h1,h2,h3,h4⟩,h=>by
  simp only [b6,bG] at h;subst h;exact ⟨S1,S2,h1,h3,h4,h2,λr' w' S' hr hk hd=>⟨S',S2,hr,h2.mF hk,λ_=>wZ,hd⟩⟩
 | r0 :: R,i + 1,r,w,S,⟨S0,S',h1,h2,h3,h4⟩,h=>by
  obtain ⟨S1,S2,h5,h6,h7,h8,h9⟩:=gU.at h2 (by simpa using h);refine ⟨S1,λk=>S0 k \/ S2 k,h5,λk=>?_,λk hk hk'=>?_,⟨S0,S2,h1,h8,λ_=>wZ,λk hk hk'=>h4 k hk ((h6 k).2 (.inr hk'))⟩,λr' w' S3 hr hk hd=>?_⟩
  ·rw [h3 k,h6 k,<-or_assoc,<-or_assoc,or_comm (a:=S0 k)]
  ·rcases hk' with hk' | hk'
   ·exact h4 k hk' ((h6 k).2 (.inl hk))
   ·exact h7 k hk hk'
  ·refine ⟨S0,λk=>S3 k \/ S2 k,r0.mF h1 λk hs=>hk k (.inl hs),h9 r' w' S3 hr (λk hs=>hk k (.inr hs)) (λk hs hs'=>hd k hs (.inr hs')),λk=>?_,λk hk0 hs=>?_⟩
   ·exact or_left_comm
   ·rcases hs with hs | hs
    ·exact hd k hs (.inl hk0)
    ·exact h4 k hk0 ((h6 k).2 (.inr hs))
structure Env where
  E : SE
  L : List LV
  R : List Res
  F : World -> Prop
  M : World -> Prop
def rW (S : Nat -> Prop) (G : Nat -> Nat) (L : List LV) (k : Nat) : Prop:=S k \/ ∃ j ∈ fF L,G j = k
def Dof (X S : Nat -> Prop) (G : Nat -> Nat) (L : List LV) (k : Nat) : Prop:=X k \/ rW S G L k
structure iI where
  X : Nat -> Prop
  B : World
  D : Nat -> Prop
def Nof (b : iI) (S : Nat -> Prop) (G : Nat -> Nat) (L : List LV) (k : Nat) : Prop:=k < b.B.heap.size \/ rW S G L k
structure StW (b : iI) (G : Nat -> Nat) (S : Nat -> Prop) (L : List LV) (R : List Res) (F M : World -> Prop) (w : World) : Prop where
  var : ∀ x ∈ L,Blk w (G x.j) x.t (eI x.ps) /\ OkP x.ps /\ ∀ g,x.g = some g -> G x.j = g
  apart : (fF L).Pairwise λi j=>G i ≠ G j
  res : gU R w S
  sep : ∀ j ∈ fF L,¬ S (G j)
  fact : Stb (Dof b.X S G L) F w
  fresh : Stb (Nof b S G L) M w
  chg : Chg b.D b.B w
  mine : ∀ k,rW S G L k -> k < b.B.heap.size -> b.D k
  old : ∀ k,b.X k -> k < b.B.heap.size /\ ¬ b.D k
structure StA (b : iI) (N : Nat) (e : Env) (G : Nat -> Nat) (S : Nat -> Prop) (a : Act) (w : World) : Prop where
  fr : Fr N (fS G e.E) a
  ok : OkE e.E
  st : StW b G S e.L e.R e.F e.M w
def St (b : iI) (N : Nat) (e : Env) (a : Act) (w : World) : Prop:=∃ G S,StA b N e G S a w
section
variable {b : iI} {G : Nat -> Nat} {S : Nat -> Prop} {L : List LV} {R : List Res} {F M : World -> Prop} {w w' : World}
theorem Dof.nof (h : ∀ k,b.X k -> k < b.B.heap.size /\ ¬ b.D k) {k : Nat} (hk : Dof b.X S G L k) : Nof b S G L k:=hk.imp (λhx=>(h k hx).1) id
theorem StW.lt (h : StW b G S L R F M w) : ∀ k,rW S G L k -> k < w.heap.size:=λk hk=>by
 rcases hk with hk | ⟨j,hj,rfl⟩
 ·exact h.res.lt k hk
 ·obtain ⟨x,hx,rfl⟩:=List.mem_map.1 hj
  exact (h.var x hx).1.lt
theorem StW.later (h : StW b G S L R F M w) (k : Below w.heap.size w w') : StW b G S L R F M w' :=
 ⟨λx hx=>⟨(h.var x hx).1.later k,(h.var x hx).2⟩,h.apart,h.res.mF λi hi=>k.block i (h.res.lt i hi),h.sep,h.fact.step (Chg.tV k),h.fresh.step (Chg.tV k),h.chg.step (D':=λ_=>False) (Chg.tV k) (λ_ _ h=>h.elim),h.mine,h.old⟩
theorem StW.all (h : StW b G S L R F M w) : Stb (Dof b.X S G L) (λw=>F w /\ M w) w:=h.fact.and (h.fresh.less λ_ _ hk=>hk.nof h.old)
theorem StW.imp (h : StW b G S L R F M w) {F' M' : World -> Prop} (hF : ∀ w,F w -> M w -> F' w) (hM : ∀ w,M w -> M' w) : StW b G S L R F' M' w:={ h with fact:=h.all.imp λw hw=>hF w hw.1 hw.2,fresh:=h.fresh.imp hM }
theorem StW.and (h : StW b G S L R F M w) {p : World -> Prop} (hp : Stb (Dof b.X S G L) p w) : StW b G S L R (λw=>p w /\ F w) M w:={ h with fact:=hp.and h.fact }
theorem StW.andM (h : StW b G S L R F M w) {p : World -> Prop} (hp : Stb (Nof b S G L) p w) : StW b G S L R F (λw=>p w /\ M w) w:={ h with fresh:=hp.and h.fresh }
end
structure TyR where
  t : TypeId
  kind : Nat
  zero : List Pt
  el : Option TypeId:=none
  ik : Option IntKind:=none
  pt : Bool:=false
  w : Nat:=8
def kindOf : TypeDesc -> Nat
  | .array _ _=>1
  | .struct _=>2
  | _=>0
def XX : TypeDesc -> Option TypeId
  | .slice e=>some e
  | _=>none
def XM : TypeDesc -> Option IntKind
  | .int k=>some k
  | _=>none
def Xp : TypeDesc -> Bool
  | .pointer _=>true
  | _=>false
def rowOf (P : Program) (t : TypeId) : Option (Nat × Option (Array Value) × Nat × Option (List (Nat × Nat)) × Option TypeId × Option IntKind × Bool × Nat) :=
  match P.info? t,P.underlying t with
  | some it,some d=>some (it.size,it.zero.map (·.cells),kindOf d,(match d with
    | .struct fs=>fs.toList.mapM λf=>(P.info? f.type).map λi=>(f.offset,i.size)
    | .array _ e=>(P.info? e).map λ_=>[]
    | _=>some []),XX d,XM d,Xp d,it.bytes)
  | _,_=>none
def kM : Nat -> List Pt -> List (Nat × Nat)
  | _,[]=>[]
  | o,p :: r=>(o,p.size) :: kM (o + p.size) r
def TyR.ok (P : Program) (r : TyR) : Prop:=rowOf P r.t = some (mW r.zero,some (eI r.zero),r.kind,some (match r.kind with | 2=>kM 0 r.zero | _=>[]),r.el,r.ik,r.pt,r.w) /\ OkP r.zero
def OkT (P : Program) (T : List TyR) : Prop:=∀ r ∈ T,r.ok P
def JT : Value -> Bool
  | .agg _=>false
  | .tuple _=>false
  | _=>true
theorem Eu {v : Value} (h : JT v = true) : v.oneCell' = true /\ v.cells = #[v]:=by
 cases v <;> first | exact ⟨rfl,rfl⟩ | cases h
def Xt (ps : List Pt) : Bool:=ps.all λp=>match p with
  | .one (.v v)=>JT v
  | .one _=>false
  | .agg n cs=>cs.size == n && cs.toList.all λv=>v.oneCell'
theorem Tg {ps : List Pt} (h : Xt ps = true) : OkP ps:=λp hp=>by
 have:=cL.1 h p hp
 cases p with
 | one s =>
  cases s with
  | v x=>exact ⟨trivial,Eu this⟩
  | b e=>cases this
  | o x=>cases this
 | agg n cs =>
  simp only [aW,beq_iff_eq,cL] at this;exact this
theorem VG {P : Program} {T : List TyR} (h : T.map (λr=>rowOf P r.t) = T.map λr=>some (mW r.zero,some (eI r.zero),r.kind,some (match r.kind with | 2=>kM 0 r.zero | _=>[]),r.el,r.ik,r.pt,r.w))
  (h2 : (T.all λr=>Xt r.zero) = true) : OkT P T:=λr hr=>by
 refine ⟨?_,Tg (cL.1 h2 r hr)⟩;obtain ⟨i,hi,rfl⟩:=List.getElem_of_mem hr;have h1:=congrArg (·[i]?) h
 simpa [hi] using h1
def o6 : List TyR -> TypeId -> Option TyR
  | [],_=>none
  | r :: T,t=>match hH r.t t with
    | true=>some r
    | false=>o6 T t
theorem iV {P : Program} : ∀ {T : List TyR} {t : TypeId} {r : TyR},OkT P T -> o6 T t = some r -> r.ok P /\ r.t = t
 | [],_,_,_,h=>by cases h
 | r0 :: T,t,r,hT,h=>by
  unfold o6 at h
  split at h
  ·rename_i e
   injection h with h
   subst h;exact ⟨hT _ cB,bD e⟩
  ·exact iV (λr hr=>hT r (bL _ hr)) h
section
variable {P : Program} {r : TyR}
theorem TyR.ok.info (h : r.ok P) : ∃ it d,P.info? r.t = some it /\ P.underlying r.t = some d /\ it.size = mW r.zero /\ it.zero.map (·.cells) = some (eI r.zero) /\ kindOf d = r.kind /\
  (match d with | .struct fs=>fs.toList.mapM λf=>(P.info? f.type).map λi=>(f.offset,i.size) | .array _ e=>(P.info? e).map λ_=>[] | _=>some []) = some (match r.kind with | 2=>kM 0 r.zero | _=>[]) /\ XX d = r.el /\ XM d = r.ik /\ Xp d = r.pt /\ it.bytes = r.w:=by
 have h1:=h.1
 unfold rowOf at h1
 split at h1
 ·rename_i it d h2 h3
  simp only [bG,F6] at h1;exact ⟨it,d,h2,h3,h1.1,h1.2.1,h1.2.2.1,h1.2.2.2.1,h1.2.2.2.2⟩
 ·cases h1
end
theorem Qk {d : TypeDesc} (h : kindOf d ≠ 0) : d.isRow = true:=by
 cases d <;> first | rfl | exact absurd rfl h
theorem Ql {d : TypeDesc} (h : kindOf d = 0) : d.isRow = false:=by
 cases d <;> first | rfl | cases h
def tX (T : List TyR) (ps : List Pt) (t : TypeId) (off : Nat) : Option SQ:=match o6 T t with
  | none=>none
  | some r=>match r.kind with
    | 0=>match atP ps off with
      | some (.one v)=>some (.c v)
      | _=>none
    | _ + 1=>match hH off 0,hH (mW ps) (mW r.zero) with
      | true,true=>some (.p ps)
      | _,_=>match atP ps off with
        | some (.agg n cs)=>match hH n (mW r.zero) with
          | true=>some (.p [.agg n cs])
          | false=>none
        | _=>none
theorem O0 {w : World} {g ty : Nat} {cs : Array Value} {A B Z : List Value} (hb : Blk w g ty cs) (h : cs.toList = A ++ (B ++ Z)) : w.rangeAt g A.length B:=λj v hj=>by
 rw [hb.cell]
 have h1 : cs.toList[A.length + j]? = some v:=by
  rw [h,iL (by omega),AQ,lM (dI.1 hj).1];exact hj
 simpa using h1
theorem Dw {P : Program} {w : World} {t : TypeId} {a : Addr} {v : Value} {d : TypeDesc} (hu : P.underlying t = some d) (hd : d.isRow = false) (hc : w.cell? a = some v) : (rM t (.pointer (some a))).run P w = .ok v w:=by
 have h1 : (isAgg t).run P w = .ok false w:=by
  unfold isAgg
  simp only [aJ,run_underlying hu,aF]
  cases d <;> first | rfl | cases hd
 simp only [rM,rL,loadVar,aJ,aK,aF,h1,Bool.false_eq_true,if_false]
 simp [load,Sem.run,hc]
theorem yT {P : Program} {w : World} {t : TypeId} {g off : Nat} {cs : Array Value} {d : TypeDesc} (hu : P.underlying t = some d) (hd : d.isRow = true) (hi : (P.info? t).map (·.size) = some cs.size) (hc : w.rangeAt g off cs.toList) :
  (rM t (.pointer (some ⟨g,off,none⟩))).run P w = .ok (.agg cs) w:=by
 have h1:=run_loadVar_mid w g off t cs.toList d hc hu hd (by simpa using hi);simp only [rM,rL,aJ,aK,aF,h1,jX]
theorem GV {w : World} {g base : Nat} {cs A B Z : List Value} (hb : w.rangeAt g base cs) (h : cs = A ++ (B ++ Z)) : w.rangeAt g (base + A.length) B:=λj v hj=>by
 rw [dO];refine hb (A.length + j) v ?_;rw [h,iL (by omega),AQ,lM (dI.1 hj).1];exact hj
theorem CK {P : Program} {T : List TyR} (hT : OkT P T) {ps : List Pt} {t : TypeId} {off : Nat} {q : SQ} (hok : OkP ps) (h : tX T ps t off = some q) :
  q.Ok /\ ∀ {w : World} {g base : Nat},w.rangeAt g base (eI ps).toList -> (rM t (.pointer (some ⟨g,base + off,none⟩))).run P w = .ok q.den w:=by
 unfold tX at h
 split at h
 ·cases h
 rename_i r hr
 have hro:=iV hT hr;clear hr;obtain ⟨hro,rfl⟩:=hro;obtain ⟨it,d,h1,h2,h3,h4,h5, -⟩:=hro.info
 split at h
 ·rename_i hk
  split at h
  ·rename_i v hv
   injection h with h
   subst h;obtain ⟨ho,A,Z,e,hA⟩:=Km hok hv;refine ⟨ho.1,λhb=>Dw h2 (Ql (by rw [h5,hk])) ?_⟩;have:=GV hb e 0 v.den rfl
   rwa [hA,fN] at this
  ·cases h
 ·rename_i hk
  have hd : d.isRow = true:=Qk (by rw [h5,hk]; omega)
  split at h
  ·rename_i e1 e2
   injection h with h
   subst h;obtain rfl:=bD e1;exact ⟨hok,λhb=>yT h2 hd (by rw [h1,eZ,h3,hok.size,bD e2]) hb⟩
  ·split at h
   ·rename_i n cs hv
    split at h
    ·rename_i e
     injection h with h
     subst h;obtain ⟨ho,A,Z,e3,hA⟩:=Km hok hv;refine ⟨λp hp=>by rw [List.mem_singleton.1 hp]; exact ho,λhb=>yT h2 hd (by rw [h1,eZ,h3]; exact congrArg some ((bD e).symm.trans ho.1.symm)) ?_⟩;have:=GV hb e3
     rwa [hA] at this
    ·cases h
   ·cases h
theorem zG {P : Program} {T : List TyR} (hT : OkT P T) {ps : List Pt} {t : TypeId} {off : Nat} {q : SQ} (hok : OkP ps) (h : tX T ps t off = some q) :
  q.Ok /\ ∀ {w : World} {g ty : Nat},Blk w g ty (eI ps) -> (rM t (.pointer (some ⟨g,off,none⟩))).run P w = .ok q.den w:=by
 obtain ⟨h1,h2⟩:=CK hT hok h;refine ⟨h1,λ{w g ty} hb=>?_⟩;have h3 : w.rangeAt g 0 (eI ps).toList:=O0 (A:=[]) (Z:=[]) hb (by simp);have:=h2 h3
 rwa [cK] at this
def We : SC -> Bool
  | .v x=>JT x
  | _=>true
theorem LA {s : SC} (hs : s.Ok) (h : We s = true) : s.den.oneCell' = true /\ s.den.cells = #[s.den]:=by
 cases s with
 | v x=>exact Eu h
 | b e=>exact ⟨rfl,rfl⟩
 | o x=>exact hs
def QH (n : Nat) : SQ -> Option Pt
  | .c s=>match hH n 1,We s with
    | true,true=>some (.one s)
    | _,_=>none
  | .p ps=>match hH (mW ps) n with
    | true=>match ps with
      | [.agg m cs]=>some (.agg m cs)
      | _=>some (.agg n (eI ps))
    | false=>none
theorem Lz {n : Nat} {q : SQ} {p : Pt} (hq : q.Ok) (h : QH n q = some p) : p.Ok /\ p.size = n /\ q.den.cells = p.cells:=by
 cases q with
 | c s =>
  simp only [QH] at h
  split at h
  ·rename_i e1 e2
   injection h with h
   subst h;obtain ⟨h1,h2⟩:=LA hq e2;exact ⟨⟨hq,h1,h2⟩,(bD e1).symm,h2⟩
  ·cases h
 | p ps =>
  simp only [QH] at h
  split at h
  ·rename_i e
   have e:=bD e
   split at h
   ·rename_i m cs
    injection h with h
    subst h;exact ⟨hq _ cB,e,rfl⟩
   ·injection h with h
    subst h;exact ⟨⟨(OkP.size hq).trans e,OkP.one hq⟩,rfl,rfl⟩
  ·cases h
def SQ.parts : SQ -> Option (List Pt)
  | .p ps=>some ps
  | _=>none
theorem SQ.oY {q : SQ} {ps : List Pt} (h : q.parts = some ps) : q = .p ps:=by
 cases q with
 | c x=>cases h
 | p qs=>cases h; rfl
def ET (T : List TyR) (ps : List Pt) (t : TypeId) (off : Nat) (q : SQ) : Option (List Pt):=match o6 T t with
  | none=>none
  | some r=>match hH off 0,hH (mW ps) (mW r.zero),q.parts with
    | true,true,some qs=>match hH (mW qs) (mW r.zero) with
      | true=>some qs
      | false=>none
    | _,_,_=>match QH (mW r.zero) q with
      | some p=>OD ps off p
      | none=>none
theorem qJ {P : Program} {w : World} {t : TypeId} {g off ty : Nat} {v : Value} {cs : Array Value} (hb : Blk w g ty cs) (hi : (P.info? t).map (·.size) = some v.cells.size) (hfit : off + v.cells.size <= cs.size) (h1 : ∀ u ∈ v.cells.toList,u.oneCell' = true) :
  (Dr t (.pointer (some ⟨g,off,none⟩)) v).run P w = .ok () (w.setRow g (cs.toList.take off ++ v.cells.toList ++ cs.toList.drop (off + v.cells.size)).toArray):=by
 have hst:=run_storeCells_at P g off ty v.cells.toList 0 cs w hb (by simp; omega) h1;simp only [fN,dL] at hst
 cases hq : P.info? t with
 | none=>simp [hq] at hi
 | some i =>
  have hs : i.size = v.cells.size:=by simpa [hq] using hi
  simp [Dr,rL,storeVar,sizeOf,typeInfo,hq,hs,aJ,hst]
theorem DY {P : Program} {T : List TyR} (hT : OkT P T) {ps ps' : List Pt} {t : TypeId} {off : Nat} {q : SQ} (hok : OkP ps) (hq : q.Ok) (h : ET T ps t off q = some ps') :
  OkP ps' /\ ∀ {w : World} {g ty : Nat},Blk w g ty (eI ps) -> (Dr t (.pointer (some ⟨g,off,none⟩)) q.den).run P w = .ok () (w.setRow g (eI ps')):=by
 unfold ET at h
 split at h
 ·cases h
 rename_i r hr
 have hro:=iV hT hr;clear hr;obtain ⟨hro,rfl⟩:=hro;obtain ⟨it,d,h1,h2,h3,h4,h5, -⟩:=hro.info
 split at h
 ·rename_i qs e1 e2 eq
  obtain rfl:=SQ.oY eq
  split at h
  ·rename_i e3
   injection h with h
   subst h;obtain rfl:=bD e1;have e2:=bD e2;have e3:=bD e3
   have hsz : (eI qs).size = (eI ps).size:=by rw [OkP.size hq,hok.size,e2,e3]
   refine ⟨hq,λhb=>?_⟩;have hr:=qJ (P:=P) (t:=r.t) (v:=.agg (eI qs)) (off:=0) hb (by rw [h1,eZ,h3]; exact congrArg some ((OkP.size hq).trans e3).symm) (by rw [cK]; exact Nat.le_of_eq hsz) (OkP.one hq);simp only [Value.cells,List.take_zero,List.nil_append,cK] at hr;rw [List.drop_eq_nil_of_le (by rw [dL]; omega),bV,jX] at hr;exact hr
  ·cases h
 ·split at h
  ·rename_i p hp
   obtain ⟨hp1,hp2,hp3⟩:=Lz hq hp;obtain ⟨h6,h7,A,B,Z,h8,h9,h10,h11⟩:=KO hok hp1 h;refine ⟨h6,λhb=>?_⟩
   have hsz : q.den.cells.size = B.length:=by rw [hp3,hp1.size,h10]
   have hcl : (eI ps).size = A.length + (B.length + Z.length):=by
    rw [<-dL,h8,aI,aI]
   have hr:=qJ (P:=P) (t:=r.t) (v:=q.den) (off:=off) hb (by rw [h1,eZ,h3,hp3,hp1.size,hp2]) (by omega) (by rw [hp3]; exact hp1.one);rw [hr]
   congr 1
   rw [<-jX (xs:=eI ps'),h11,h8,hsz,<-h9,hp3]
   congr 2
   rw [List.take_left,aU,<-aU A B Z,<-aI,List.drop_left]
  ·cases h
def JZ (T : List TyR) (t : TypeId) (i : Nat) : Option Nat:=match o6 T t with
  | none=>none
  | some r=>match hH r.kind 2 with
    | true=>match (kM 0 r.zero)[i]? with
      | some (o,n)=>match Nat.ble 1 n with
        | true=>some o
        | false=>none
      | none=>none
    | false=>none
theorem Hu {α β : Type} {f : α -> Option β} : ∀ {l : List α} {m : List β},l.mapM f = some m -> ∀ (i : Nat) b,m[i]? = some b -> ∃ a,l[i]? = some a /\ f a = some b
 | [],m,h,i,b,hb=>by
  have : m = []:=by simpa using h.symm
  subst this
  simp at hb
 | x :: l,m,h,i,b,hb=>by
  rw [List.mapM_cons] at h
  cases hx : f x with
  | none=>rw [hx] at h; cases h
  | some y =>
   rw [hx] at h
   cases hm : l.mapM f with
   | none=>rw [hm] at h; cases h
   | some ys =>
    rw [hm] at h;have e : m = y :: ys:=(fV h).symm;subst e
    cases i with
    | zero =>
     simp only [b6,bG] at hb;exact ⟨x,rfl,by rw [hx,hb]⟩
    | succ i =>
     obtain ⟨a,h1,h2⟩:=Hu hm i b (by simpa using hb);exact ⟨a,by simpa using h1,h2⟩
theorem EA {P : Program} {T : List TyR} (hT : OkT P T) {t : TypeId} {i o : Nat} (h : JZ T t i = some o) (g off : Nat) (w : World) :
  (kA t (.pointer (some ⟨g,off,none⟩)) i).run P w = .ok (.pointer (some ⟨g,off + o,none⟩)) w:=by
 unfold JZ at h
 split at h
 ·cases h
 rename_i r hr
 have hro:=iV hT hr;clear hr;obtain ⟨hro,rfl⟩:=hro;obtain ⟨it,d,h1,h2,h3,h4,h5,h6, -⟩:=hro.info
 split at h
 ·rename_i hk
  have hk:=bD hk
  split at h
  ·rename_i o' n hp
   split at h
   ·rename_i hn
    injection h with h
    subst h;have hn:=yL hn
    have hd : kindOf d = 2:=by rw [h5,hk]
    cases d <;> first | (cases hd; done) | skip
    rename_i fs
    rw [hk] at h6
    dsimp only at h6
    obtain ⟨f,h7,h8⟩:=Hu h6 i (o',n) hp
    cases hf : P.info? f.type with
    | none=>rw [hf] at h8; cases h8
    | some fi =>
     rw [hf] at h8;simp only [eZ,bG,F6] at h8
     have h9 : fs[i]? = some f:=by simpa using h7
     have h10 : ¬ fi.size = 0:=by omega
     simp only [kA,aJ,run_underlying h2,aF,h9,rL,aK,fieldPlace,sizeOf,typeInfo]
     simp [hf,h10,iS,h8.1]
   ·cases h
  ·cases h
 ·cases h
theorem C1 (place : Nat -> Option (Nat × Nat)) (i n : Nat) (A O Z V : List Value) (rest : List (Nat × Value)) (v : Value) (hp : place i = some (A.length,n)) (hV : V.length = n) (hO : O.length = n) (hv : v.cells = V.toArray) :
  gN place (A ++ (O ++ Z)).toArray ((i,v) :: rest) = gN place (A ++ (V ++ Z)).toArray rest:=by
 have:=lV place i n A O Z V rest hp hV hO;rw [<-this,gN,gN,hv]
 rfl
def FR (E : SE) : List Pt -> List (Nat × Operand) -> Option (List Pt)
  | zs,[]=>some zs
  | zs,(i,x) :: r=>match zs[i]?,evS E x with
    | some z,some (.q q)=>match QH z.size q with
      | some p=>FR E (zs.set i p) r
      | none=>none
    | _,_=>none
theorem ID : ∀ {zs : List Pt} {i : Nat} {z p : Pt},zs[i]? = some z -> ∃ A Z : List Value,(eI zs).toList = A ++ (z.cells.toList ++ Z) /\ (eI (zs.set i p)).toList = A ++ (p.cells.toList ++ Z) /\ ∀ o,OkP zs -> (kM o zs)[i]? = some (o + A.length,z.size)
 | [],i,z,p,h=>by simp at h
 | y :: zs,0,z,p,h=>by
  simp only [b6,bG] at h;subst h;refine ⟨[],(eI zs).toList,by rw [gL]; simp,by rw [aB,gL]; simp,λo _=>by simp [kM]⟩
 | y :: zs,i + 1,z,p,h=>by
  obtain ⟨A,Z,h1,h2,h3⟩:=ID (zs:=zs) (i:=i) (p:=p) (by simpa using h);refine ⟨y.cells.toList ++ A,Z,by rw [gL,kV,h1,aU],by rw [aC,gL,kV,h2,aU],λo hok=>?_⟩;have h4:=h3 (o + y.size) λx hx=>hok x (by simp [hx]);rw [aI,dL,(hok y (by simp)).size,<-dO]
  simpa [kM] using h4
theorem Tf {zs : List Pt} {i : Nat} {p : Pt} (h : OkP zs) (hp : p.Ok) : OkP (zs.set i p):=λx hx=>by
 rcases List.mem_or_eq_of_mem_set hx with h1 | rfl
 ·exact h x h1
 ·exact hp
theorem Cp : ∀ {zs : List Pt} {i : Nat} {z p : Pt} (o : Nat),zs[i]? = some z -> p.size = z.size -> kM o (zs.set i p) = kM o zs
 | [],i,z,p,o,h,_=>by simp at h
 | y :: zs,0,z,p,o,h,e=>by
  simp only [b6,bG] at h;subst h;simp only [aB,kM,e]
 | y :: zs,i + 1,z,p,o,h,e=>by
  simp only [aC,kM];rw [Cp (z:=z) _ (by simpa using h) e]
theorem LC {G : Nat -> Nat} {E : SE} (hE : OkE E) {places : List (Nat × Nat)} : ∀ {parts : List (Nat × Operand)} {zs ps : List Pt},OkP zs -> kM 0 zs = places -> FR E zs parts = some ps ->
  ∀ (f : Operand -> Value),(∀ x v,evS E x = some v -> f x = v.den G) -> OkP ps /\ gN (places.toArray[·]?) (eI zs) (parts.map λ(i,x)=>(i,f x)) = some (eI ps)
 | [],zs,ps,hz,_,h,f,_=>by
  cases h
  exact ⟨hz,rfl⟩
 | (i,x) :: r,zs,ps,hz,hpl,h,f,hf=>by
  unfold FR at h
  split at h
  ·rename_i z q hi hx
   split at h
   ·rename_i p hp
    have hq : q.Ok:=hE.ev hx;obtain ⟨h1,h2,h3⟩:=Lz hq hp;obtain ⟨A,Z,h4,h5,h6⟩:=ID (p:=p) hi;have h7:=h6 0 hz;rw [hpl,cK] at h7;have hzo:=hz z (List.mem_of_getElem? hi);obtain ⟨h8,h9⟩:=LC hE (parts:=r) (Tf hz h1) ((Cp 0 hi h2).trans hpl) h f hf;refine ⟨h8,?_⟩;rw [<-h9];have hv : f x = q.den:=hf x _ hx;rw [cA,<-jX (xs:=eI zs),h4];have:=C1 (λk=>places.toArray[k]?) i p.size A z.cells.toList Z p.cells.toList (r.map λ(i,x)=>(i,f x)) (f x) (by simpa [h2] using h7) (by rw [dL,h1.size]) (by rw [dL,hzo.size,h2]) (by rw [hv,h3,jX]);rw [this,<-h5,jX]
   ·cases h
  ·cases h
end Go.Proofs.YtfkchihlchlfdaaGreatDoor
