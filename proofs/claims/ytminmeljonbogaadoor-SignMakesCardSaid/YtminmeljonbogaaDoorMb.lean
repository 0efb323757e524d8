/-
  SEVERAL TEXTS IN ONE: Opens, RegG, Pick, Fr, Curve, Root.
-/
import Derived.Test.YtminmeljonbogaaDoorMa
import Derived.Deep.Slices
/-
  FROM A WALK TO A LAW'S ROW: slices of bytes and arrays of 64 bytes, opened.
-/
namespace Go.Proofs.YtminmeljonbogaaDoor
open Go.RowKit Go.IntWalk
open Go.ChangeShapes Go.WideShapes Go.ChangeAt

theorem open_bytes {H : Type} {enc : TypeId × Value → H} {W : World} {held : Bool} {fuel : Nat} {cs : List Value} {x : DataW H × List MemPlace} (h : DataW.trod enc Tryd.prog W 0 (fun _=>true) held fuel 23 cs = some x) :
  ∃ (A : Option Addr) (l : List UInt8) (c : Nat),cs = [.slice A l.length c] ∧ SL W 0 W.heap.size A l c:=by
 rcases open_ints Tryd.underlying23 Tryd.underlying5 cells8 h with ⟨rfl,rfl⟩ | ⟨a,len,cap,zs,rfl,_,hl,hm,hz,rfl,hcell,hwz⟩
 ·exact ⟨none,[],0,rfl,SL.nil _ _ _⟩
 ·have hz' : zs.length = cap:=hz
  have hlen : ((zs.take len).map fun z=>UInt8.ofNat z.toNat).length = len:=by simp; omega
  refine ⟨some a,(zs.take len).map fun z=>UInt8.ofNat z.toNat,cap,by rw [hlen],by rw [hlen]; exact hl,by unfold maxLen at hm; omega,fun h=>(by cases h),fun hpos=>⟨a,rfl,Nat.zero_le _,?_,fun j x hx=>?_⟩⟩
  ·have h0 : 0 < zs.length:=by rw [hlen] at hpos; omega
   have:=World.block_lt_of_cell? W _ (hcell 0 h0)
   rwa [block_add] at this
  ·simp only [List.getElem?_map,List.getElem?_take,Option.map_eq_some_iff] at hx
   obtain ⟨z,hz,rfl⟩:=hx
   split at hz
   ·have hj:=(List.getElem?_eq_some_iff.1 hz).1
    have hb:=range_u8 hwz j
    have hg : zs.getD j 0 = z:=by simp [List.getD,hz]
    rw [hz] at hb;simp only [Option.getD_some] at hb;rw [hcell j hj,hg]
    have e : (UInt8.ofNat z.toNat).toNat = z.toNat:=by
     simp
     omega
    rw [e,Int.toNat_of_nonneg hb.1]
   ·cases hz

end Go.Proofs.YtminmeljonbogaaDoor
/-
  REGIONS THAT DRAW THEIR ORDER, AND MAKE MEMORY: each operation may leave new memory and a fact about it that later worlds keep; who has an edge to it may use the fact. The walk goes in the text's order; whatever order is drawn, it holds.
-/
namespace Go.Proofs.YtminmeljonbogaaDoor
open Go.RowKit Go.IntWalk

def stillG : Op → Bool
  | .buildSlice .. | .makeSlice .. | .sliceToArrayPointer .. | .makeFunc ..=>true
  | o=>plainB o
def multiG : Op → Bool
  | .alloc _ | .box ..=>true
  | o=>!plainB o

section
variable {P : Program}
theorem still_ok {ρ : Operand → Value} {o : Oper} (hp : stillG o.op = true) {w w' : World} {n : Next} (h : (execOp ρ o).run P w = .ok n w') : (∃ v,n = .value v) ∨ n = .skip:=by
 by_cases hb : plainB o.op = true
 ·exact plain_ok hb h
 obtain ⟨dst,op,ty,pos,af,gd⟩:=o
 cases op <;> first
  | (exfalso; exact hb hp)
  | exact .inl (run_v h)
end

class RelOk (Rel : World → World → Prop) : Prop where
  below : ∀ w w',Below w.heap.size w w' → Rel w w'
def Bel (w w' : World) : Prop:=Below w.heap.size w w'
instance : RelOk Bel:=⟨fun _ _ h=>h⟩
def uponG (P : Program) (Rel : World → World → Prop) (w : World) (V : Value → World → Prop) : Result Next → Prop
  | .ok (.value u) w'=>Rel w w' ∧ V u w'
  | .ok .skip w'=>Rel w w' ∧ V undef w'
  | .ok (.enter f args) w'=>w' = w ∧ Calls P f args w (fun e w''=>∃ v,e = .returned v ∧ Rel w w'' ∧ V v w'')
  | _=>False
def Pers (Rel : World → World → Prop) (p : World → Prop) : Prop:=∀ w w',p w → Rel w w' → p w'
abbrev Facts:=Nat → World → Prop
def upF (F : Facts) (k : Nat) (p : World → Prop) : Facts:=fun j=>if j = k then p else F j
theorem upF_same (F : Facts) (k : Nat) (p : World → Prop) : upF F k p k = p:=if_pos rfl
theorem upF_ne {F : Facts} {k j : Nat} {p : World → Prop} (h : j ≠ k) : upF F k p j = F j:=if_neg h

def stepG (P : Program) (Rel : World → World → Prop) (C0 : World → Prop) (F : Facts) (o : Oper) (a : Act) (next : (World → Prop) → Act → Prop) : Prop :=
  ∃ V : Value → World → Prop,(∀ v,Pers Rel (V v)) ∧ ((∃ v,∀ u w,V u w → u = v) ∨ multiG o.op = true) ∧
    (∀ w,C0 w → (∀ e ∈ o.after,Region.binds .any e = true → F e.on w) → uponG P Rel w V ((execOp a.eval o).run P w)) ∧
    ∀ v w,C0 w → (∀ k,F k w) → V v w → next (V v) (a.put o.dst v)
def wpG (P : Program) (Rel : World → World → Prop) (ops : Array Oper) (C0 : World → Prop) (Q : Facts → Act → Prop) : List (Nat × Oper) → Facts → Act → Prop
  | [],F,a=>Q F a
  | x :: l,F,a=>if Region.wanted x.2 (yielded ops a.tmps) then stepG P Rel C0 F x.2 a (fun p a'=>wpG P Rel ops C0 Q l (upF F x.1 p) a') else wpG P Rel ops C0 Q l (upF F x.1 fun _=>True) (a.put x.2.dst undef)

section
variable {P : Program} {Rel : World → World → Prop} {ops : Array Oper} {C0 : World → Prop} {Q : Facts → Act → Prop}
theorem wpG_mono (hQ : ∀ F F' a,(∀ k w,F' k w → F k w) → Q F a → Q F' a) : ∀ (l : List (Nat × Oper)) (F F' : Facts) (a : Act),(∀ k w,F' k w → F k w) → wpG P Rel ops C0 Q l F a → wpG P Rel ops C0 Q l F' a
 | [],F,F',a,h,hh=>hQ F F' a h hh
 | x :: l,F,F',a,h,hh=>by
  have hup : ∀ p,∀ k w,upF F' x.1 p k w → upF F x.1 p k w:=fun p k w h'=>by
   by_cases e : k = x.1
   ·subst e
    rwa [upF_same] at h' ⊢
   ·rw [upF_ne e] at h' ⊢
    exact h k w h'
  unfold wpG at hh ⊢
  split
  ·rename_i hw
   rw [if_pos hw] at hh;obtain ⟨V,h1,h2,h3,h4⟩:=hh;exact ⟨V,h1,h2,fun w hw he=>h3 w hw fun e hm hb=>h _ _ (he e hm hb),fun v w hw hF hV=>wpG_mono hQ l _ _ _ (hup _) (h4 v w hw (fun k=>h k w (hF k)) hV)⟩
  ·rename_i hw
   rw [if_neg hw] at hh;exact wpG_mono hQ l _ _ _ (hup _) hh

structure GoodF (Rel : World → World → Prop) (C0 : World → Prop) (F : Facts) (w : World) : Prop where
  pers : ∀ k,Pers Rel (F k)
  cls : C0 w
  all : ∀ k,F k w
theorem GoodF.up {F : Facts} {w w' : World} {k : Nat} {p : World → Prop} (h : GoodF Rel C0 F w) (hp : Pers Rel p) (hC : C0 w') (hF : ∀ k,F k w') (hpw : p w') : GoodF Rel C0 (upF F k p) w':=by
 refine ⟨fun j=>?_,hC,fun j=>?_⟩
 ·by_cases e : j = k
  ·subst e
   rw [upF_same];exact hp
  ·rw [upF_ne e]
   exact h.pers j
 ·by_cases e : j = k
  ·subst e
   rw [upF_same];exact hpw
  ·rw [upF_ne e]
   exact hF j
def Unl (l : List (Nat × Oper)) (F : Facts) : Prop:=∀ x ∈ l,∀ w,F x.1 w
theorem Unl.up {l : List (Nat × Oper)} {F : Facts} {k : Nat} {p : World → Prop} (h : Unl l F) (hk : k ∉ l.map (·.1)) : Unl l (upF F k p):=fun x hx w=>by
 have e : x.1 ≠ k:=fun e=>hk (List.mem_map.2 ⟨x,hx,e⟩);rw [upF_ne e];exact h x hx w

theorem uponG.any {w : World} {V : Value → World → Prop} {r : Result Next} (h : uponG P Rel w V r) : ∃ v w',Rel w w' ∧ V v w':=by
 cases r with
 | ok n w' =>
  cases n <;> simp only [uponG] at h
  case value u=>exact ⟨u,w',h⟩
  case skip=>exact ⟨_,w',h⟩
  case enter f args =>
   obtain ⟨e,w1,fr,⟨v,_,h1,h2⟩,_⟩:=h.2 [];exact ⟨v,w1,h1,h2⟩
 | halt x w'=>simp only [uponG] at h

theorem wpG_cons {x : Nat × Oper} {l l' : List (Nat × Oper)} {F : Facts} {a : Act} {w0 : World} (hG : GoodF Rel C0 F w0) (hU : Unl l F) (hx : x.1 ∉ l.map (·.1))
  (h : ∀ F a w,GoodF Rel C0 F w → Unl l F → wpG P Rel ops C0 Q l F a → wpG P Rel ops C0 Q l' F a) (hh : wpG P Rel ops C0 Q (x :: l) F a) : wpG P Rel ops C0 Q (x :: l') F a:=by
 unfold wpG at hh ⊢
 split
 ·rename_i hw
  rw [if_pos hw] at hh;obtain ⟨V,h1,h2,h3,h4⟩:=hh;exact ⟨V,h1,h2,h3,fun v w hw hF hV=>h _ _ w (hG.up (h1 v) hw hF hV) (hU.up hx) (h4 v w hw hF hV)⟩
 ·rename_i hw
  rw [if_neg hw] at hh;exact h _ _ w0 (hG.up (fun _ _ _ _=>trivial) hG.cls hG.all trivial) (hU.up hx) hh

structure PairG (ops : Array Oper) (x y : Nat × Oper) : Prop where
  ne : x.1 ≠ y.1
  apart : x.2.apart ops y.2 = true
  noY : ∀ e ∈ y.2.after,Region.binds .any e = true → e.on ≠ x.1
  noX : ∀ e ∈ x.2.after,Region.binds .any e = true → e.on ≠ y.1
  kind : stillG y.2.op = true ∨ multiG x.2.op = false
  selX : ∀ cs b,x.2.op ≠ .select cs b
  selY : ∀ cs b,y.2.op ≠ .select cs b

theorem swapG (hcl : ∀ w w',C0 w → Rel w w' → C0 w') (hQ : ∀ F F' a,(∀ k w,F' k w → F k w) → Q F a → Q F' a) {x y : Nat × Oper} {l : List (Nat × Oper)} {F : Facts} {a : Act} {w0 : World} (hp : PairG ops x y) (hG : GoodF Rel C0 F w0) (hj : ∀ w,F y.1 w)
  (h : wpG P Rel ops C0 Q (x :: y :: l) F a) : wpG P Rel ops C0 Q (y :: x :: l) F a:=by
 obtain ⟨i,oi⟩:=x;obtain ⟨j,oj⟩:=y;obtain ⟨hne,hap,hed,hed2,hkd,hsi,hsj⟩:=hp;obtain ⟨h1,h2,h3⟩:=Oper.apart_spec hap
 dsimp only at *
 have hwj : ∀ v,Region.wanted oj (yielded ops (a.put oi.dst v).tmps) = Region.wanted oj (yielded ops a.tmps):=fun v=>wanted_put oj a oi.dst v h1;have hwi : ∀ v,Region.wanted oi (yielded ops (a.put oj.dst v).tmps) = Region.wanted oi (yielded ops a.tmps):=fun v=>wanted_put oi a oj.dst v h3;have hcomm : ∀ v u,(a.put oi.dst v).put oj.dst u = (a.put oj.dst u).put oi.dst v:=fun v u=>Act.put_comm a v u h2
 have hupc : ∀ (p q : World → Prop),upF (upF F i p) j q = upF (upF F j q) i p:=fun p q=>by
  funext k
  by_cases e : k = i
  ·subst e
   rw [upF_same,upF_ne hne,upF_same]
  ·by_cases e2 : k = j
   ·subst e2
    rw [upF_same,upF_ne e,upF_same]
   ·rw [upF_ne e2,upF_ne e,upF_ne e,upF_ne e2]
 by_cases wi : Region.wanted oi (yielded ops a.tmps) = true
 ·unfold wpG at h
  rw [if_pos wi] at h;obtain ⟨Vx,pX,kX,yX,nX⟩:=h
  by_cases wj : Region.wanted oj (yielded ops a.tmps) = true
  ·obtain ⟨v0,w1,hb1,hV1⟩:=(yX w0 hG.cls (fun e _ _=>hG.all e.on)).any
   have hC1:=hcl _ _ hG.cls hb1;have hF1 : ∀ k,F k w1:=fun k=>hG.pers k _ _ (hG.all k) hb1
   have key : ∀ v,(∃ w,C0 w ∧ (∀ k,F k w) ∧ Vx v w) → stepG P Rel C0 (upF F i (Vx v)) oj (a.put oi.dst v) (fun p a'=>wpG P Rel ops C0 Q l (upF (upF F i (Vx v)) j p) a'):=by
    rintro v ⟨w,hw,hF,hV⟩
    have h5:=nX v w hw hF hV
    unfold wpG at h5
    rwa [hwj,if_pos wj] at h5
   have key' : ∀ v,∃ V : Value → World → Prop,(∃ w,C0 w ∧ (∀ k,F k w) ∧ Vx v w) → (∀ v,Pers Rel (V v)) ∧ ((∃ v,∀ u w,V u w → u = v) ∨ multiG oj.op = true) ∧
     (∀ w,C0 w → (∀ e ∈ oj.after,Region.binds .any e = true → upF F i (Vx v) e.on w) → uponG P Rel w V ((execOp (a.put oi.dst v).eval oj).run P w)) ∧
     ∀ u w,C0 w → (∀ k,upF F i (Vx v) k w) → V u w → wpG P Rel ops C0 Q l (upF (upF F i (Vx v)) j (V u)) ((a.put oi.dst v).put oj.dst u):=fun v=>by
    by_cases hv : ∃ w,C0 w ∧ (∀ k,F k w) ∧ Vx v w
    ·obtain ⟨V,hV⟩:=key v hv
     exact ⟨V,fun _=>hV⟩
    ·exact ⟨fun _ _=>True,fun h=>absurd h hv⟩
   clear key;obtain ⟨Vy,hy⟩:=Classical.axiomOfChoice key';clear key';have hv0 : ∃ w,C0 w ∧ (∀ k,F k w) ∧ Vx v0 w:=⟨w1,hC1,hF1,hV1⟩
   unfold wpG
   rw [if_pos wj];refine ⟨fun u w=>∀ v,(∃ w,C0 w ∧ (∀ k,F k w) ∧ Vx v w) → Vy v u w,fun u w w' h hb v hv=>(hy v hv).1 u w w' (h v hv) hb,?_,?_,?_⟩
   ·rcases (hy v0 hv0).2.1 with ⟨u0,hu⟩ | hm
    ·exact .inl ⟨u0,fun u w h=>hu u w (h v0 hv0)⟩
    ·exact .inr hm
   ·intro w hw hpre
    have hr : ∀ v,(∃ w,C0 w ∧ (∀ k,F k w) ∧ Vx v w) → uponG P Rel w (Vy v) ((execOp a.eval oj).run P w):=fun v hv=>by
     have h5:=(hy v hv).2.2.1 w hw (fun e he hb=>by rw [upF_ne (hed e he hb)]; exact hpre e he hb)
     rwa [execOp_put oj hsj a oi.dst v h1] at h5
    have hst:=fun n w'=>still_ok (P:=P) (ρ:=a.eval) (o:=oj) (w:=w) (w':=w') (n:=n);generalize (execOp a.eval oj).run P w = r at *
    cases r with
    | ok n w' =>
     cases n
     case value u=>exact ⟨(hr v0 hv0).1,fun v hv=>(hr v hv).2⟩
     case skip=>exact ⟨(hr v0 hv0).1,fun v hv=>(hr v hv).2⟩
     case enter f args =>
      rcases hkd with hkd | hkd
      ·rcases hst _ _ hkd rfl with ⟨v,hv⟩ | hv <;> cases hv
      ·rcases kX with ⟨vv,hvv⟩ | hm
       ·obtain ⟨e1,hc⟩:=hr v0 hv0
        refine ⟨e1,hc.mono fun e w'' ⟨u,he,hb,hV⟩=>⟨u,he,hb,fun v hv=>?_⟩⟩;obtain ⟨w3,_,_,hv3⟩:=hv;have e2 : v = v0:=(hvv _ _ hv3).trans (hvv _ _ hV1).symm;rw [e2];exact hV
       ·rw [hkd] at hm
        cases hm
     all_goals exact absurd (hr v0 hv0) (by simp [uponG])
    | halt x w'=>exact absurd (hr v0 hv0) (by simp [uponG])
   ·intro u w hw hF hVu
    unfold wpG
    rw [hwi,if_pos wi];refine ⟨Vx,pX,kX,?_,?_⟩
    ·intro w2 hw2 hpre
     rw [execOp_put oi hsi a oj.dst u h3];exact yX w2 hw2 (fun e he hb=>by have h5:=hpre e he hb; rwa [upF_ne (hed2 e he hb)] at h5)
    ·intro v w2 hw2 hF2 hV2
     have hFw2 : ∀ k,F k w2:=fun k=>by
      by_cases e : k = j
      ·subst e
       exact hj w2
      ·have h5:=hF2 k
       rwa [upF_ne e] at h5
     have hv : ∃ w,C0 w ∧ (∀ k,F k w) ∧ Vx v w:=⟨w2,hw2,hFw2,hV2⟩
     have hVy : Vy v u w2:=by
      have h5:=hF2 j;rw [upF_same] at h5;exact h5 v hv
     have h6:=(hy v hv).2.2.2 u w2 hw2 (fun k=>by
      by_cases e : k = i
      ·subst e
       rw [upF_same];exact hV2
      ·rw [upF_ne e]
       exact hFw2 k) hVy
     rw [hcomm,hupc] at h6;refine wpG_mono hQ l _ _ _ (fun k w h7=>?_) h6
     by_cases e : k = i
     ·subst e
      rwa [upF_same] at h7 ⊢
     ·rw [upF_ne e] at h7 ⊢
      by_cases e2 : k = j
      ·subst e2
       rw [upF_same] at h7 ⊢;exact h7 v hv
      ·rwa [upF_ne e2] at h7 ⊢
  ·unfold wpG
   rw [if_neg wj]
   unfold wpG
   rw [hwi,if_pos wi];refine ⟨Vx,pX,kX,?_,?_⟩
   ·intro w2 hw2 hpre
    rw [execOp_put oi hsi a oj.dst undef h3];exact yX w2 hw2 (fun e he hb=>by have h5:=hpre e he hb; rwa [upF_ne (hed2 e he hb)] at h5)
   ·intro v w2 hw2 hF2 hV2
    have h5:=nX v w2 hw2 (fun k=>by
     by_cases e : k = j
     ·subst e
      exact hj w2
     ·have h5:=hF2 k
      rwa [upF_ne e] at h5) hV2
    unfold wpG at h5
    rw [hwj,if_neg wj,hcomm,hupc] at h5;exact h5
 ·unfold wpG at h
  rw [if_neg wi] at h
  unfold wpG at h
  by_cases wj : Region.wanted oj (yielded ops a.tmps) = true
  ·rw [hwj,if_pos wj] at h
   obtain ⟨Vy,pY,kY,yY,nY⟩:=h
   unfold wpG
   rw [if_pos wj];refine ⟨Vy,pY,kY,?_,?_⟩
   ·intro w hw hpre
    have h5:=yY w hw (fun e he hb=>by rw [upF_ne (hed e he hb)]; exact hpre e he hb)
    rwa [execOp_put oj hsj a oi.dst undef h1] at h5
   ·intro u w hw hF hV
    have h5:=nY u w hw (fun k=>by
     by_cases e : k = i
     ·subst e
      rw [upF_same]
      trivial
     ·rw [upF_ne e]
      exact hF k) hV
    unfold wpG
    rw [hwi,if_neg wi];rw [hcomm,hupc] at h5;exact h5
  ·rw [hwj,if_neg wj] at h
   unfold wpG
   rw [if_neg wj]
   unfold wpG
   rw [hwi,if_neg wi];rw [hcomm,hupc] at h;exact h

theorem frontG (hcl : ∀ w w',C0 w → Rel w w' → C0 w') (hQ : ∀ F F' a,(∀ k w,F' k w → F k w) → Q F a → Q F' a) (y : Nat × Oper) (l2 : List (Nat × Oper)) : ∀ (l1 : List (Nat × Oper)) (F : Facts) (a : Act) (w0 : World),(∀ x ∈ l1,PairG ops x y) → ((l1 ++ y :: l2).map (·.1)).Nodup →
  GoodF Rel C0 F w0 → Unl (l1 ++ y :: l2) F → wpG P Rel ops C0 Q (l1 ++ y :: l2) F a → wpG P Rel ops C0 Q (y :: (l1 ++ l2)) F a
 | [],F,a,w0,_,_,_,_,h=>h
 | x :: l1,F,a,w0,hp,hnd,hG,hU,h=>by
  have hnd2 : x.1 ∉ (l1 ++ y :: l2).map (·.1) ∧ ((l1 ++ y :: l2).map (·.1)).Nodup:=by
   simpa [List.nodup_cons] using hnd
  have h' : wpG P Rel ops C0 Q (x :: (y :: (l1 ++ l2))) F a :=
   wpG_cons (l:=l1 ++ y :: l2) hG (fun z hz=>hU z (List.mem_cons_of_mem _ hz)) hnd2.1
    (fun F a w hG hU h=>frontG hcl hQ y l2 l1 F a w (fun z hz=>hp z (List.mem_cons_of_mem _ hz)) hnd2.2 hG hU h) h
  exact swapG hcl hQ (hp x (by simp)) hG (hU y (by simp)) h'
end
end Go.Proofs.YtminmeljonbogaaDoor
/-
  STEPS OF WALKS: bools, choices, rows of bytes, calls over a class of worlds; two new variables, the order forced.
-/
namespace Go.Proofs.YtminmeljonbogaaDoor
open Go.RowKit Go.IntWalk

section
variable {ops : Array Oper} {C0 : World → Prop} {Q : Act → Prop} {a : Act} {o : Oper} {rest : List Oper}
theorem b_oneC {f : FuncId} {xs : Array Operand} {ats : Array TypeId} {args : Array Value} {v : Value} (hg : Region.wanted o (yielded ops a.tmps) = true)
  (hf : Own f) (hc : ∀ w,C0 w → Calls Tryd.prog f args w (fun e w'=>e = .returned v ∧ Below w.heap.size w w'))
  (ho : o.op = .call { callee:=.value (.func f),args:=xs,argTypes:=ats }) (hx : xs.toList.map a.eval = args.toList) (hk : wpB Tryd.prog ops C0 Q rest (a.put o.dst v)) : wpB Tryd.prog ops C0 Q (o :: rest) a :=
 b_call1 (f:=f) (args:=args) hg hc (fun w=>by rw [run_call_fn hf ho,map_eval hx]) hk
theorem b_by {l : List UInt8} (g : Nat) (hl : l.length = 32) (x : Operand) (hg : Region.wanted o (yielded ops a.tmps) = true) (ho : o.op = .load 22 x) (hx : a.eval x = .pointer (some ⟨g,0,none⟩))
  (hc : ∀ w,C0 w → Blk w g 22 (By l).toArray) (hk : wpB Tryd.prog ops C0 Q rest (a.put o.dst (.agg (By l).toArray))) : wpB Tryd.prog ops C0 Q (o :: rest) a :=
 b_mid hg 22 x ho g 0 hx (By l) _ (fun w h=>(hc w h).range) Tryd.underlying22 rfl (size_hash (By l).toArray (len_by hl)) hk
end

section
variable {ops : Array Oper} {C0 : World → Prop} {Q : Act → Prop} {a : Act} {o : Oper} {rest : List Oper}
theorem b_index {x : Operand} (u : List UInt8) (hl : 0 < u.length) (hg : Region.wanted o (yielded ops a.tmps) = true) (ho : o.op = .index 22 x (.const (.int .i64 0))) (hx : a.eval x = .agg (By u).toArray)
  (hk : wpB Tryd.prog ops C0 Q rest (a.put o.dst (.int .u8 ((u[0]!).toNat : Int)))) : wpB Tryd.prog ops C0 Q (o :: rest) a :=
 b_val hg (fun w _=>by
  have h0 : (By u).toArray[0]? = some (.int .u8 ((u[0]!).toNat : Int)):=By_get hl
  unfold execOp
  simp only [ho,hx];generalize (u[0]!).toNat = c at *;generalize (By u).toArray = cs at *
  have h1 : (Instr.index 22 (.agg cs) (.int .i64 0)).run Tryd.prog w = .ok (.int .u8 (c : Int)) w:=by
   unfold Instr.index part
   go_simp
  go_simp) hk
theorem b_rem2 {x : Operand} (c : Nat) (hc : c < 256) (hg : Region.wanted o (yielded ops a.tmps) = true) (ho : o.op = .binOp .rem 5 x (.const (.int .u8 2)) 5) (hx : a.eval x = .int .u8 (c : Int))
  (hk : wpB Tryd.prog ops C0 Q rest (a.put o.dst (.int .u8 ((c % 2 : Nat) : Int)))) : wpB Tryd.prog ops C0 Q (o :: rest) a :=
 b_val hg (fun w _=>by
  unfold execOp
  simp only [ho,hx]
  go_simp
  exact Int.tmod_eq_emod_of_nonneg (by omega)) hk
theorem b_is1 {x : Operand} (c : Nat) (hg : Region.wanted o (yielded ops a.tmps) = true) (ho : o.op = .binOp .eql 5 x (.const (.int .u8 1)) 5) (hx : a.eval x = .int .u8 (c : Int))
  (hk : wpB Tryd.prog ops C0 Q rest (a.put o.dst (.bool (decide (c = 1))))) : wpB Tryd.prog ops C0 Q (o :: rest) a :=
 b_val hg (fun w _=>by
  unfold execOp
  simp only [ho,hx]
  go_simp
  rw [Bool.eq_iff_iff]
  simp
  omega) hk
end

/-! ### Two new variables, the order forced -/
section
variable {ops : Array Oper} {C0 : World → Prop} {Q : Act → Prop} {a : Act} {o : Oper} {rest : List Oper}
theorem b_callV {f : FuncId} {xs : Array Operand} {ats : Array TypeId} {args : Array Value} (V : Value → Prop) (hg : Region.wanted o (yielded ops a.tmps) = true)
  (hf : Own f) (hc : ∀ w,C0 w → Calls Tryd.prog f args w (fun e w'=>∃ v,e = .returned v ∧ V v ∧ Below w.heap.size w w'))
  (ho : o.op = .call { callee:=.value (.func f),args:=xs,argTypes:=ats }) (hx : xs.toList.map a.eval = args.toList) (hk : ∀ v,V v → wpB Tryd.prog ops C0 Q rest (a.put o.dst v)) : wpB Tryd.prog ops C0 Q (o :: rest) a :=
 b_call (f:=f) (args:=args) V hg (by rw [ho]; rfl) hc (fun w=>by rw [run_call_fn hf ho,map_eval hx]) hk
end

end Go.Proofs.YtminmeljonbogaaDoor
/-
  FRAMES BY WHAT IS KNOWN OF THEM: the values of some slots are told, the others are not: great functions are walked over such frames.
-/
namespace Go.Proofs.YtminmeljonbogaaDoor
open Go.RowKit Go.IntWalk

def look : List (Nat × Value) → Nat → Option Value
  | [],_=>none
  | (k,v) :: r,j=>match Nat.beq k j with
    | true=>some v
    | false=>look r j
theorem look_cons (k j : Nat) (v : Value) (r : List (Nat × Value)) : look ((k,v) :: r) j = if k = j then some v else look r j:=by
 show (match Nat.beq k j with | true=>some v | false=>look r j) = _
 by_cases h : k = j
 ·subst h
  rw [if_pos rfl,Nat.beq_refl]
 ·rw [if_neg h]
  cases e : Nat.beq k j with
  | true=>exact absurd (Nat.eq_of_beq_eq_true e) h
  | false=>rfl
def ev (E : List (Nat × Value)) : Operand → Option Value
  | .tmp t=>look E t
  | .const v=>some v
  | .global g=>some (.pointer (some ⟨g,0,none⟩))
  | .func f=>some (.func (.func f) #[] #[])
def Sub : List (Nat × Value) → List (Nat × Value) → Prop
  | [],_=>True
  | p :: r,E=>look E p.1 = some p.2 ∧ Sub r E
structure Fr (N : Nat) (E : List (Nat × Value)) (a : Act) : Prop where
  size : a.tmps.size = N
  defers : a.defers = []
  get : ∀ k v,look E k = some v → a.eval (.tmp k) = v

section
variable {N : Nat} {E E' : List (Nat × Value)} {a : Act}
theorem Fr.eval (h : Fr N E a) {x : Operand} {v : Value} (hx : ev E x = some v) : a.eval x = v:=by
 cases x with
 | tmp t=>exact h.get t v hx
 | const u=>exact Option.some.inj hx
 | global g=>exact Option.some.inj hx
 | func f=>exact Option.some.inj hx
theorem Fr.put (h : Fr N E a) {k : Nat} (hk : Nat.blt k N = true) (v : Value) : Fr N ((k,v) :: E) (a.put (some k) v):=by
 have hk : k < N:=by simpa using hk
 refine ⟨by simp [Act.put,h.size],h.defers,fun j u hj=>?_⟩;rw [look_cons] at hj
 have hs : k < a.tmps.size:=by rw [h.size]; exact hk
 by_cases e : k = j
 ·subst e
  rw [if_pos rfl] at hj
  cases hj
  simp [Act.put,Act.eval,hs]
 ·rw [if_neg e] at hj
  have h1:=h.get j u hj;simp only [Act.put,Act.eval,Array.getD_eq_getD_getElem?] at h1 ⊢;rw [Array.getElem?_setIfInBounds_ne (by omega)];exact h1
theorem Fr.sub (h : Fr N E a) (hs : Sub E' E) : Fr N E' a:=by
 refine ⟨h.size,h.defers,?_⟩
 induction E' with
 | nil=>intro k v hk; cases hk
 | cons p r ih =>
  intro k v hk
  obtain ⟨j,u⟩:=p;rw [look_cons] at hk
  by_cases e : j = k
  ·subst e
   rw [if_pos rfl] at hk
   cases hk
   exact h.get _ _ hs.1
  ·rw [if_neg e] at hk
   exact ih hs.2 k v hk
theorem Fr.start {args : Array Value} {n : Nat} (h : args.size + n = N) (E : List (Nat × Value)) (hE : ∀ k v,look E k = some v → args[k]? = some v) :
  Fr N E { tmps:=args ++ Array.replicate n undef,defers:=[] }:=by
 refine ⟨by simp [h],rfl,fun k v hk=>?_⟩;have h1:=hE k v hk;have h2:=(Array.getElem?_eq_some_iff.1 h1).1;simp only [Act.eval,Array.getD_eq_getD_getElem?];rw [Array.getElem?_append_left h2,h1]
 rfl
end

/-! ### Code over such frames -/
def cF (P : Program) (c : Code) (Q : Exit → Act → World → Prop) (N : Nat) (E : List (Nat × Value)) (w : World) : Prop:=∀ a,Fr N E a → c.wp P Q a w
def bF (P : Program) (ops : Array Oper) (C0 : World → Prop) (Q : Act → Prop) (l : List Oper) (N : Nat) (E : List (Nat × Value)) : Prop:=∀ a,Fr N E a → wpB P ops C0 Q l a
def lF (P : Program) (ops : Array Oper) (Q : Exit → Act → World → Prop) (l : List Oper) (N : Nat) (E : List (Nat × Value)) (w : World) : Prop:=∀ a,Fr N E a → wpList P ops Q l a w
def kF (K : Act → World → Prop) (N : Nat) (E : List (Nat × Value)) (w : World) : Prop:=∀ a,Fr N E a → K a w

section
variable {P : Program} {Q : Exit → Act → World → Prop} {N : Nat} {E E' : List (Nat × Value)} {w : World}
theorem k_sub {K : Act → World → Prop} (hs : Sub E' E) (h : kF K N E' w) : kF K N E w:=fun a ha=>h a (ha.sub hs)
theorem c_seq {x y : Code} (h : ∀ K : Act → World → Prop,(∀ E' w',cF P y Q N E' w' → kF K N E' w') → cF P x (Exit.then K Q) N E w) : cF P (.seq x y) Q N E w:=fun a ha =>
 wp_seq_k fun K hK=>h K (fun _ _ h' a' ha'=>hK _ _ (h' a' ha')) a ha
theorem c_cond {c : Operand} {x y : Code} (t : Bool) (hc : ev E c = some (.bool t)) (h : cF P (if t then x else y) Q N E w) : cF P (.cond c x y) Q N E w:=fun a ha=>wp_cond (ha.eval hc) (h a ha)
theorem c_block {id : Nat} {c : Code} (h : cF P c (Exit.inBlock id Q) N E w) : cF P (.block id c) Q N E w:=fun a ha=>wp_block (h a ha)
theorem c_skip (h : kF (Q .normal) N E w) : cF P .skip Q N E w:=fun a ha=>wp_skip (h a ha)
theorem c_exit {id : Nat} (h : kF (Q (.exit id)) N E w) : cF P (.exit id) Q N E w:=fun a ha=>wp_exit (h a ha)
theorem c_ret (h : kF (Q .ret) N E w) : cF P .ret Q N E w:=fun a ha=>wp_ret (h a ha)
theorem k_exit {id : Nat} (h : kF (Q .normal) N E w) : kF (Exit.inBlock id Q (.exit id)) N E w:=fun a ha=>by
 simp only [Exit.inBlock,if_true];exact h a ha

theorem least {σ : Type} (m : σ → Nat) (p : σ → Prop) : (∃ s,p s) → ∃ s,p s ∧ ∀ s',p s' → m s ≤ m s':=by
 rintro ⟨s,hs⟩
 have key : ∀ n s,m s ≤ n → p s → ∃ s,p s ∧ ∀ s',p s' → m s ≤ m s':=by
  intro n
  induction n with
  | zero=>exact fun s hn hs=>⟨s,hs,fun s' _=>by omega⟩
  | succ n ih =>
   intro s hn hs
   by_cases h : ∃ s',p s' ∧ m s' < m s
   ·obtain ⟨s',h1,h2⟩:=h
    exact ih s' (by omega) h1
   ·exact ⟨s,hs,fun s' h1=>by
     by_cases h2 : m s' < m s
     ·exact absurd ⟨s',h1,h2⟩ h
     ·omega⟩
 exact key (m s) s (Nat.le_refl _) hs
open Classical in
theorem c_loop {σ : Type} {c : Code} (m : σ → Nat) (F : σ → List (Nat × Value)) (R : σ → World → Prop)
  (round : ∀ s w,R s w → cF P c (Exit.then (fun a' w'=>∃ s',R s' w' ∧ Fr N (F s') a' ∧ m s' < m s) Q) N (F s) w) (s0 : σ) (h0 : R s0 w) : cF P (.loop c) Q N (F s0) w:=fun a ha=>by
 let T : Act → World → σ → Prop:=fun a w s=>R s w ∧ Fr N (F s) a
 let μ : Act → World → Nat:=fun a w=>if h : ∃ s,T a w s then m (Classical.choose (least m (T a w) h)) else 0
 have hμ : ∀ a w (h : ∃ s,T a w s),∃ s,T a w s ∧ (∀ s',T a w s' → m s ≤ m s') ∧ μ a w = m s:=fun a w h=>by
  refine ⟨Classical.choose (least m (T a w) h),(Classical.choose_spec (least m (T a w) h)).1,(Classical.choose_spec (least m (T a w) h)).2,?_⟩
  show (if h : ∃ s,T a w s then m (Classical.choose (least m (T a w) h)) else 0) = _
  rw [dif_pos h]
 refine wp_loop (fun a w=>∃ s,T a w s) μ ⟨s0,h0,ha⟩ fun a w hI=>?_;obtain ⟨s,hs,_,e⟩:=hμ a w hI;refine wp_mono (round s w hs.1 a hs.2) fun x a' w' hx=>?_
 cases x with
 | normal =>
  obtain ⟨s',h1,h2,h3⟩:=hx;have hI' : ∃ s,T a' w' s:=⟨s',h1,h2⟩;obtain ⟨s2,hs2,hm2,e2⟩:=hμ a' w' hI';refine ⟨hI',?_⟩;rw [e,e2];exact Nat.lt_of_le_of_lt (hm2 s' ⟨h1,h2⟩) h3
 | exit _=>exact hx
 | goto _=>exact hx
 | ret=>exact hx
 | panic _=>exact hx
 | outgrown=>exact hx
theorem k_round {σ : Type} {m : σ → Nat} {F : σ → List (Nat × Value)} {R : σ → World → Prop} {s : σ} (s' : σ) (hs : Sub (F s') E) (hR : R s' w) (hm : m s' < m s) :
  kF (fun a' w'=>∃ s',R s' w' ∧ Fr N (F s') a' ∧ m s' < m s) N E w:=fun _ ha=>⟨s',hR,ha.sub hs,hm⟩
end

/-! ### Regions -/
section
variable {P : Program} {Q : Exit → Act → World → Prop} {N : Nat} {E : List (Nat × Value)} {w : World} {id : Nat} {l : List Oper}
theorem c_q (hm : P.follows .mixedOrders = true) (hB : tailB l.toArray l.length 0 0 = true) (hQ : ∀ c a d v w,Q (.panic c) (a.put d v) w → Q (.panic c) a w)
  (h : bF P l.toArray (Up w) (fun a'=>∀ w',Up w w' → Q .normal a' w') l N E) : cF P (.region id l.toArray true) Q N E w:=fun a ha=>reg_q hm hB hQ (h a ha)
theorem c_qF (h : bF P l.toArray (Up w) (fun a'=>∀ w',Up w w' → Q .normal a' w') l N E) : cF P (.region id l.toArray false) Q N E w:=fun a ha=>reg_qF (h a ha)
theorem c_t (n : Nat) (hn : n ≤ l.length) (hm : P.follows .mixedOrders = true) (hB : tailB l.toArray n 0 (l.drop n).length = true) (hQ : ∀ c a d v w,Q (.panic c) (a.put d v) w → Q (.panic c) a w)
  (h : bF P l.toArray (Up w) (fun a'=>∀ w',Up w w' → wpList P l.toArray Q (l.drop n) a' w') (l.take n) N E) : cF P (.region id l.toArray true) Q N E w:=fun a ha =>
 region_B n (Up w) hn hm hB (fun _ _ h k=>h.step k) (Up.drew w) hQ (h a ha)
theorem c_tF (n : Nat) (h : bF P l.toArray (Up w) (fun a'=>∀ w',Up w w' → wpList P l.toArray Q (l.drop n) a' w') (l.take n) N E) : cF P (.region id l.toArray false) Q N E w:=fun a ha=>reg_tailF n (h a ha)
theorem c_lit (h : lF P l.toArray Q l N E w) : cF P (.region id l.toArray false) Q N E w:=fun a ha=>wp_region_lit (h a ha)
end

/-! ### Steps -/
section
variable {P : Program} {ops : Array Oper} {C0 : World → Prop} {Q : Act → Prop} {N : Nat} {E : List (Nat × Value)} {o : Oper} {rest : List Oper} {k : Nat}
theorem f_val (v : Value) (hg : o.guard = none) (hd : o.dst = some k) (hk : Nat.blt k N = true) (h : ∀ a,Fr N E a → ∀ w,C0 w → (execOp a.eval o).run P w = .ok (.value v) w) (hn : bF P ops C0 Q rest N ((k,v) :: E)) :
  bF P ops C0 Q (o :: rest) N E:=fun a ha=>b_val (by simp [Region.wanted,hg]) (h a ha) (by rw [hd]; exact hn _ (ha.put hk v))
theorem f_move {x : Operand} (v : Value) (hg : o.guard = none) (hd : o.dst = some k) (hk : Nat.blt k N = true) (ho : o.op = .move x) (hx : ev E x = some v) (hn : bF P ops C0 Q rest N ((k,v) :: E)) : bF P ops C0 Q (o :: rest) N E :=
 f_val v hg hd hk (fun a ha w _=>by
  have h1:=ha.eval hx
  unfold execOp
  simp only [ho,h1,Sem.run_pure]) hn
theorem f_assign {x : Operand} (v : Value) (hg : o.guard = none) (hd : o.dst = some k) (hk : Nat.blt k N = true) (ho : o.op = .assign x) (hx : ev E x = some v) (hn : bF P ops C0 Q rest N ((k,v) :: E)) : bF P ops C0 Q (o :: rest) N E :=
 f_val v hg hd hk (fun a ha w _=>by
  have h1:=ha.eval hx
  unfold execOp
  simp only [ho,h1,Sem.run_pure]) hn
end
theorem f_end {P : Program} {ops : Array Oper} {Q : Exit → Act → World → Prop} {N : Nat} {E : List (Nat × Value)} {w : World} (h : ∀ w',Up w w' → kF (Q .normal) N E w') :
  bF P ops (Up w) (fun a'=>∀ w',Up w w' → Q .normal a' w') [] N E:=fun a ha=>wpB_nil fun w' hw'=>h w' hw' a ha

section
variable {ops : Array Oper} {C0 : World → Prop} {Q : Act → Prop} {N : Nat} {E : List (Nat × Value)} {o : Oper} {rest : List Oper} {k : Nat}
theorem f_call {f : FuncId} {xs : Array Operand} {ats : Array TypeId} (args : Array Value) (v : Value) (hg : o.guard = none) (hd : o.dst = some k) (hk : Nat.blt k N = true)
  (hf : Own f) (hc : ∀ w,C0 w → Calls Tryd.prog f args w (fun e w'=>e = .returned v ∧ Below w.heap.size w w'))
  (ho : o.op = .call { callee:=.value (.func f),args:=xs,argTypes:=ats }) (hx : xs.toList.map (ev E) = args.toList.map some) (hn : bF Tryd.prog ops C0 Q rest N ((k,v) :: E)) : bF Tryd.prog ops C0 Q (o :: rest) N E:=fun a ha=>by
 refine b_oneC (v:=v) (args:=args) (by simp [Region.wanted,hg]) hf hc ho ?_ (by rw [hd]; exact hn _ (ha.put hk v))
 have key : ∀ (l : List Operand) (m : List Value),l.map (ev E) = m.map some → l.map a.eval = m:=by
  intro l
  induction l with
  | nil=>intro m h; cases m with
   | nil=>rfl
   | cons=>cases h
  | cons y l ih=>intro m h; cases m with
   | nil=>cases h
   | cons u m =>
    simp only [List.map_cons,List.cons.injEq] at h ⊢;exact ⟨ha.eval h.1,ih m h.2⟩
 exact key _ _ hx

/-! Numbers -/
theorem f_addI {x y : Operand} (m n r : Int) (hg : o.guard = none) (hd : o.dst = some k) (hk : Nat.blt k N = true) (ho : o.op = .binOp .add 3 x y 3) (hx : ev E x = some (.int .i64 m)) (hy : ev E y = some (.int .i64 n))
  (hr : IntKind.i64.wrap (m + n) = r) (hn : bF Tryd.prog ops C0 Q rest N ((k,.int .i64 r) :: E)) : bF Tryd.prog ops C0 Q (o :: rest) N E :=
 f_val _ hg hd hk (fun a ha w _=>by
  have h1:=ha.eval hx;have h2:=ha.eval hy
  unfold execOp
  simp only [ho,h1,h2]
  go_simp) hn
theorem f_subI {x y : Operand} (m n r : Int) (hg : o.guard = none) (hd : o.dst = some k) (hk : Nat.blt k N = true) (ho : o.op = .binOp .sub 3 x y 3) (hx : ev E x = some (.int .i64 m)) (hy : ev E y = some (.int .i64 n))
  (hr : IntKind.i64.wrap (m - n) = r) (hn : bF Tryd.prog ops C0 Q rest N ((k,.int .i64 r) :: E)) : bF Tryd.prog ops C0 Q (o :: rest) N E :=
 f_val _ hg hd hk (fun a ha w _=>by
  have h1:=ha.eval hx;have h2:=ha.eval hy
  unfold execOp
  simp only [ho,h1,h2]
  go_simp) hn
theorem f_mulI {x y : Operand} (m n r : Int) (hg : o.guard = none) (hd : o.dst = some k) (hk : Nat.blt k N = true) (ho : o.op = .binOp .mul 3 x y 3) (hx : ev E x = some (.int .i64 m)) (hy : ev E y = some (.int .i64 n))
  (hr : IntKind.i64.wrap (m * n) = r) (hn : bF Tryd.prog ops C0 Q rest N ((k,.int .i64 r) :: E)) : bF Tryd.prog ops C0 Q (o :: rest) N E :=
 f_val _ hg hd hk (fun a ha w _=>by
  have h1:=ha.eval hx;have h2:=ha.eval hy
  unfold execOp
  simp only [ho,h1,h2]
  go_simp) hn
theorem f_lssI {x y : Operand} {t : TypeId} (m n : Int) (q : Bool) (hg : o.guard = none) (hd : o.dst = some k) (hk : Nat.blt k N = true) (ho : o.op = .binOp .lss 3 x y t) (hx : ev E x = some (.int .i64 m)) (hy : ev E y = some (.int .i64 n))
  (hr : decide (m < n) = q) (hn : bF Tryd.prog ops C0 Q rest N ((k,.bool q) :: E)) : bF Tryd.prog ops C0 Q (o :: rest) N E :=
 f_val _ hg hd hk (fun a ha w _=>by
  have h1:=ha.eval hx;have h2:=ha.eval hy;subst hr
  unfold execOp
  simp only [ho,h1,h2]
  go_simp) hn
theorem f_addU {x y : Operand} {t : TypeId} (m n r : Int) (hg : o.guard = none) (hd : o.dst = some k) (hk : Nat.blt k N = true) (ho : o.op = .binOp .add 56 x y t) (hx : ev E x = some (.int .u64 m)) (hy : ev E y = some (.int .u64 n))
  (hr : IntKind.u64.wrap (m + n) = r) (hn : bF Tryd.prog ops C0 Q rest N ((k,.int .u64 r) :: E)) : bF Tryd.prog ops C0 Q (o :: rest) N E :=
 f_val _ hg hd hk (fun a ha w _=>by
  have h1:=ha.eval hx;have h2:=ha.eval hy
  unfold execOp
  simp only [ho,h1,h2]
  go_simp) hn
theorem f_mulU {x y : Operand} {t : TypeId} (m n r : Int) (hg : o.guard = none) (hd : o.dst = some k) (hk : Nat.blt k N = true) (ho : o.op = .binOp .mul 56 x y t) (hx : ev E x = some (.int .u64 m)) (hy : ev E y = some (.int .u64 n))
  (hr : IntKind.u64.wrap (m * n) = r) (hn : bF Tryd.prog ops C0 Q rest N ((k,.int .u64 r) :: E)) : bF Tryd.prog ops C0 Q (o :: rest) N E :=
 f_val _ hg hd hk (fun a ha w _=>by
  have h1:=ha.eval hx;have h2:=ha.eval hy
  unfold execOp
  simp only [ho,h1,h2]
  go_simp) hn
theorem f_andU {x y : Operand} {t : TypeId} (m n r : Int) (hg : o.guard = none) (hd : o.dst = some k) (hk : Nat.blt k N = true) (ho : o.op = .binOp .and 56 x y t) (hx : ev E x = some (.int .u64 m)) (hy : ev E y = some (.int .u64 n))
  (hr : bits .and .u64 m n = r) (hn : bF Tryd.prog ops C0 Q rest N ((k,.int .u64 r) :: E)) : bF Tryd.prog ops C0 Q (o :: rest) N E :=
 f_val _ hg hd hk (fun a ha w _=>by
  have h1:=ha.eval hx;have h2:=ha.eval hy
  unfold execOp
  simp only [ho,h1,h2]
  go_simp) hn
theorem f_orU {x y : Operand} {t : TypeId} (m n r : Int) (hg : o.guard = none) (hd : o.dst = some k) (hk : Nat.blt k N = true) (ho : o.op = .binOp .or 56 x y t) (hx : ev E x = some (.int .u64 m)) (hy : ev E y = some (.int .u64 n))
  (hr : bits .or .u64 m n = r) (hn : bF Tryd.prog ops C0 Q rest N ((k,.int .u64 r) :: E)) : bF Tryd.prog ops C0 Q (o :: rest) N E :=
 f_val _ hg hd hk (fun a ha w _=>by
  have h1:=ha.eval hx;have h2:=ha.eval hy
  unfold execOp
  simp only [ho,h1,h2]
  go_simp) hn
theorem f_notU {x : Operand} {t : TypeId} (m r : Int) (hg : o.guard = none) (hd : o.dst = some k) (hk : Nat.blt k N = true) (ho : o.op = .unOp .xor t x) (hx : ev E x = some (.int .u64 m))
  (hr : bits .xor .u64 (if IntKind.u64.signed = true then -1 else IntKind.u64.max) m = r) (hn : bF Tryd.prog ops C0 Q rest N ((k,.int .u64 r) :: E)) : bF Tryd.prog ops C0 Q (o :: rest) N E :=
 f_val _ hg hd hk (fun a ha w _=>by
  have h1:=ha.eval hx;subst hr
  unfold execOp
  simp only [ho,h1]
  go_simp) hn
theorem f_load {x : Operand} {t : TypeId} (p : Addr) (v : Value) (ht : t = 56 ∨ t = 25 ∨ t = 5 ∨ t = 3) (hg : o.guard = none) (hd : o.dst = some k) (hk : Nat.blt k N = true) (ho : o.op = .load t x) (hx : ev E x = some (.pointer (some p)))
  (hc : ∀ w,C0 w → w.cell? p = some v) (hn : bF Tryd.prog ops C0 Q rest N ((k,v) :: E)) : bF Tryd.prog ops C0 Q (o :: rest) N E :=
 f_val _ hg hd hk (fun a ha w hw=>by
  have h1:=ha.eval hx;have h2:=hc w hw
  unfold execOp
  simp only [ho,h1]
  rcases ht with rfl | rfl | rfl | rfl <;> go_simp) hn
end
end Go.Proofs.YtminmeljonbogaaDoor
/-
PLAIN NUMBERS: primes, Fermat's little theorem, Pocklington's criterion; p = 2^255 - 19 is prime. No program is imported.
PLAIN NUMBERS: the numbers modulo a prime as Fin n: no divisors of zero, powers, inverses, roots. No program is imported.
PLAIN NUMBERS: the curve -x² + y² = 1 + d x² y² modulo a prime, where -1 is a square and d is none: its sums are a group. No program is imported.
-/

namespace Nums

def Prime (p : Nat) : Prop:=1 < p ∧ ∀ m,m ∣ p → m = 1 ∨ m = p

theorem Prime.pos {p : Nat} (h : Prime p) : 0 < p:=by have:=h.1; omega

theorem Prime.coprime {p a : Nat} (h : Prime p) (ha : ¬ p ∣ a) : Nat.Coprime p a:=by
 have hd : Nat.gcd p a ∣ p:=Nat.gcd_dvd_left p a
 rcases h.2 _ hd with h1 | h1
 ·exact h1
 ·exact absurd (h1 ▸ Nat.gcd_dvd_right p a) ha

theorem Prime.dvd_mul {p a b : Nat} (h : Prime p) (hd : p ∣ a * b) : p ∣ a ∨ p ∣ b:=by
 by_cases ha : p ∣ a
 ·exact .inl ha
 ·exact .inr ((h.coprime ha).dvd_of_dvd_mul_left hd)

theorem exists_prime_dvd : ∀ (n : Nat),1 < n → ∃ r,Prime r ∧ r ∣ n:=by
 intro n
 induction n using Nat.strongRecOn with
 | ind n ih =>
  intro hn
  by_cases hp : ∃ m,m ∣ n ∧ m ≠ 1 ∧ m ≠ n
  ·obtain ⟨m,hm,h1,h2⟩:=hp
   have hle:=Nat.le_of_dvd (by omega) hm;have hpos:=Nat.pos_of_dvd_of_pos hm (by omega);obtain ⟨r,hr,hrm⟩:=ih m (by omega) (by omega);exact ⟨r,hr,Nat.dvd_trans hrm hm⟩
  ·refine ⟨n,⟨hn,fun m hm=>?_⟩,Nat.dvd_refl n⟩
   by_cases h1 : m = 1
   ·exact .inl h1
   ·by_cases h2 : m = n
    ·exact .inr h2
    ·exact absurd ⟨m,hm,h1,h2⟩ hp

theorem small_prime {n : Nat} (hn : 1 < n) (hp : ¬ Prime n) : ∃ r,Prime r ∧ r ∣ n ∧ r * r ≤ n:=by
 have : ∃ m,m ∣ n ∧ m ≠ 1 ∧ m ≠ n:=by
  by_cases h : ∃ m,m ∣ n ∧ m ≠ 1 ∧ m ≠ n
  ·exact h
  ·refine absurd ⟨hn,fun m hm=>?_⟩ hp
   by_cases h1 : m = 1
   ·exact .inl h1
   ·by_cases h2 : m = n
    ·exact .inr h2
    ·exact absurd ⟨m,hm,h1,h2⟩ h
 obtain ⟨m,⟨k,hk⟩,h1,h2⟩:=this
 have hm0 : 0 < m:=by
  rcases Nat.eq_zero_or_pos m with h | h
  ·subst h; simp at hk; omega
  ·exact h
 have hk0 : 0 < k:=by
  rcases Nat.eq_zero_or_pos k with h | h
  ·subst h; simp at hk; omega
  ·exact h
 have hk1 : k ≠ 1:=fun h=>by subst h; simp at hk; omega
 rcases Nat.le_total m k with hle | hle
 ·obtain ⟨r,hr,hrm⟩:=exists_prime_dvd m (by omega)
  have hrle:=Nat.le_of_dvd hm0 hrm;exact ⟨r,hr,Nat.dvd_trans hrm ⟨k,hk⟩,by rw [hk]; exact Nat.mul_le_mul hrle (Nat.le_trans hrle hle)⟩
 ·obtain ⟨r,hr,hrk⟩:=exists_prime_dvd k (by omega)
  have hrle:=Nat.le_of_dvd hk0 hrk;exact ⟨r,hr,Nat.dvd_trans hrk ⟨m,by rw [hk,Nat.mul_comm]⟩,by rw [hk]; exact Nat.mul_le_mul (Nat.le_trans hrle hle) hrle⟩

/-! Fermat. -/
def prod (l : List Nat) : Nat:=l.foldr (· * ·) 1
theorem prod_cons (a : Nat) (l : List Nat) : prod (a :: l) = a * prod l:=rfl
theorem prod_perm {l1 l2 : List Nat} (h : l1.Perm l2) : prod l1 = prod l2:=by
 induction h with
 | nil=>rfl
 | cons x _ ih=>rw [prod_cons,prod_cons,ih]
 | swap x y l=>rw [prod_cons,prod_cons,prod_cons,prod_cons,← Nat.mul_assoc,← Nat.mul_assoc,Nat.mul_comm x y]
 | trans _ _ ih1 ih2=>rw [ih1,ih2]

theorem perm_of : ∀ {l1 l2 : List Nat},l1.Nodup → (∀ x ∈ l1,x ∈ l2) → l2.length ≤ l1.length → l1.Perm l2
 | [],l2,_,_,hl=>by
  have : l2 = []:=List.eq_nil_of_length_eq_zero (by simpa using hl);subst this;exact List.Perm.refl _
 | x :: l1,l2,hn,hs,hl=>by
  have hx : x ∈ l2:=hs x (by simp);have hp:=List.perm_cons_erase hx;obtain ⟨hx1,hn1⟩:=List.nodup_cons.1 hn
  have h1 : l1.Perm (l2.erase x):=perm_of hn1 (fun y hy=>(List.mem_erase_of_ne (fun (e : y = x)=>hx1 (e ▸ hy))).2 (hs y (by simp [hy]))) (by
   rw [List.length_erase_of_mem hx]
   simp at hl
   omega)
  exact (List.Perm.cons x h1).trans hp.symm

theorem prod_map_mod (a r : Nat) : ∀ (l : List Nat),prod (l.map fun i=>a * i % r) % r = a ^ l.length * prod l % r
 | []=>by simp [prod]
 | i :: l=>by
  rw [List.map_cons,prod_cons,prod_cons,List.length_cons,Nat.mul_mod,prod_map_mod a r l,Nat.mod_mod,← Nat.mul_mod,Nat.pow_succ]
  congr 1
  rw [Nat.mul_assoc,Nat.mul_assoc];rw [Nat.mul_left_comm i,← Nat.mul_assoc a (a ^ l.length),Nat.mul_comm a (a ^ l.length),Nat.mul_assoc]

theorem coprime_prod {r : Nat} (hr : Prime r) : ∀ (l : List Nat),(∀ x ∈ l,¬ r ∣ x) → ¬ r ∣ prod l
 | [],_,h=>by
  have:=Nat.le_of_dvd (by simp [prod]) h
  simp [prod] at this
  have:=hr.1
  omega
 | x :: l,hl,h=>by
  rw [prod_cons] at h
  rcases hr.dvd_mul h with h1 | h1
  ·exact hl x (by simp) h1
  ·exact coprime_prod hr l (fun y hy=>hl y (by simp [hy])) h1

theorem mod_cancel {r a b c : Nat} (hr : Prime r) (hc : ¬ r ∣ c) (h : a * c % r = b * c % r) : a % r = b % r:=by
 have key : ∀ {x y : Nat},y ≤ x → x * c % r = y * c % r → x % r = y % r:=fun {x y} hle h=>by
  have h1 : r ∣ x * c - y * c:=Nat.dvd_of_mod_eq_zero (Nat.sub_mod_eq_zero_of_mod_eq h);rw [← Nat.sub_mul] at h1
  rcases hr.dvd_mul h1 with ⟨t,ht⟩ | h2
  ·have : x = y + r * t:=by omega
   rw [this,Nat.add_mul_mod_self_left]
  ·exact absurd h2 hc
 rcases Nat.le_total b a with hle | hle
 ·exact key hle h
 ·exact (key hle h.symm).symm

theorem nodup_map {f : Nat → Nat} : ∀ {l : List Nat},l.Nodup → (∀ x ∈ l,∀ y ∈ l,f x = f y → x = y) → (l.map f).Nodup
 | [],_,_=>by simp
 | a :: l,hn,hi=>by
  obtain ⟨h1,h2⟩:=List.nodup_cons.1 hn;rw [List.map_cons,List.nodup_cons];refine ⟨fun h=>?_,nodup_map h2 (fun x hx y hy=>hi x (by simp [hx]) y (by simp [hy]))⟩;obtain ⟨b,hb,e⟩:=List.mem_map.1 h;have:=hi b (by simp [hb]) a (by simp) e;subst this;exact h1 hb

theorem fermat {r a : Nat} (hr : Prime r) (ha : ¬ r ∣ a) : a ^ (r - 1) % r = 1:=by
 have hr1:=hr.1
 have hnd : ∀ i ∈ List.range' 1 (r - 1),¬ r ∣ i:=fun i hi hd=>by
  have hi':=List.mem_range'_1.1 hi;have:=Nat.le_of_dvd (by omega) hd
  omega
 have hperm : ((List.range' 1 (r - 1)).map fun i=>a * i % r).Perm (List.range' 1 (r - 1)):=by
  refine perm_of ?_ ?_ (by simp)
  ·refine nodup_map List.nodup_range' fun x hx y hy h=>?_
   have hx':=List.mem_range'_1.1 hx;have hy':=List.mem_range'_1.1 hy;rw [Nat.mul_comm a x,Nat.mul_comm a y] at h;have:=mod_cancel hr ha h
   rwa [Nat.mod_eq_of_lt (by omega),Nat.mod_eq_of_lt (by omega)] at this
  ·intro x hx
   obtain ⟨i,hi,rfl⟩:=List.mem_map.1 hx;have hlt : a * i % r < r:=Nat.mod_lt _ hr.pos
   have hne : a * i % r ≠ 0:=fun h0=>by
    rcases hr.dvd_mul (Nat.dvd_of_mod_eq_zero h0) with h1 | h1
    ·exact ha h1
    ·exact hnd i hi h1
   exact List.mem_range'_1.2 ⟨by omega,by omega⟩
 have h1:=prod_map_mod a r (List.range' 1 (r - 1));rw [prod_perm hperm,List.length_range'] at h1
 have h2 : 1 * prod (List.range' 1 (r - 1)) % r = a ^ (r - 1) * prod (List.range' 1 (r - 1)) % r:=by rw [Nat.one_mul]; exact h1
 have h3:=mod_cancel hr (coprime_prod hr _ hnd) h2;rw [← h3,Nat.mod_eq_of_lt hr1]

/-! Powers modulo a number, reckoned. -/
def pm (n a : Nat) : Nat → Nat → Nat
  | 0,_=>1 % n
  | k + 1,e=>if e % 2 = 1 then pm n a k (e / 2) * pm n a k (e / 2) % n * a % n else pm n a k (e / 2) * pm n a k (e / 2) % n

theorem pm_eq (n a : Nat) : ∀ (k e : Nat),e < 2 ^ k → pm n a k e = a ^ e % n
 | 0,e,h=>by
  have : e = 0:=by simpa using h
  subst this
  simp [pm]
 | k + 1,e,h=>by
  have h1 : e / 2 < 2 ^ k:=by rw [Nat.pow_succ] at h; omega
  have ih:=pm_eq n a k (e / 2) h1
  unfold pm
  rw [ih]
  have e2 : a ^ (e / 2) % n * (a ^ (e / 2) % n) % n = a ^ (2 * (e / 2)) % n:=by
   rw [← Nat.mul_mod,← Nat.pow_add]
   congr 2
   omega
  rw [e2]
  split
  ·rw [Nat.mod_mul_mod,← Nat.pow_succ]
   congr 2
   omega
  ·congr 2
   omega

theorem pow_gcd {r a : Nat} (hr : 1 < r) : ∀ (m n : Nat),a ^ m % r = 1 → a ^ n % r = 1 → a ^ Nat.gcd m n % r = 1:=by
 intro m n
 induction m,n using Nat.gcd.induction with
 | H0 n=>intro _ h; simpa using h
 | H1 m n hm ih =>
  intro h1 h2
  rw [Nat.gcd_rec];refine ih ?_ h1
  have e : a ^ n = (a ^ m) ^ (n / m) * a ^ (n % m):=by
   rw [← Nat.pow_mul,← Nat.pow_add,Nat.div_add_mod]
  have h3 : (a ^ m) ^ (n / m) % r = 1:=by
   rw [Nat.pow_mod,h1,Nat.one_pow,Nat.mod_eq_of_lt hr]
  rw [e,Nat.mul_mod,h3,Nat.one_mul,Nat.mod_mod] at h2;exact h2

theorem pock_one {n q a m r : Nat} (hq : Prime q) (hn : n - 1 = q * m) (hn1 : 1 < n) (h1 : a ^ (n - 1) % n = 1) (g1 : Nat.gcd (a ^ m % n + n - 1) n = 1) (hr : Prime r) (hrn : r ∣ n) : q ∣ r - 1:=by
 have hr1:=hr.1;have hmod : ∀ x,x % n % r = x % r:=fun x=>Nat.mod_mod_of_dvd x hrn
 have h1r : a ^ (n - 1) % r = 1:=by rw [← hmod,h1,Nat.mod_eq_of_lt hr1]
 have hra : ¬ r ∣ a:=fun hd=>by
  have h0 : a ^ (n - 1) % r = 0:=by
   refine Nat.mod_eq_zero_of_dvd (Nat.dvd_trans hd ?_);exact ⟨a ^ (n - 2),by rw [← Nat.pow_succ']; congr 1; omega⟩
  omega
 by_cases hqr : q ∣ r - 1
 ·exact hqr
 ·have hf:=fermat hr hra
  have hg:=pow_gcd hr1 (n - 1) (r - 1) h1r hf
  have hcop : Nat.Coprime (Nat.gcd (n - 1) (r - 1)) q:=by
   have:=hq.coprime (a:=Nat.gcd (n - 1) (r - 1)) (fun hd=>hqr (Nat.dvd_trans hd (Nat.gcd_dvd_right _ _)));exact this.symm
  have hdm : Nat.gcd (n - 1) (r - 1) ∣ m:=by
   have : Nat.gcd (n - 1) (r - 1) ∣ q * m:=hn ▸ Nat.gcd_dvd_left (n - 1) (r - 1);exact hcop.dvd_of_dvd_mul_left this
  obtain ⟨t,ht⟩:=hdm
  have hm : a ^ m % r = 1:=by
   rw [ht,Nat.pow_mul,Nat.pow_mod,hg,Nat.one_pow,Nat.mod_eq_of_lt hr1]
  exfalso
  have hlt : a ^ m % n < n:=Nat.mod_lt _ (by omega)
  have hd : r ∣ a ^ m % n + n - 1:=by
   have e1 : a ^ m % n % r = 1:=by rw [hmod]; exact hm
   have e2 : 1 ≤ a ^ m % n:=by
    rcases Nat.eq_zero_or_pos (a ^ m % n) with h0 | h0
    ·rw [h0] at e1; simp at e1
    ·exact h0
   have e3 : r ∣ a ^ m % n - 1:=Nat.dvd_of_mod_eq_zero (by
    have:=Nat.sub_mod_eq_zero_of_mod_eq (m:=a ^ m % n) (n:=1) (k:=r) (by rw [e1,Nat.mod_eq_of_lt hr1])
    exact this)
   have e4 : a ^ m % n + n - 1 = (a ^ m % n - 1) + n:=by omega
   rw [e4];exact Nat.dvd_add e3 hrn
  have:=Nat.dvd_gcd hd hrn;rw [g1] at this;have:=Nat.le_of_dvd (by omega) this
  omega

theorem pocklington {n q1 q2 m1 m2 a : Nat} (hq1 : Prime q1) (hq2 : Prime q2) (hne : q1 ≠ q2) (hn1 : 1 < n) (hm1 : n - 1 = q1 * m1) (hm2 : n - 1 = q2 * m2) (hsz : n < (q1 * q2 + 1) * (q1 * q2 + 1))
  (h1 : a ^ (n - 1) % n = 1) (g1 : Nat.gcd (a ^ m1 % n + n - 1) n = 1) (g2 : Nat.gcd (a ^ m2 % n + n - 1) n = 1) : Prime n:=by
 by_cases hp : Prime n
 ·exact hp
 ·exfalso
  obtain ⟨r,hr,hrn,hrr⟩:=small_prime hn1 hp;have d1:=pock_one hq1 hm1 hn1 h1 g1 hr hrn;have d2:=pock_one hq2 hm2 hn1 h1 g2 hr hrn
  have hcop : Nat.Coprime q1 q2:=hq1.coprime (fun hd=>by
   rcases hq2.2 _ hd with h | h
   ·have:=hq1.1; omega
   ·exact hne h)
  have hd : q1 * q2 ∣ r - 1:=hcop.mul_dvd_of_dvd_of_dvd d1 d2;have hr1:=hr.1;have hle:=Nat.le_of_dvd (by omega) hd
  have h2 : q1 * q2 + 1 ≤ r:=by omega
  have:=Nat.mul_le_mul h2 h2
  omega

def pockB (n q1 q2 a k : Nat) : Bool :=
  decide (1 < n) && decide (n - 1 = q1 * ((n - 1) / q1)) && decide (n - 1 = q2 * ((n - 1) / q2)) && decide (n < (q1 * q2 + 1) * (q1 * q2 + 1)) && decide (q1 ≠ q2) && decide (n < 2 ^ k) &&
  (pm n a k (n - 1) == 1) && (Nat.gcd (pm n a k ((n - 1) / q1) + n - 1) n == 1) && (Nat.gcd (pm n a k ((n - 1) / q2) + n - 1) n == 1)

theorem prime_of {n q1 q2 a k : Nat} (hq1 : Prime q1) (hq2 : Prime q2) (h : pockB n q1 q2 a k = true) : Prime n:=by
 simp only [pockB,Bool.and_eq_true,decide_eq_true_eq,beq_iff_eq] at h;obtain ⟨⟨⟨⟨⟨⟨⟨⟨h1,h2⟩,h3⟩,h4⟩,h5⟩,h6⟩,h7⟩,h8⟩,h9⟩:=h;have hd1 : (n - 1) / q1 ≤ n - 1:=Nat.div_le_self _ _;have hd2 : (n - 1) / q2 ≤ n - 1:=Nat.div_le_self _ _;rw [pm_eq n a k _ (by omega)] at h7 h8 h9;exact pocklington hq1 hq2 h5 h1 h2 h3 h4 h7 h8 h9

def trial (n : Nat) : Nat → Bool
  | 0=>true
  | k + 1=>trial n k && (decide (k < 2) || decide (n % k ≠ 0))
theorem trial_get {n : Nat} : ∀ {k m : Nat},trial n k = true → 2 ≤ m → m < k → ¬ m ∣ n
 | k + 1,m,h,h2,hm,hd=>by
  simp only [trial,Bool.and_eq_true,Bool.or_eq_true,decide_eq_true_eq] at h
  by_cases e : m = k
  ·subst e
   rcases h.2 with h3 | h3
   ·omega
   ·exact h3 (Nat.mod_eq_zero_of_dvd hd)
  ·exact trial_get h.1 h2 (by omega) hd
theorem prime_trial {n k : Nat} (hn : 1 < n) (hk : n < k * k) (h : trial n k = true) : Prime n:=by
 by_cases hp : Prime n
 ·exact hp
 ·exfalso
  obtain ⟨r,hr,hrn,hrr⟩:=small_prime hn hp;have hr1:=hr.1
  have : r < k:=by
   rcases Nat.lt_or_ge r k with h1 | h1
   ·exact h1
   ·have:=Nat.mul_le_mul h1 h1; omega
  exact trial_get h (by omega) this hrn

theorem prime_127 : Prime 127:=prime_trial (k:=12) (by decide) (by decide) (by decide +kernel)
theorem prime_8574133 : Prime 8574133:=prime_trial (k:=2929) (by decide) (by decide +kernel) (by decide +kernel)
theorem prime_75707 : Prime 75707:=prime_trial (k:=276) (by decide) (by decide +kernel) (by decide +kernel)
theorem prime_65147 : Prime 65147:=prime_trial (k:=256) (by decide) (by decide +kernel) (by decide +kernel)
theorem prime_1923133 : Prime 1923133:=prime_trial (k:=1387) (by decide) (by decide +kernel) (by decide +kernel)
theorem prime_a : Prime 1919519569386763:=prime_of (q1:=8574133) (q2:=127) (a:=2) (k:=51) prime_8574133 prime_127 (by decide +kernel)
theorem prime_b : Prime 75445702479781427272750846543864801:=prime_of (q1:=1919519569386763) (q2:=75707) (a:=7) (k:=116) prime_a prime_75707 (by decide +kernel)
theorem prime_c : Prime 74058212732561358302231226437062788676166966415465897661863160754340907:=prime_of (q1:=75445702479781427272750846543864801) (q2:=1923133) (a:=2) (k:=236) prime_b prime_1923133 (by decide +kernel)

def p : Nat:=57896044618658097711785492504343953926634992332820282019728792003956564819949
theorem prime_p : Prime p:=prime_of (q1:=74058212732561358302231226437062788676166966415465897661863160754340907) (q2:=65147) (a:=2) (k:=255) prime_c prime_65147 (by decide +kernel)

end Nums

namespace Nums
section
variable {n : Nat} [NeZero n]

omit [NeZero n] in
theorem val_mul (a b : Fin n) : (a * b).val = a.val * b.val % n:=rfl
theorem val_zero : ((0 : Fin n)).val = 0:=by simp
theorem val_one (hn : Prime n) : ((1 : Fin n)).val = 1:=by
 show 1 % n = 1
 exact Nat.mod_eq_of_lt hn.1

theorem ne_one (hn : Prime n) : (0 : Fin n) ≠ 1:=by
 intro h
 have:=congrArg Fin.val h;rw [val_one hn,val_zero] at this
 omega

theorem zero_or (hn : Prime n) {a b : Fin n} (h : a * b = 0) : a = 0 ∨ b = 0:=by
 have h1 : a.val * b.val % n = 0:=by rw [← val_mul,h]; exact val_zero
 have z : ∀ c : Fin n,n ∣ c.val → c = 0:=fun c hc=>by
  apply Fin.ext
  rw [val_zero];exact Nat.eq_zero_of_dvd_of_lt hc c.isLt
 rcases hn.dvd_mul (Nat.dvd_of_mod_eq_zero h1) with h2 | h2
 ·exact .inl (z a h2)
 ·exact .inr (z b h2)

theorem mul_ne (hn : Prime n) {a b : Fin n} (ha : a ≠ 0) (hb : b ≠ 0) : a * b ≠ 0:=fun h=>by
 rcases zero_or hn h with h | h
 ·exact ha h
 ·exact hb h

def fpow (a : Fin n) : Nat → Fin n
  | 0=>1
  | k + 1=>fpow a k * a

theorem fpow_zero (a : Fin n) : fpow a 0 = 1:=rfl
theorem fpow_succ (a : Fin n) (k : Nat) : fpow a (k + 1) = fpow a k * a:=rfl
theorem fpow_add (a : Fin n) (j k : Nat) : fpow a (j + k) = fpow a j * fpow a k:=by
 induction k with
 | zero=>rw [Nat.add_zero,fpow_zero]; grind
 | succ k ih=>rw [Nat.add_succ,fpow_succ,fpow_succ,ih]; grind
theorem fpow_one (a : Fin n) : fpow a 1 = a:=by rw [fpow_succ,fpow_zero]; grind
theorem one_fpow (k : Nat) : fpow (1 : Fin n) k = 1:=by
 induction k with
 | zero=>rfl
 | succ k ih=>rw [fpow_succ,ih]; grind
theorem zero_fpow {k : Nat} (h : 0 < k) : fpow (0 : Fin n) k = 0:=by
 obtain ⟨j,rfl⟩ : ∃ j,k = j + 1:=⟨k - 1,by omega⟩;rw [fpow_succ]; grind
theorem fpow_mul (a : Fin n) (j k : Nat) : fpow a (j * k) = fpow (fpow a j) k:=by
 induction k with
 | zero=>rfl
 | succ k ih=>rw [Nat.mul_succ,fpow_add,fpow_succ,ih]
theorem mul_fpow (a b : Fin n) (k : Nat) : fpow (a * b) k = fpow a k * fpow b k:=by
 induction k with
 | zero=>rw [fpow_zero,fpow_zero,fpow_zero]; grind
 | succ k ih=>rw [fpow_succ,fpow_succ,fpow_succ,ih]; grind
theorem fpow_val (hn : Prime n) (a : Fin n) (k : Nat) : (fpow a k).val = a.val ^ k % n:=by
 induction k with
 | zero=>rw [fpow_zero,val_one hn,Nat.pow_zero,Nat.mod_eq_of_lt hn.1]
 | succ k ih=>rw [fpow_succ,val_mul,ih,Nat.pow_succ,Nat.mod_mul_mod]

theorem fpow_fermat (hn : Prime n) {a : Fin n} (ha : a ≠ 0) : fpow a (n - 1) = 1:=by
 apply Fin.ext
 rw [fpow_val hn,val_one hn]
 apply fermat hn
 intro hd
 apply ha
 apply Fin.ext
 rw [val_zero];exact Nat.eq_zero_of_dvd_of_lt hd a.isLt

def finv (a : Fin n) : Fin n:=fpow a (n - 2)

theorem mul_finv (hn : Prime n) {a : Fin n} (ha : a ≠ 0) : a * finv a = 1:=by
 have h:=fpow_fermat hn ha
 have h2 : n - 1 = (n - 2) + 1:=by have:=hn.1; omega
 rw [h2,fpow_succ] at h
 unfold finv
 rw [← h]; grind

theorem cancel (hn : Prime n) {a b c : Fin n} (hc : c ≠ 0) (h : a * c = b * c) : a = b:=by
 have h1:=mul_finv hn hc
 have : a * c * finv c = b * c * finv c:=by rw [h]
 grind

theorem finv_of (hn : Prime n) {a b : Fin n} (h : a * b = 1) : finv a = b:=by
 have ha : a ≠ 0:=by
  rintro rfl
  exact ne_one hn (by rw [← h]; grind)
 apply cancel hn ha
 have:=mul_finv hn ha
 grind

theorem root_or (hn : Prime n) {a b : Fin n} (h : a * a = b * b) : a = b ∨ a = -b:=by
 have : (a - b) * (a + b) = 0:=by grind
 rcases zero_or hn this with h | h
 ·left; grind
 ·right; grind

end
end Nums

namespace Nums

theorem Ed.closed {n : Nat} [NeZero n] (x1 y1 x2 y2 d : Fin n) (h1 : y1*y1 - x1*x1 = 1 + d*x1*x1*y1*y1) (h2 : y2*y2 - x2*x2 = 1 + d*x2*x2*y2*y2) :
  (y1*y2+x1*x2)*(y1*y2+x1*x2)*(1+d*x1*x2*y1*y2)*(1+d*x1*x2*y1*y2) - (x1*y2+y1*x2)*(x1*y2+y1*x2)*(1-d*x1*x2*y1*y2)*(1-d*x1*x2*y1*y2)
   = (1+d*x1*x2*y1*y2)*(1+d*x1*x2*y1*y2)*(1-d*x1*x2*y1*y2)*(1-d*x1*x2*y1*y2) + d*(y1*y2+x1*x2)*(y1*y2+x1*x2)*(x1*y2+y1*x2)*(x1*y2+y1*x2):=by grind

set_option maxHeartbeats 4000000 in
theorem Ed.assoc_x {n : Nat} [NeZero n] (x1 y1 x2 y2 x3 y3 d : Fin n) (h1 : y1*y1 - x1*x1 = 1 + d*x1*x1*y1*y1) (h2 : y2*y2 - x2*x2 = 1 + d*x2*x2*y2*y2) (h3 : y3*y3 - x3*x3 = 1 + d*x3*x3*y3*y3) :
 ((x1*y2+y1*x2)*(1-d*x1*x2*y1*y2)*y3 + (y1*y2+x1*x2)*(1+d*x1*x2*y1*y2)*x3) * ((1+d*x2*x3*y2*y3)*(1-d*x2*x3*y2*y3) + d*x1*y1*(x2*y3+y2*x3)*(y2*y3+x2*x3))
 = (x1*(y2*y3+x2*x3)*(1+d*x2*x3*y2*y3) + y1*(x2*y3+y2*x3)*(1-d*x2*x3*y2*y3)) * ((1+d*x1*x2*y1*y2)*(1-d*x1*x2*y1*y2) + d*(x1*y2+y1*x2)*(y1*y2+x1*x2)*x3*y3):=by grind

set_option maxHeartbeats 4000000 in
theorem Ed.assoc_y {n : Nat} [NeZero n] (x1 y1 x2 y2 x3 y3 d : Fin n) (h1 : y1*y1 - x1*x1 = 1 + d*x1*x1*y1*y1) (h2 : y2*y2 - x2*x2 = 1 + d*x2*x2*y2*y2) (h3 : y3*y3 - x3*x3 = 1 + d*x3*x3*y3*y3) :
 ((y1*y2+x1*x2)*(1+d*x1*x2*y1*y2)*y3 + (x1*y2+y1*x2)*(1-d*x1*x2*y1*y2)*x3) * ((1+d*x2*x3*y2*y3)*(1-d*x2*x3*y2*y3) - d*x1*y1*(x2*y3+y2*x3)*(y2*y3+x2*x3))
 = (y1*(y2*y3+x2*x3)*(1+d*x2*x3*y2*y3) + x1*(x2*y3+y2*x3)*(1-d*x2*x3*y2*y3)) * ((1+d*x1*x2*y1*y2)*(1-d*x1*x2*y1*y2) - d*(x1*y2+y1*x2)*(y1*y2+x1*x2)*x3*y3):=by grind

theorem Ed.key {n : Nat} [NeZero n] {X1 Y1 X2 Y2 D e s : Fin n} (h1 : X1*X1 + Y1*Y1 = 1 + D*X1*X1*Y1*Y1) (h2 : X2*X2 + Y2*Y2 = 1 + D*X2*X2*Y2*Y2) (h : D*X1*X2*Y1*Y2 = e) (he : e * e = 1) (hs : s * s = 1) :
  (X1 + s*e*Y1) * (X1 + s*e*Y1) = D * ((X1*Y1*(X2+s*Y2)) * (X1*Y1*(X2+s*Y2))):=by
 have l : (X1 + s*e*Y1) * (X1 + s*e*Y1) = X1*X1 + (s*s)*(e*e)*(Y1*Y1) + 2*s*e*X1*Y1:=by grind only
 have r : D * ((X1*Y1*(X2+s*Y2)) * (X1*Y1*(X2+s*Y2))) = D*X1*X1*Y1*Y1*(X2*X2 + (s*s)*(Y2*Y2)) + 2*s*(D*X1*X2*Y1*Y2)*X1*Y1:=by grind only
 rw [l,r,hs,he,h]
 have e1 : (1 : Fin n) * 1 * (Y1*Y1) = Y1 * Y1:=by grind only
 have e2 : (1 : Fin n) * (Y2*Y2) = Y2 * Y2:=by grind only
 have e3 : D*X1*X1*Y1*Y1*(1 + D*X2*X2*Y2*Y2) = D*X1*X1*Y1*Y1 + (D*X1*X2*Y1*Y2) * (D*X1*X2*Y1*Y2):=by grind only
 rw [e1,e2,h1,h2,e3,h,he]
 grind only

section
variable {n : Nat} [NeZero n]

structure Ed.Pt (n : Nat) where
  x : Fin n
  y : Fin n

structure Ed.Good (n : Nat) [NeZero n] (d : Fin n) : Prop where
  pr : Prime n
  two : (2 : Fin n) ≠ 0
  i : ∃ i : Fin n,i * i = -1
  d : ∀ t : Fin n,t * t ≠ d

namespace Ed
variable {d : Fin n}

def On (d : Fin n) (P : Pt n) : Prop:=P.y*P.y - P.x*P.x = 1 + d*P.x*P.x*P.y*P.y

theorem complete (g : Good n d) {x1 y1 x2 y2 e : Fin n} (h1 : y1*y1 - x1*x1 = 1 + d*x1*x1*y1*y1) (h2 : y2*y2 - x2*x2 = 1 + d*x2*x2*y2*y2) (he : e * e = 1) :
  d*x1*x2*y1*y2 ≠ e:=by
 intro h
 obtain ⟨i,hi⟩:=g.i
 have e0 : e ≠ 0:=by rintro rfl; exact ne_one g.pr (by grind only)
 have hx1 : x1 ≠ 0:=by rintro rfl; exact e0 (by grind only)
 have hy1 : y1 ≠ 0:=by rintro rfl; exact e0 (by grind only)
 have hx2 : x2 ≠ 0:=by rintro rfl; exact e0 (by grind only)
 have hi0 : i ≠ 0:=by
  rintro rfl
  exact ne_one g.pr (by grind only)
 have g1 : (i*x1)*(i*x1) + y1*y1 = 1 + (-d)*(i*x1)*(i*x1)*y1*y1:=by
  have a : (i*x1)*(i*x1) + y1*y1 = (i*i)*(x1*x1) + y1*y1:=by grind only
  have b : 1 + (-d)*(i*x1)*(i*x1)*y1*y1 = 1 + (-d)*(i*i)*(x1*x1)*y1*y1:=by grind only
  rw [a,b,hi]
  grind only
 have g2 : (i*x2)*(i*x2) + y2*y2 = 1 + (-d)*(i*x2)*(i*x2)*y2*y2:=by
  have a : (i*x2)*(i*x2) + y2*y2 = (i*i)*(x2*x2) + y2*y2:=by grind only
  have b : 1 + (-d)*(i*x2)*(i*x2)*y2*y2 = 1 + (-d)*(i*i)*(x2*x2)*y2*y2:=by grind only
  rw [a,b,hi]
  grind only
 have g3 : (-d)*(i*x1)*(i*x2)*y1*y2 = e:=by
  have a : (-d)*(i*x1)*(i*x2)*y1*y2 = (-d)*(i*i)*x1*x2*y1*y2:=by grind only
  rw [a,hi,← h]
  grind only
 have key : ∀ s : Fin n,s * s = 1 → i*x2 + s*y2 = 0:=by
  intro s hs
  by_cases hz : i*x2 + s*y2 = 0
  ·exact hz
  exfalso
  have hw : i*x1*y1*(i*x2+s*y2) ≠ 0:=mul_ne g.pr (mul_ne g.pr (mul_ne g.pr hi0 hx1) hy1) hz;have hm:=mul_finv g.pr hw;have hk:=Ed.key g1 g2 g3 he hs;generalize i*x1*y1*(i*x2+s*y2) = w at hm hk;generalize i*x1 + s*e*y1 = v at hk;refine g.d (i * (v * finv w)) ?_
  have a : i * (v * finv w) * (i * (v * finv w)) = (i*i)*(v*v)*(finv w)*(finv w):=by grind only
  have b : (-1) * ((-d) * (w*w)) * finv w * finv w = d * (w * finv w) * (w * finv w):=by grind only
  rw [a,hi,hk,b,hm]
  grind only
 have k1:=key 1 (by grind only);have k2:=key (-1) (by grind only)
 have : (2 : Fin n) * (i * x2) = 0:=by grind only
 rcases zero_or g.pr this with h3 | h3
 ·exact g.two h3
 ·exact mul_ne g.pr hi0 hx2 h3

end Ed
end
end Nums
/-
PLAIN NUMBERS: the sums of the curve's points are a group; multiples. No program is imported.
PLAIN NUMBERS: multiples of the curve's points; the sum in coordinates over one z. No program is imported.
PLAIN NUMBERS: p = 2^255 - 19: which numbers are squares, and their roots; the curve's d. No program is imported.
-/
namespace Nums
namespace Ed
variable {n : Nat} [NeZero n] {d : Fin n}

def kk (d : Fin n) (P Q : Pt n) : Fin n:=d * P.x * Q.x * P.y * Q.y

theorem plus_ne (g : Good n d) {P Q : Pt n} (hP : On d P) (hQ : On d Q) : 1 + kk d P Q ≠ 0:=fun h =>
 complete g hP hQ (e := -1) (by grind only) (by unfold kk at h; grind only)

theorem minus_ne (g : Good n d) {P Q : Pt n} (hP : On d P) (hQ : On d Q) : 1 - kk d P Q ≠ 0:=fun h =>
 complete g hP hQ (e:=1) (by grind only) (by unfold kk at h; grind only)

def add (d : Fin n) (P Q : Pt n) : Pt n :=
  ⟨(P.x*Q.y + P.y*Q.x) * finv (1 + kk d P Q),(P.y*Q.y + P.x*Q.x) * finv (1 - kk d P Q)⟩

def zero : Pt n:=⟨0,1⟩
def neg (P : Pt n) : Pt n:=⟨-P.x,P.y⟩

theorem on_zero : On d (zero : Pt n):=by
 show (1 : Fin n) * 1 - 0 * 0 = 1 + d * 0 * 0 * 1 * 1
 grind only

theorem on_neg {P : Pt n} (h : On d P) : On d (neg P):=by
 unfold On neg at *
 show P.y * P.y - -P.x * -P.x = 1 + d * -P.x * -P.x * P.y * P.y
 grind only

theorem add_x (g : Good n d) {P Q : Pt n} (hP : On d P) (hQ : On d Q) : (add d P Q).x * (1 + kk d P Q) = P.x*Q.y + P.y*Q.x:=by
 have:=mul_finv g.pr (plus_ne g hP hQ)
 show (P.x*Q.y + P.y*Q.x) * finv (1 + kk d P Q) * (1 + kk d P Q) = _
 generalize finv (1 + kk d P Q) = u at *;generalize 1 + kk d P Q = v at *
 have a : (P.x*Q.y + P.y*Q.x) * u * v = (P.x*Q.y + P.y*Q.x) * (v * u):=by grind only
 rw [a,this]
 grind only

theorem add_y (g : Good n d) {P Q : Pt n} (hP : On d P) (hQ : On d Q) : (add d P Q).y * (1 - kk d P Q) = P.y*Q.y + P.x*Q.x:=by
 have:=mul_finv g.pr (minus_ne g hP hQ)
 show (P.y*Q.y + P.x*Q.x) * finv (1 - kk d P Q) * (1 - kk d P Q) = _
 generalize finv (1 - kk d P Q) = u at *;generalize 1 - kk d P Q = v at *
 have a : (P.y*Q.y + P.x*Q.x) * u * v = (P.y*Q.y + P.x*Q.x) * (v * u):=by grind only
 rw [a,this]
 grind only

theorem on_add (g : Good n d) {P Q : Pt n} (hP : On d P) (hQ : On d Q) : On d (add d P Q):=by
 have hx:=add_x g hP hQ;have hy:=add_y g hP hQ;have h1:=plus_ne g hP hQ;have h2:=minus_ne g hP hQ;have c:=closed P.x P.y Q.x Q.y d hP hQ;have k1 : (1 : Fin n) + d*P.x*Q.x*P.y*Q.y = 1 + kk d P Q:=rfl;have k2 : (1 : Fin n) - d*P.x*Q.x*P.y*Q.y = 1 - kk d P Q:=rfl;rw [k1,k2] at c
 show (add d P Q).y * (add d P Q).y - (add d P Q).x * (add d P Q).x = 1 + d * (add d P Q).x * (add d P Q).x * (add d P Q).y * (add d P Q).y
 rw [← hx,← hy] at c;generalize (add d P Q).x = x at *;generalize (add d P Q).y = y at *;generalize 1 + kk d P Q = u at *;generalize 1 - kk d P Q = v at *
 apply cancel g.pr (mul_ne g.pr (mul_ne g.pr h1 h1) (mul_ne g.pr h2 h2))
 clear hP hQ hx hy
 grind only

theorem add_comm (P Q : Pt n) : add d P Q = add d Q P:=by
 unfold add kk
 have a : d * P.x * Q.x * P.y * Q.y = d * Q.x * P.x * Q.y * P.y:=by grind only
 have b : P.x*Q.y + P.y*Q.x = Q.x*P.y + Q.y*P.x:=by grind only
 have c : P.y*Q.y + P.x*Q.x = Q.y*P.y + Q.x*P.x:=by grind only
 rw [a,b,c]

theorem zero_add (g : Good n d) (P : Pt n) : add d zero P = P:=by
 unfold add kk zero
 have a : d * 0 * P.x * 1 * P.y = 0:=by grind only
 have f1 : finv (1 + 0 : Fin n) = 1:=finv_of g.pr (by grind only);have f2 : finv (1 - 0 : Fin n) = 1:=finv_of g.pr (by grind only)
 show Pt.mk ((0 * P.y + 1 * P.x) * finv (1 + d * 0 * P.x * 1 * P.y)) ((1 * P.y + 0 * P.x) * finv (1 - d * 0 * P.x * 1 * P.y)) = P
 rw [a,f1,f2]
 have b : (0 * P.y + 1 * P.x) * 1 = P.x:=by grind only
 have c : (1 * P.y + 0 * P.x) * 1 = P.y:=by grind only
 rw [b,c]

theorem add_zero (g : Good n d) (P : Pt n) : add d P zero = P:=by rw [add_comm,zero_add g]

theorem add_neg (g : Good n d) {P : Pt n} (hP : On d P) : add d P (neg P) = zero:=by
 have hm:=minus_ne g hP (on_neg hP);have:=mul_finv g.pr hm
 unfold add zero
 have a : (P.x * (neg P).y + P.y * (neg P).x) = 0:=by show P.x * P.y + P.y * -P.x = 0; grind only
 have b : P.y * (neg P).y + P.x * (neg P).x = 1 - kk d P (neg P):=by
  show P.y * P.y + P.x * -P.x = 1 - d * P.x * -P.x * P.y * P.y
  unfold On at hP
  grind only
 rw [a,b,this]
 have c : 0 * finv (1 + kk d P (neg P)) = 0:=by grind only
 rw [c]

theorem re_xl (sx sy rx ry px py tx ty a b e f d : Fin n) : (sx * a * b * ry + sy * b * a * rx) * (e * f + d * px * py * (tx * e) * (ty * f))
   = (a * b * e * f) * ((sx * ry + sy * rx) * (1 + d * px * tx * py * ty)):=by grind only
theorem re_xr (sx sy rx ry px py tx ty a b e f d : Fin n) : (px * (ty * f) * e + py * (tx * e) * f) * (a * b + d * (sx * a) * (sy * b) * rx * ry)
   = (a * b * e * f) * ((px * ty + py * tx) * (1 + d * sx * rx * sy * ry)):=by grind only
theorem re_yl (sx sy rx ry px py tx ty a b e f d : Fin n) : (sy * b * a * ry + sx * a * b * rx) * (e * f - d * px * py * (tx * e) * (ty * f))
   = (a * b * e * f) * ((sy * ry + sx * rx) * (1 - d * px * tx * py * ty)):=by grind only
theorem re_yr (sx sy rx ry px py tx ty a b e f d : Fin n) : (py * (ty * f) * e + px * (tx * e) * f) * (a * b - d * (sx * a) * (sy * b) * rx * ry)
   = (a * b * e * f) * ((py * ty + px * tx) * (1 - d * sx * rx * sy * ry)):=by grind only
theorem re_c (u z w v : Fin n) : u * (z * (w * v)) = z * (u * w * v):=by grind only
theorem re_d (t z w v : Fin n) : t * (z * (w * v)) = z * (t * v * w):=by grind only

set_option maxHeartbeats 4000000 in
theorem add_assoc (g : Good n d) {P Q R : Pt n} (hP : On d P) (hQ : On d Q) (hR : On d R) : add d (add d P Q) R = add d P (add d Q R):=by
 have hPQ:=on_add g hP hQ;have hQR:=on_add g hQ hR;have x1:=add_x g hP hQ;have y1:=add_y g hP hQ;have p1:=plus_ne g hP hQ;have m1:=minus_ne g hP hQ;have x2:=add_x g hQ hR;have y2:=add_y g hQ hR;have p2:=plus_ne g hQ hR;have m2:=minus_ne g hQ hR;have x3:=add_x g hPQ hR;have y3:=add_y g hPQ hR;have p3:=plus_ne g hPQ hR;have m3:=minus_ne g hPQ hR;have x4:=add_x g hP hQR;have y4:=add_y g hP hQR;have p4:=plus_ne g hP hQR;have m4:=minus_ne g hP hQR;have ax:=assoc_x P.x P.y Q.x Q.y R.x R.y d hP hQ hR;have ay:=assoc_y P.x P.y Q.x Q.y R.x R.y d hP hQ hR;clear hP hQ hR hPQ hQR;have c1 : (1 : Fin n) + d*P.x*Q.x*P.y*Q.y = 1 + kk d P Q:=rfl;have c2 : (1 : Fin n) - d*P.x*Q.x*P.y*Q.y = 1 - kk d P Q:=rfl;have c3 : (1 : Fin n) + d*Q.x*R.x*Q.y*R.y = 1 + kk d Q R:=rfl;have c4 : (1 : Fin n) - d*Q.x*R.x*Q.y*R.y = 1 - kk d Q R:=rfl;rw [c1,c2,c3,c4,← x1,← y1,← x2,← y2] at ax ay
 have ex : (add d (add d P Q) R).x = (add d P (add d Q R)).x:=by
  generalize add d (add d P Q) R = U at *;generalize add d P (add d Q R) = V at *
  unfold kk at x3 p3 x4 p4
  generalize add d P Q = S at *;generalize add d Q R = T at *;generalize 1 + kk d P Q = a at *;generalize 1 - kk d P Q = b at *;generalize 1 + kk d Q R = e at *;generalize 1 - kk d Q R = f at *
  -- ax: (S.x a b R.y + S.y b a R.x) (e f + d P.x P.y (T.x e)(T.y f)) = (P.x T.y f e + P.y T.x e f) (a b + d (S.x a)(S.y b) R.x R.y)
  rw [re_xl,re_xr,← x3,← x4] at ax;have hne:=mul_ne g.pr (mul_ne g.pr (mul_ne g.pr p1 m1) p2) m2
  apply cancel g.pr (mul_ne g.pr hne (mul_ne g.pr p3 p4))
  clear x1 y1 x2 y2 x3 y3 x4 y4 ay c1 c2 c3 c4 hne p1 p2 m1 m2 m3 m4;generalize a * b * e * f = z at *;generalize 1 + d * S.x * R.x * S.y * R.y = w at *;generalize 1 + d * P.x * T.x * P.y * T.y = v at *;generalize U.x = u at *;generalize V.x = t at *;clear g p3 p4;rw [re_c,re_d,ax]
 have ey : (add d (add d P Q) R).y = (add d P (add d Q R)).y:=by
  generalize add d (add d P Q) R = U at *;generalize add d P (add d Q R) = V at *
  unfold kk at y3 m3 y4 m4
  generalize add d P Q = S at *;generalize add d Q R = T at *;generalize 1 + kk d P Q = a at *;generalize 1 - kk d P Q = b at *;generalize 1 + kk d Q R = e at *;generalize 1 - kk d Q R = f at *;rw [re_yl,re_yr,← y3,← y4] at ay;have hne:=mul_ne g.pr (mul_ne g.pr (mul_ne g.pr p1 m1) p2) m2
  apply cancel g.pr (mul_ne g.pr hne (mul_ne g.pr m3 m4))
  clear x1 y1 x2 y2 x3 y3 x4 y4 ax c1 c2 c3 c4 hne p1 p2 m1 m2 p3 p4;generalize a * b * e * f = z at *;generalize 1 - d * S.x * R.x * S.y * R.y = w at *;generalize 1 - d * P.x * T.x * P.y * T.y = v at *;generalize U.y = u at *;generalize V.y = t at *;clear g m3 m4;rw [re_c,re_d,ay]
 have eta : ∀ A B : Pt n,A.x = B.x → A.y = B.y → A = B:=by
  rintro ⟨_,_⟩ ⟨_,_⟩ h1 h2
  simp only at h1 h2;rw [h1,h2]
 exact eta _ _ ex ey

end Ed
end Nums

namespace Nums
namespace Ed
variable {n : Nat} [NeZero n] {d : Fin n}

def mul (d : Fin n) : Nat → Pt n → Pt n
  | 0,_=>zero
  | k + 1,P=>add d (mul d k P) P

theorem mul_0 (P : Pt n) : mul d 0 P = zero:=rfl
theorem mul_succ (k : Nat) (P : Pt n) : mul d (k + 1) P = add d (mul d k P) P:=rfl

theorem on_mul (g : Good n d) {P : Pt n} (hP : On d P) (k : Nat) : On d (mul d k P):=by
 induction k with
 | zero=>exact on_zero
 | succ k ih=>exact on_add g ih hP

theorem mul_1 (g : Good n d) (P : Pt n) : mul d 1 P = P:=by rw [mul_succ,mul_0,zero_add g]

theorem mul_2 (g : Good n d) (P : Pt n) : mul d 2 P = add d P P:=by rw [mul_succ,mul_1 g]

theorem mul_add (g : Good n d) {P : Pt n} (hP : On d P) (j k : Nat) : mul d (j + k) P = add d (mul d j P) (mul d k P):=by
 induction k with
 | zero=>rw [Nat.add_zero,mul_0,add_zero g]
 | succ k ih=>rw [← Nat.add_assoc,mul_succ,mul_succ,ih,add_assoc g (on_mul g hP j) (on_mul g hP k) hP]

theorem mul_zero (g : Good n d) (k : Nat) : mul d k (zero : Pt n) = zero:=by
 induction k with
 | zero=>rfl
 | succ k ih=>rw [mul_succ,ih,zero_add g]

theorem mul_mul (g : Good n d) {P : Pt n} (hP : On d P) (j k : Nat) : mul d (j * k) P = mul d k (mul d j P):=by
 induction k with
 | zero=>rw [Nat.mul_zero,mul_0,mul_0]
 | succ k ih=>rw [Nat.mul_succ,mul_add g hP,ih,mul_succ]

theorem add_swap (g : Good n d) {A B C D : Pt n} (hA : On d A) (hB : On d B) (hC : On d C) (hD : On d D) :
  add d (add d A B) (add d C D) = add d (add d A C) (add d B D):=by
 rw [add_assoc g hA hB (on_add g hC hD),add_assoc g hA hC (on_add g hB hD),← add_assoc g hB hC hD,← add_assoc g hC hB hD,add_comm B C]

theorem neg_of (g : Good n d) {P Q : Pt n} (hP : On d P) (hQ : On d Q) (h : add d P Q = zero) : Q = neg P:=by
 have a : add d (neg P) (add d P Q) = Q:=by
  rw [← add_assoc g (on_neg hP) hP hQ,add_comm (neg P) P,add_neg g hP,zero_add g]
 rw [h,add_zero g] at a;exact a.symm

theorem neg_zero : neg (zero : Pt n) = zero:=by
 show Pt.mk (-0 : Fin n) 1 = Pt.mk 0 1
 have : (-0 : Fin n) = 0:=by grind only
 rw [this]

theorem neg_neg (P : Pt n) : neg (neg P) = P:=by
 show Pt.mk (- -P.x) P.y = P
 have : - -P.x = P.x:=by grind only
 rw [this]

theorem neg_add (g : Good n d) {P Q : Pt n} (hP : On d P) (hQ : On d Q) : neg (add d P Q) = add d (neg P) (neg Q):=by
 symm
 apply neg_of g (on_add g hP hQ) (on_add g (on_neg hP) (on_neg hQ))
 rw [add_swap g hP hQ (on_neg hP) (on_neg hQ),add_neg g hP,add_neg g hQ,zero_add g]

theorem mul_neg (g : Good n d) {P : Pt n} (hP : On d P) (k : Nat) : mul d k (neg P) = neg (mul d k P):=by
 induction k with
 | zero=>rw [mul_0,mul_0,neg_zero]
 | succ k ih=>rw [mul_succ,mul_succ,ih,neg_add g (on_mul g hP k) hP]

theorem mul_mod (g : Good n d) {P : Pt n} (hP : On d P) {L : Nat} (hL : mul d L P = zero) (k : Nat) : mul d k P = mul d (k % L) P:=by
 have h:=mul_add g hP (L * (k / L)) (k % L);rw [mul_mul g hP,hL,mul_zero g,zero_add g,Nat.div_add_mod] at h;exact h

theorem mul_times (g : Good n d) {P : Pt n} (hP : On d P) (a b : Nat) : mul d a (mul d b P) = mul d (a * b) P:=by
 rw [Nat.mul_comm,mul_mul g hP]

theorem zero_of (g : Good n d) {P : Pt n} (hP : On d P) {j k a b : Nat} (hj : mul d j P = zero) (hk : mul d k P = zero) (h : j * a = k * b + 1) : P = zero:=by
 have h1 : mul d (j * a) P = zero:=by rw [mul_mul g hP,hj,mul_zero g]
 rw [h,mul_add g hP,mul_mul g hP,hk,mul_zero g,zero_add g,mul_1 g] at h1;exact h1

structure Rep (X Y Z : Fin n) (P : Pt n) : Prop where
  z : Z ≠ 0
  x : X = P.x * Z
  y : Y = P.y * Z

theorem Rep.zero (hn : Prime n) : Rep (0 : Fin n) 1 1 zero where
 z:=fun h=>ne_one hn h.symm
 x:=by show (0 : Fin n) = 0 * 1; grind only
 y:=by show (1 : Fin n) = 1 * 1; grind only

theorem Rep.neg {X Y Z : Fin n} {P : Pt n} (r : Rep X Y Z P) : Rep (-X) Y Z (neg P) where
 z:=r.z
 x:=by
  rw [r.x]
  show -(P.x * Z) = -P.x * Z
  grind only
 y:=r.y

theorem kk_rep {X1 Y1 Z1 X2 Y2 Z2 : Fin n} {P Q : Pt n} (r : Rep X1 Y1 Z1 P) (s : Rep X2 Y2 Z2 Q) :
  d * ((X1 * X2) * (Y1 * Y2)) = kk d P Q * ((Z1 * Z2) * (Z1 * Z2)):=by
 rw [r.x,r.y,s.x,s.y]
 unfold kk
 grind only

theorem Rep.add (g : Good n d) {X1 Y1 Z1 X2 Y2 Z2 : Fin n} {P Q : Pt n} (hP : On d P) (hQ : On d Q) (r : Rep X1 Y1 Z1 P) (s : Rep X2 Y2 Z2 Q)
  {z m : Fin n} (hz : z = Z1 * Z2) (hm : m = d * ((X1 * X2) * (Y1 * Y2))) :
  Rep (((X1 * Y2 + Y1 * X2) * z) * (z * z - m)) (((Y1 * Y2 + X1 * X2) * z) * (z * z + m)) ((z * z + m) * (z * z - m)) (add d P Q):=by
 have hzn : z ≠ 0:=hz ▸ mul_ne g.pr r.z s.z
 have hm2 : m = kk d P Q * (z * z):=by rw [hm,hz,kk_rep r s]
 have p1 : z * z + m = (1 + kk d P Q) * (z * z):=by rw [hm2]; grind only
 have p2 : z * z - m = (1 - kk d P Q) * (z * z):=by rw [hm2]; grind only
 have nx : X1 * Y2 + Y1 * X2 = (P.x * Q.y + P.y * Q.x) * z:=by rw [r.x,r.y,s.x,s.y,hz]; grind only
 have ny : Y1 * Y2 + X1 * X2 = (P.y * Q.y + P.x * Q.x) * z:=by rw [r.x,r.y,s.x,s.y,hz]; grind only
 have hx:=add_x g hP hQ;have hy:=add_y g hP hQ;have n1:=plus_ne g hP hQ;have n2:=minus_ne g hP hQ
 constructor
 ·rw [p1,p2]
  exact mul_ne g.pr (mul_ne g.pr n1 (mul_ne g.pr hzn hzn)) (mul_ne g.pr n2 (mul_ne g.pr hzn hzn))
 ·rw [p1,p2,nx,← hx]
  grind only
 ·rw [p1,p2,ny,← hy]
  grind only

theorem Rep.same (hn : Prime n) {X Y Z : Fin n} {P Q : Pt n} (r : Rep X Y Z P) (s : Rep X Y Z Q) : P = Q:=by
 have hx : P.x = Q.x:=cancel hn r.z (r.x.symm.trans s.x);have hy : P.y = Q.y:=cancel hn r.z (r.y.symm.trans s.y)
 cases P
 cases Q
 simp only at hx hy;rw [hx,hy]

theorem Rep.aff (hn : Prime n) {X Y Z : Fin n} {P : Pt n} (r : Rep X Y Z P) : X * finv Z = P.x ∧ Y * finv Z = P.y:=by
 have h:=mul_finv hn r.z
 have a : ∀ u : Fin n,u * Z * finv Z = u * (Z * finv Z):=fun u=>by grind only
 have b : ∀ u : Fin n,u * 1 = u:=fun u=>by grind only
 rw [r.x,r.y,a,a,h,b,b];exact ⟨rfl,rfl⟩

end Ed
end Nums

namespace Nums

instance : NeZero p:=⟨by decide⟩
abbrev F:=Fin p
def fof (k : Nat) : F:=⟨k % p,Nat.mod_lt _ (by decide)⟩
theorem fof_val (k : Nat) : (fof k).val = k % p:=rfl
theorem fof_add (a b : Nat) : fof (a + b) = fof a + fof b:=by
 apply Fin.ext
 show (a + b) % p = (a % p + b % p) % p
 rw [← Nat.add_mod]
theorem fof_mul (a b : Nat) : fof (a * b) = fof a * fof b:=by
 apply Fin.ext
 show (a * b) % p = (a % p * (b % p)) % p
 rw [← Nat.mul_mod]
theorem fof_mod (a : Nat) : fof (a % p) = fof a:=by
 apply Fin.ext
 show a % p % p = a % p
 rw [Nat.mod_mod]
theorem fof_eq {a b : Nat} (h : a % p = b % p) : fof a = fof b:=Fin.ext h
theorem fof_zero : fof 0 = 0:=by
 apply Fin.ext
 show 0 % p = 0 % p
 rfl
theorem fof_one : fof 1 = 1:=by
 apply Fin.ext
 show 1 % p = 1 % p
 rfl
theorem fof_of (a : F) : fof a.val = a:=by
 apply Fin.ext
 exact Nat.mod_eq_of_lt a.isLt
theorem fof_sub {a b : Nat} (h : b ≤ a) : fof (a - b) = fof a - fof b:=by
 have : fof a = fof (a - b) + fof b:=by rw [← fof_add,Nat.sub_add_cancel h]
 rw [this];generalize fof (a - b) = u;generalize fof b = v
 grind only
theorem fof_pow (a k : Nat) : fof (a ^ k) = fpow (fof a) k:=by
 induction k with
 | zero=>exact fof_one
 | succ k ih=>rw [Nat.pow_succ,fof_mul,ih,fpow_succ]
theorem fof_pm {a e : Nat} (k : Nat) (h : e < 2 ^ k) : fpow (fof a) e = fof (pm p a k e):=by
 rw [pm_eq p a k e h,fof_mod,fof_pow]

def ph : Nat:=28948022309329048855892746252171976963317496166410141009864396001978282409974
def pq : Nat:=14474011154664524427946373126085988481658748083205070504932198000989141204987
def pe : Nat:=7237005577332262213973186563042994240829374041602535252466099000494570602494
theorem pq_two : pq * 2 = ph:=by decide
def im : F:=fpow (fof 2) pq
theorem im_im : im * im = -1:=by
 unfold im
 rw [← fpow_add,show pq + pq = ph from by decide,fof_pm 255 (by decide)];have : fof (pm p 2 255 ph) = fof (p - 1):=fof_eq (by decide +kernel);rw [this,fof_sub (by decide),fof_one,show fof p = 0 from fof_eq (a:=p) (b:=0) (by decide)];generalize (1 : F) = u
 grind only

theorem two_ne : (2 : F) ≠ 0:=by
 intro h
 have h1 : (2 : F).val = (0 : F).val:=by rw [h]
 revert h1
 decide

theorem euler_sq {a : F} (ha : a ≠ 0) : fpow (a * a) ph = 1:=by
 rw [mul_fpow,← fpow_add,show ph + ph = p - 1 from by decide];exact fpow_fermat prime_p ha

theorem euler_or {a : F} (ha : a ≠ 0) : fpow a ph = 1 ∨ fpow a ph = -1:=by
 have h:=fpow_fermat prime_p ha;rw [show p - 1 = ph + ph from by decide,fpow_add] at h
 have h1 : fpow a ph * fpow a ph = 1 * 1:=by rw [h]; grind only
 exact root_or prime_p h1

def cand (a : F) : F:=fpow a pe
theorem cand_sq (a : F) : cand a * cand a = fpow a pq * a:=by
 unfold cand
 rw [← fpow_add,show pe + pe = pq + 1 from by decide,fpow_succ]

theorem cand_zero : cand 0 = 0:=zero_fpow (by decide)

theorem root_of {w : F} (h : fpow w ph = 1) : cand w * cand w = w ∨ (cand w * im) * (cand w * im) = w:=by
 have h1 : fpow w pq * fpow w pq = 1 * 1:=by
  rw [← fpow_add,show pq + pq = ph from by decide,h]
  grind only
 have hc:=cand_sq w;have hi:=im_im
 rcases root_or prime_p h1 with h2 | h2
 ·left
  rw [hc,h2]
  grind only
 ·right
  rw [h2] at hc
  grind only

theorem no_root {w : F} (h0 : w ≠ 0) (h : fpow w ph ≠ 1) (x : F) : x * x ≠ w:=by
 rintro rfl
 apply h
 apply euler_sq
 rintro rfl
 exact h0 (by grind only)

theorem neg_val {a : F} (h : a ≠ 0) : (-a).val = p - a.val:=by
 have h1 : a.val ≠ 0:=fun h2=>h (Fin.ext h2);have h2:=a.isLt
 have h3 : fof (p - a.val) = -a:=by
  rw [fof_sub (by omega),fof_of,show fof p = 0 from fof_eq (a:=p) (b:=0) (by decide)]
  grind only
 rw [← h3,fof_val];exact Nat.mod_eq_of_lt (by omega)

theorem p_odd : p % 2 = 1:=by decide
theorem neg_odd {a : F} (h : a ≠ 0) : (-a).val % 2 = 1 - a.val % 2:=by
 rw [neg_val h];have h2:=a.isLt;have h3:=p_odd
 omega

def dn : Nat:=37095705934669439343138083508754565189542113879843219016388785533085940283555
def dd : F:=fof dn
theorem dd_def : dd = (0 - fof 121665) * finv (fof 121666):=by
 have h0 : fof 121666 ≠ 0:=fun h=>by
  have:=congrArg Fin.val h
  revert this
  decide
 have h : dd * fof 121666 = 0 - fof 121665:=by
  have h1 : fof (dn * 121666 + 121665) = 0:=fof_eq (a:=dn * 121666 + 121665) (b:=0) (by decide);rw [fof_add,fof_mul] at h1
  unfold dd
  generalize fof dn = u at *;generalize fof 121666 = v at *;generalize fof 121665 = w at *
  grind only
 rw [← h];have h2:=mul_finv prime_p h0;generalize fof 121666 = v at *;generalize finv v = w at *;generalize dd = u at *
 grind only

theorem dd_ne : dd ≠ 0:=fun h=>by
 have:=congrArg Fin.val h
 revert this
 decide

theorem dd_pow : fpow dd ph ≠ 1:=by
 unfold dd
 rw [fof_pm 255 (by decide)]
 intro h
 have:=congrArg Fin.val h
 revert this
 rw [fof_val]
 decide +kernel

theorem good : Ed.Good p dd where
 pr:=prime_p
 two:=two_ne
 i:=⟨im,im_im⟩
 d:=no_root dd_ne dd_pow

def bx : Nat:=15112221349535400772501151409588531511454012693041857206046113283949847762202
def bY : Nat:=46316835694926478169428394003475163141307993866256225615783033603165251855960
def base : Ed.Pt p:=⟨fof bx,fof bY⟩
theorem on_base : Ed.On dd base:=by
 show fof bY * fof bY - fof bx * fof bx = 1 + dd * fof bx * fof bx * fof bY * fof bY
 unfold dd
 have h : fof (bY * bY) = fof (bx * bx + (1 + dn * bx * bx * bY * bY)):=fof_eq (by decide +kernel);rw [fof_mul,fof_add,fof_add,fof_mul,fof_mul,fof_mul,fof_mul,fof_mul,fof_one] at h;rw [h];generalize fof bx = u;generalize fof bY = v;generalize fof dn = w
 grind only

end Nums
