/-
  SEVERAL TEXTS IN ONE: Copy, RegI, RegJ, FrW, FrA, RegK, Auto, FrC, Vs, Va, Vb.
-/
import Derived.Test.YtlcbhbahchiofaaGreatDoorMa
import Derived.Test.YtlcbhbahchiofaaGreatDoorMb
import Derived.Great.BuildSlice
import Derived.Lib.SlBytesConst
import Derived.Deep.MidRow
import Derived.Laws.Tables
/-
  REGIONS: 'copy(a[..], b[..])', where the order of the two slices is drawn.
-/
namespace Go.Proofs.YtlcbhbahchiofaaGreatDoor
open Go.RowKit Go.IntWalk

def cop (z : List UInt8) (off : Nat) (l : List UInt8) : List UInt8:=z.take off ++ (l ++ z.drop (off + l.length))
theorem cop_len {z l : List UInt8} {off : Nat} (h : off + l.length ≤ z.length) : (cop z off l).length = z.length:=by
 simp [cop]
 omega

def copyEnd (Q : Exit → Act → World → Prop) (w : World) (d s : Operand) (dst : Option Tmp) (a' : Act) : Prop :=
  ∃ (g off n c g2 c2 : Nat) (t t2 : TypeId) (z l : List UInt8),a'.eval d = .slice (some ⟨g,off,none⟩) n c ∧ a'.eval s = .slice (some ⟨g2,0,none⟩) l.length c2 ∧ Blk w g t (By z).toArray ∧ Blk w g2 t2 (By l).toArray ∧ l.length ≤ n ∧ off + l.length ≤ z.length ∧
    ∀ w',Up w w' → Q .normal (a'.put dst (goInt l.length)) (w'.setRow g (By (cop z off l)).toArray)
theorem size_u8 : (Tryz.prog.info? 5).map (·.size) = some 1:=by kernel_rfl
theorem reg_copy {Q : Exit → Act → World → Prop} {id : Nat} {a : Act} {w : World} {l : List Oper} {o : Oper} (n : Nat) (d s : Operand) (hos : l.drop n = [o]) (ho : o.op = .call { callee:=.builtin .copy,args:=#[d,s],argTypes:=#[22,22] }) (hg : o.guard = none)
  (hB : tailB l.toArray n 0 1 = true) (hQ : ∀ c a d v w,Q (.panic c) (a.put d v) w → Q (.panic c) a w) (hm : Tryz.prog.follows .mixedOrders = true)
  (h : wpB Tryz.prog l.toArray (Up w) (copyEnd Q w d s o.dst) (l.take n) a) : (Code.region id l.toArray true).wp Tryz.prog Q a w:=by
 have hn : n ≤ l.length:=by
  have h1:=congrArg List.length hos;simp only [List.length_drop,List.length_cons,List.length_nil] at h1
  omega
 refine region_B n (Up w) hn hm (by rw [hos]; exact hB) (fun _ _ h k=>h.step k) (Up.drew w) hQ ?_;rw [hos];refine wpB_mono (fun a' h' w' hw'=>?_) _ _ h;obtain ⟨g,off,n,c,g2,c2,t,t2,z,l,hd,hs,hz,hl,h1,h2,hk⟩:=h';have hb:=hw'.blk hz;have hb2:=hw'.blk hl;refine wpList_copy_own hg d s 22 22 ho 5 Tryz.underlying22 size_u8 g off n c ⟨g2,0,none⟩ l.length c2 hd hs (By z).toArray t hb (By l) (by rw [By_len]; exact (Nat.min_eq_left h1).symm) ?_ (by rw [By_len,List.size_toArray,By_len]; exact h2) (By_one l) ?_
 ·intro j v hv
  have hj : (Addr.mk g2 0 none).add j = ⟨g2,j,none⟩:=by
   unfold Addr.add
   by_cases h0 : j = 0
   ·subst h0; rfl
   ·simp [h0]
  rw [hj,hb2.cell j]
  simpa using hv
 ·have e : (By z).toArray.toList.take off ++ (By l ++ (By z).toArray.toList.drop (off + (By l).length)) = By (cop z off l):=by
   simp [cop,By]
  rw [e,By_len];exact hk w' hw'

theorem wpl_copy {ops : Array Oper} {rest : List Oper} {o : Oper} {a : Act} {w : World} {Q : Exit → Act → World → Prop} (d s : Operand) (hgd : o.guard = none) (ho : o.op = .call { callee:=.builtin .copy,args:=#[d,s],argTypes:=#[22,22] })
  (g off n c : Nat) (hd : a.eval d = .slice (some ⟨g,off,none⟩) n c) (P : Option Addr) (l : List UInt8) (c2 : Nat) (hs : a.eval s = .slice P l.length c2) (z : List UInt8) (t : Nat) (hz : Blk w g t (By z).toArray) (lo hi : Nat) (hl : BV w lo hi P l) (hn : off + n = z.length)
  (z' : List UInt8) (hz' : Go.RowKit.Hid (cop z off (l.take n) = z')) (m : Nat) (hm : Go.RowKit.Hid (min l.length n = m)) (h : wpList Tryz.prog ops Q rest (a.put o.dst (.int .i64 (m : Int))) (w.setRow g (By z').toArray)) : wpList Tryz.prog ops Q (o :: rest) a w:=by
 have e0:=hz'.out;have e1:=hm.out;subst e0;subst e1
 by_cases h0 : min l.length n = 0
 ·have ht : l.take n = []:=by
   rw [List.take_eq_nil_iff]
   rcases Nat.min_eq_zero_iff.1 h0 with h1 | h1
   ·exact .inr (List.eq_nil_of_length_eq_zero h1)
   ·exact .inl h1
  have e : cop z off (l.take n) = z:=by
   rw [ht]
   simp [cop]
  have e2 : w.setRow g (By z).toArray = w:=setRow_self w g _ t (0,0) hz;rw [e,e2,h0] at h;exact wpList_copy_nothing hgd d s 22 22 ho 5 Tryz.underlying22 size_u8 _ _ n c l.length c2 hd hs h0 h
 ·have hlp : 0 < l.length:=by omega
  obtain ⟨ad,rfl,_,_,hc⟩:=hl hlp
  have hlt : (By (l.take n)).length = Nat.min l.length n:=by
   rw [By_len,List.length_take];exact Nat.min_comm _ _
  refine wpList_copy_own hgd d s 22 22 ho 5 Tryz.underlying22 size_u8 g off n c ad l.length c2 hd hs (By z).toArray t hz (By (l.take n)) hlt ?_ (by rw [hlt,List.size_toArray,By_len,← hn]; exact Nat.add_le_add_left (Nat.min_le_right _ _) _) (By_one _) ?_
  ·intro j v hv
   obtain ⟨x,hx,rfl⟩:=By_at hv;refine hc j x ?_;rw [List.getElem?_take] at hx
   split at hx
   ·exact hx
   ·cases hx
  ·have e : (By z).toArray.toList.take off ++ (By (l.take n) ++ (By z).toArray.toList.drop (off + (By (l.take n)).length)) = By (cop z off (l.take n)):=by
    simp [cop,By]
   rw [e,hlt];exact h
end Go.Proofs.YtlcbhbahchiofaaGreatDoor
/-
  STEPS THAT MAKE MEMORY, over frames by what is known of them: slices of slices, calls whose answers lie in new memory, new variables; copies into a variable from any bytes.
-/
namespace Go.Proofs.YtlcbhbahchiofaaGreatDoor
open Go.RowKit Go.IntWalk

def z64 : List UInt8:=List.replicate 64 0
theorem z64_len : z64.length = 64:=List.length_replicate
/-! ### Bytes that are read -/
def SB (w : World) (v : Value) (l : List UInt8) : Prop:=∃ A c,v = .slice A l.length c ∧ SL w 0 w.heap.size A l c
def PT (w : World) (A : Option Addr) (ls : List (List UInt8)) : Prop:=Parts w w.heap.size A ls
theorem SB.later {w w' : World} {v : Value} {l : List UInt8} (h : SB w v l) (hb : Below w.heap.size w w') : SB w' v l:=by
 obtain ⟨A,c,e,h1⟩:=h;exact ⟨A,c,e,(h1.below hb (Nat.le_refl _)).more (Nat.le_refl _) hb.size⟩
theorem PT.later {w w' : World} {A : Option Addr} {ls : List (List UInt8)} (h : PT w A ls) (hb : Below w.heap.size w w') : PT w' A ls:=fun hl=>by
 obtain ⟨ad,e,h1,h2⟩:=h.below hb (Nat.le_refl _) hl;refine ⟨ad,e,Nat.lt_of_lt_of_le h1 hb.size,fun i l hi=>?_⟩;obtain ⟨A',c,h3,h4⟩:=h2 i l hi;exact ⟨A',c,h3,h4.more (Nat.le_refl _) hb.size⟩
theorem SB.nil (w : World) : SB w (.slice none 0 0) []:=⟨none,0,rfl,SL.nil _ _ _⟩
theorem SB.arr {w : World} {g t off n c : Nat} {z l : List UInt8} (h : Blk w g t (By z).toArray) (hl : (z.drop off).take n = l) (hn : l.length = n) (hc : n ≤ c) (hc2 : c ≤ 9223372036854775807) : SB w (.slice (some ⟨g,off,none⟩) n c) l:=by
 refine ⟨some ⟨g,off,none⟩,c,by rw [hn],by rw [hn]; exact hc,hc2,fun h=>(by cases h),fun _=>⟨_,rfl,Nat.zero_le _,h.lt,fun j x hx=>?_⟩⟩;rw [← hl,List.getElem?_take] at hx
 split at hx
 ·rw [List.getElem?_drop] at hx
  rw [Addr.add_mid,h.cell]
  simp [By,hx]
 ·cases hx
theorem SB.all {w : World} {g t n : Nat} {l : List UInt8} (h : Blk w g t (By l).toArray) (hn : l.length = n) (hc2 : n ≤ 9223372036854775807) : SB w (.slice (some ⟨g,0,none⟩) n n) l :=
 SB.arr h (by rw [List.drop_zero,List.take_of_length_le (by omega)]) hn (Nat.le_refl _) hc2
theorem GS.sb {w : World} {base c : Nat} {A : Option Addr} {l : List UInt8} (h : GS w base 5 A c (By l)) : SB w (.slice A l.length c) l:=by
 have h2:=h.2;rw [By_len] at h2
 rcases h2 with ⟨h1,h3⟩ | ⟨g,cap,cur,hv,_,hg,hn,hc,_,htk⟩
 ·injection h1 with h4 h5 h6
  have:=List.eq_nil_of_length_eq_zero h3;subst h4 h6 this;exact SB.nil w
 ·injection hv with h4 h5 h6
  subst h4 h6;refine ⟨_,c,rfl,hn,by unfold maxLen at hc; omega,fun h=>(by cases h),fun _=>⟨_,rfl,Nat.zero_le _,Blk.lt hg,fun j x hx=>?_⟩⟩;have hB : Blk w g _ cur:=hg;rw [Addr.add_mid,hB.cell,Nat.zero_add]
  have h7 : (By l)[j]? = some (.int .u8 (x.toNat : Int)):=by simp [By,hx]
  rw [← htk,List.getElem?_take] at h7
  split at h7
  ·simpa using h7
  ·cases h7
theorem SL.part {w : World} {lo hi c : Nat} {A : Option Addr} {l : List UInt8} (h : SL w lo hi A l c) {k n : Nat} (hk : k ≤ l.length) : SL w lo hi (if c = k then A else A.map (·.add k)) ((l.drop k).take n) (c - k):=(h.cut hk).take n
/-! ### Steps -/
section
variable {ops : Array Oper} {Rel : World → World → Prop} [hR : RelOk Rel] {C0 : World → Prop} {Q : Facts → Act → Prop} {N : Nat} {E : List (Nat × Value)} {Fa : Told} {o : Oper} {rest : List (Nat × Oper)} {i k : Nat}
theorem g_call {f : FuncId} {xs : Array Operand} {ats : Array TypeId} (args : Array Value) (V : Value → World → Prop) (hg : o.guard = none) (hd : o.dst = some k) (hk : Nat.blt k N = true) (hf : farP i Fa = true) (hp : ∀ v,Pers Rel (V v)) (hown : Own f)
  (hc : ∀ w,C0 w → Uses o Fa w → Calls Tryz.prog f args w (fun e w'=>∃ v,e = .returned v ∧ V v w' ∧ Below w.heap.size w w'))
  (ho : o.op = .call { callee:=.value (.func f),args:=xs,argTypes:=ats }) (hx : xs.toList.map (ev E) = args.toList.map some)
  (hn : ∀ v w,C0 w → V v w → gF Tryz.prog Rel ops C0 Q rest N ((k,v) :: E) ((i,V v) :: Fa)) : gF Tryz.prog Rel ops C0 Q ((i,o) :: rest) N E Fa :=
 g_mem V hg hd hk hf (by rw [ho]; rfl) hp (fun a ha w hw hu=>by
  rw [run_call_fn hown ho,map_eval (ha.evals _ _ hx)]
  exact ⟨rfl,(hc w hw hu).mono fun e w' ⟨v,h1,h2,h3⟩=>⟨v,h1,hR.below _ _ h3,h2⟩⟩) hn
theorem g_alloc {ty : TypeId} (zs : Array Value) (base : Nat) (hg : o.guard = none) (hd : o.dst = some k) (hk : Nat.blt k N = true) (hf : farP i Fa = true) (ho : o.op = .alloc ty) (hz : (Tryz.prog.info? ty).bind (fun i=>i.zero.map (·.cells)) = some zs)
  (hb : ∀ w,C0 w → base ≤ w.heap.size) (hp : ∀ g,Pers Rel fun w=>base ≤ g ∧ Blk w g ty zs)
  (hn : ∀ g w,C0 w → base ≤ g → Blk w g ty zs → gF Tryz.prog Rel ops C0 Q rest N ((k,.pointer (some ⟨g,0,none⟩)) :: E) ((i,fun w=>base ≤ g ∧ Blk w g ty zs) :: Fa)) : gF Tryz.prog Rel ops C0 Q ((i,o) :: rest) N E Fa :=
 g_mem (fun v w=>∃ g,v = .pointer (some ⟨g,0,none⟩) ∧ base ≤ g ∧ Blk w g ty zs) hg hd hk hf (by rw [ho]; rfl) (fun v w w' ⟨g,e,h⟩ hr=>⟨g,e,hp g w w' h hr⟩) (fun a _ w hw _=>by
  rw [exec_alloc ho hz a w]
  exact ⟨hR.below _ _ ((Below.refl w.heap.size w).alloc (Nat.le_refl _) _),w.heap.size,rfl,hb w hw,Blk.new w _ _⟩) (fun v w hw ⟨g,e,h1,h2⟩=>by
  subst e
  intro a F ha hF
  refine hn g w hw h1 h2 a F ha fun x hx w hw=>?_
  rcases List.mem_cons.1 hx with rfl | hx
  ·obtain ⟨g',e,h⟩:=hF (i,fun w=>∃ g',Value.pointer (some ⟨g,0,none⟩) = .pointer (some ⟨g',0,none⟩) ∧ base ≤ g' ∧ Blk w g' ty zs) List.mem_cons_self w hw
   injection e with e
   injection e with e
   injection e with e
   subst e;exact h
  ·exact hF x (List.mem_cons_of_mem _ hx) w hw)
end

theorem cells_slices : (Tryz.prog.info? 22).map (fun i=>(i.zero,i.size,i.bytes)) = some (some (.slice none 0 0),1,24):=by kernel_rfl
theorem run_slices (vs : List Value) (n : Nat) (parts : Array (Nat × Value)) (hp : parts.toList = (vs.zipIdx 0).map fun x=>(x.2,x.1)) (hn : vs.length = n) (h0 : 0 < n) (h24 : n ≤ 16777216) (h1 : ∀ v ∈ vs,v.cells = #[v]) (w : World) :
  (Instr.buildSlice 29 n parts).run Tryz.prog w = .ok (.slice (some ⟨w.heap.size,0,none⟩) n n) (w.alloc (.cells vs.toArray 22)):=by
 obtain ⟨ie,h2,h3,h4,_⟩:=info_parts cells_slices;refine run_buildSlice w 29 22 n parts vs.toArray ie _ Tryz.underlying29 h2 h3 (by rw [h4]; omega) (by rw [h4]; omega) ?_;rw [hp,h4];exact Great.fill_flat _ _ h1 (by simp [hn])
def All2 (w : World) : List Value → List (List UInt8) → Prop
  | [],[]=>True
  | v :: vs,l :: ls=>SB w v l ∧ All2 w vs ls
  | _,_=>False
theorem All2.len {w : World} : ∀ {vs : List Value} {ls : List (List UInt8)},All2 w vs ls → vs.length = ls.length
 | [],[],_=>rfl
 | _ :: _,_ :: _,h=>by rw [List.length_cons,List.length_cons,All2.len h.2]
 | [],_ :: _,h=>h.elim
 | _ :: _,[],h=>h.elim
theorem All2.get {w : World} : ∀ {vs : List Value} {ls : List (List UInt8)},All2 w vs ls → ∀ (i : Nat) l,ls[i]? = some l → ∃ v,vs[i]? = some v ∧ SB w v l
 | [],[],_,i,l,h=>by simp at h
 | v :: vs,l0 :: ls,h,0,l,hi=>by
  simp only [List.getElem?_cons_zero,Option.some.injEq] at hi;subst hi;exact ⟨v,rfl,h.1⟩
 | v :: vs,l0 :: ls,h,i + 1,l,hi=>by
  obtain ⟨u,h1,h2⟩:=All2.get h.2 i l (by simpa using hi);exact ⟨u,by simpa using h1,h2⟩
 | [],_ :: _,h,_,_,_=>h.elim
 | _ :: _,[],h,_,_,_=>h.elim
theorem All2.one {w : World} : ∀ {vs : List Value} {ls : List (List UInt8)},All2 w vs ls → ∀ v ∈ vs,v.cells = #[v] ∧ v.oneCell' = true
 | [],_,_,v,hv=>by simp at hv
 | u :: vs,l :: ls,h,v,hv=>by
  rcases List.mem_cons.1 hv with rfl | hv
  ·obtain ⟨A,c,rfl,_⟩:=h.1
   exact ⟨rfl,rfl⟩
  ·exact All2.one h.2 v hv
 | _ :: _,[],h,_,_=>h.elim
theorem All2.later {w w' : World} (hb : Below w.heap.size w w') : ∀ {vs : List Value} {ls : List (List UInt8)},All2 w vs ls → All2 w' vs ls
 | [],[],_=>trivial
 | _ :: _,_ :: _,h=>⟨h.1.later hb,All2.later hb h.2⟩
 | [],_ :: _,h=>h.elim
 | _ :: _,[],h=>h.elim
structure NewS (base : Nat) (vs : List Value) (ls : List (List UInt8)) (g : Nat) (w : World) : Prop where
  ge : base ≤ g
  blk : Blk w g 22 vs.toArray
  all : All2 w vs ls
theorem NewS.later {base g : Nat} {vs : List Value} {ls : List (List UInt8)} {w w' : World} (h : NewS base vs ls g w) (hb : Below w.heap.size w w') : NewS base vs ls g w':=⟨h.ge,h.blk.later hb,All2.later hb h.all⟩
theorem pt_of {w : World} {g : Nat} {vs : List Value} {ls : List (List UInt8)} {cs : Array Value} {t : Nat} (hB : Blk w g t cs) (htk : ∀ (j : Nat) (v : Value),vs[j]? = some v → cs[j]? = some v) (h : All2 w vs ls) : PT w (some ⟨g,0,none⟩) ls:=fun _=>by
 refine ⟨_,rfl,hB.lt,fun i l hi=>?_⟩;obtain ⟨v,h1,A,c,rfl,h3⟩:=h.get i l hi;refine ⟨A,c,?_,h3⟩;rw [Addr.add_mid,hB.cell,Nat.zero_add];exact htk i _ h1
theorem NewS.pt {base g : Nat} {vs : List Value} {ls : List (List UInt8)} {w : World} (h : NewS base vs ls g w) : PT w (some ⟨g,0,none⟩) ls:=pt_of h.blk (fun j v hj=>by simpa using hj) h.all
section
variable {ops : Array Oper} {C0 : World → Prop} {Q : Facts → Act → Prop} {N : Nat} {E : List (Nat × Value)} {Fa : Told} {o : Oper} {rest : List (Nat × Oper)} {i k : Nat}
theorem g_slices {n : Nat} {parts : Array (Nat × Operand)} (vs : List Value) (ls : List (List UInt8)) (base : Nat) (hg : o.guard = none) (hd : o.dst = some k) (hk : Nat.blt k N = true) (hf : farP i Fa = true) (ho : o.op = .buildSlice 29 n parts)
  (hv : parts.toList.map (fun p=>(p.1,ev E p.2)) = (vs.zipIdx 0).map fun x=>(x.2,some x.1)) (hn : vs.length = n) (h0 : 0 < n) (h24 : n ≤ 16777216) (hb : ∀ w,C0 w → base ≤ w.heap.size) (h : ∀ w,C0 w → Uses o Fa w → All2 w vs ls)
  (hk2 : ∀ g w,C0 w → NewS base vs ls g w → gF Tryz.prog Bel ops C0 Q rest N ((k,.slice (some ⟨g,0,none⟩) n n) :: E) ((i,NewS base vs ls g) :: Fa)) : gF Tryz.prog Bel ops C0 Q ((i,o) :: rest) N E Fa :=
 g_mem (fun v w=>∃ g,v = .slice (some ⟨g,0,none⟩) n n ∧ NewS base vs ls g w) hg hd hk hf (by rw [ho]; rfl) (fun v w w' ⟨g,e,h⟩ hr=>⟨g,e,h.later hr⟩) (fun a ha w hw hu=>by
  have hA:=h w hw hu
  have hm : ∀ (l : List (Nat × Operand)) (m : List (Value × Nat)),l.map (fun p=>(p.1,ev E p.2)) = m.map (fun x=>(x.2,some x.1)) → l.map (fun (i,x)=>(i,a.eval x)) = m.map fun x=>(x.2,x.1):=by
   intro l
   induction l with
   | nil=>intro m h; cases m with
    | nil=>rfl
    | cons=>cases h
   | cons p l ih=>intro m h; cases m with
    | nil=>cases h
    | cons u m =>
     simp only [List.map_cons,List.cons.injEq,Prod.mk.injEq] at h ⊢;exact ⟨⟨h.1.1,ha.eval h.1.2⟩,ih m h.2⟩
  have hr:=run_slices vs n (parts.map fun (i,x)=>(i,a.eval x)) (by rw [Array.toList_map]; exact hm _ _ hv) hn h0 h24 (fun v hv=>(hA.one v hv).1) w;have hal:=(Below.refl w.heap.size w).alloc (Nat.le_refl _) (.cells vs.toArray 22)
  unfold execOp
  simp only [ho,Sem.run_bind,hr,Result.andThen_ok,Sem.run_pure]
  exact ⟨hal,w.heap.size,rfl,hb w hw,Blk.new w _ _,All2.later hal hA⟩) (fun v w hw ⟨g,e,h2⟩=>by
  subst e
  intro a F ha hF
  refine hk2 g w hw h2 a F ha fun x hx w hw=>?_
  rcases List.mem_cons.1 hx with rfl | hx
  ·obtain ⟨g',e,h⟩:=hF (i,fun w=>∃ g',Value.slice (some ⟨g,0,none⟩) n n = .slice (some ⟨g',0,none⟩) n n ∧ NewS base vs ls g' w) List.mem_cons_self w hw
   injection e with e
   injection e with e
   injection e with e
   subst e;exact h
  ·exact hF x (List.mem_cons_of_mem _ hx) w hw)
end

/-! ### Appends of slices -/
theorem All2.app {w : World} : ∀ {vs us : List Value} {ls ms : List (List UInt8)},All2 w vs ls → All2 w us ms → All2 w (vs ++ us) (ls ++ ms)
 | [],_,[],_,_,h=>h
 | _ :: _,_,_ :: _,_,h,h'=>⟨h.1,All2.app h.2 h'⟩
 | [],_,_ :: _,_,h,_=>h.elim
 | _ :: _,_,[],_,h,_=>h.elim
theorem pt_vals {w : World} {ad : Addr} : ∀ (ls : List (List UInt8)) (o : Nat),(∀ (i : Nat) l,ls[i]? = some l → ∃ v,w.cell? (ad.add (o + i)) = some v ∧ SB w v l) → ∃ vs,All2 w vs ls ∧ ∀ (j : Nat) u,vs[j]? = some u → w.cell? (ad.add (o + j)) = some u
 | [],_,_=>⟨[],trivial,fun j u h=>by simp at h⟩
 | l :: ls,o,h=>by
  obtain ⟨v,h1,h2⟩:=h 0 l rfl
  obtain ⟨vs,h3,h4⟩:=pt_vals ls (o + 1) fun i l' hi=>by
   obtain ⟨v',h5,h6⟩:=h (i + 1) l' (by simpa using hi);exact ⟨v',by rw [show o + 1 + i = o + (i + 1) by omega]; exact h5,h6⟩
  refine ⟨v :: vs,⟨h2,h3⟩,fun j u hj=>?_⟩
  cases j with
  | zero =>
   simp only [List.getElem?_cons_zero,Option.some.injEq] at hj;subst hj;exact h1
  | succ j =>
   have:=h4 j u (by simpa using hj)
   rwa [show o + 1 + j = o + (j + 1) by omega] at this
theorem GS.pt {w : World} {base c : Nat} {A : Option Addr} {vs : List Value} {ls : List (List UInt8)} (h : GS w base 22 A c vs) (hA : All2 w vs ls) : PT w A ls ∧ ls.length ≤ c ∧ c ≤ 9223372036854775807:=by
 have hlen:=hA.len
 rcases h.2 with ⟨h1,h3⟩ | ⟨g,cap,cur,hv,_,hg,hn,hc,_,htk⟩
 ·injection h1 with h4 h5 h6
  subst h6;exact ⟨fun h0=>absurd h0 (by omega),by omega,by omega⟩
 ·injection hv with h4 h5 h6
  subst h4 h6;refine ⟨pt_of (cs:=cur) hg (fun j v hj=>?_) hA,by omega,by unfold maxLen at hc; omega⟩;rw [← htk,List.getElem?_take] at hj
  split at hj
  ·simpa using hj
  ·cases hj
theorem NewS.gs {base n g : Nat} {vs : List Value} {ls : List (List UInt8)} {w : World} (h : NewS base vs ls g w) (hn : vs.length = n) (hm : n ≤ 9223372036854775807) : GS w base 22 (some ⟨g,0,none⟩) n vs:=by
 refine ⟨by simp,.inr ⟨g,n,vs.toArray,rfl,h.ge,h.blk,by omega,by unfold maxLen; omega,by simp [hn],by simp⟩⟩
section
variable {ops : Array Oper} {Q : Exit → Act → World → Prop} {N : Nat} {E : List (Nat × Value)} {w : World} {o : Oper} {rest : List Oper} {k : Nat}
theorem l_appS {s x : Operand} {base c d : Nat} {A X : Option Addr} {vs : List Value} {ls : List (List UInt8)} (hg : o.guard = none) (hd : o.dst = some k) (hk : Nat.blt k N = true) (ho : o.op = .call { callee:=.builtin .append,args:=#[s,x],argTypes:=#[29,29] })
  (hs : ev E s = some (.slice A vs.length c)) (hx : ev E x = some (.slice X ls.length d)) (hown : GS w base 22 A c vs) {W0 : World} (hW : Up W0 w) (hP : PT W0 X ls) (h0 : X = none → d = 0 ∧ ls = []) (hb : (vs.length + ls.length) * 24 ≤ 140737488355328) (hbase : base ≤ w.heap.size)
  (hn : ∀ A' c' w' us,All2 W0 us ls → GS w' base 22 A' c' (vs ++ us) → w.grownBy w' (A.map (·.block)) → lF Tryz.prog ops Q rest N ((k,.slice A' (vs ++ us).length c') :: E) w') : lF Tryz.prog ops Q (o :: rest) N E w:=by
 cases X with
 | none =>
  obtain ⟨rfl,rfl⟩:=h0 rfl;obtain ⟨i,hi0,hz,hs0,hb⟩:=info_parts cells_slices;have hr:=run_append_owned_none (P:=Tryz.prog) w base 29 o.type 22 i 1 Tryz.underlying29 hi0 _ vs.length vs hown;have h1:=hn A c w [] trivial (by rw [List.append_nil]; exact hown) (World.grownBy.refl _ _);rw [List.append_nil] at h1;refine l_val _ hg hd hk (fun a ha=>?_) h1;have h2:=ha.eval hs;have h3:=ha.eval hx
  unfold execOp
  simp only [ho,resolve,invoke,builtin,Sem.run_bind,Sem.run_pure,Result.andThen_ok,List.map_toArray,List.map_cons,List.map_nil,h2,h3,List.length_nil,hr]
 | some ad =>
  obtain ⟨us,h1,h2⟩:=pt_vals (w:=W0) (ad:=ad) ls 0 fun i l hi=>by
   obtain ⟨ad',e,_,h3⟩:=hP (by have:=(List.getElem?_eq_some_iff.1 hi).1; omega)
   injection e with e
   subst e;obtain ⟨A',c',h4,h5⟩:=h3 i l hi;exact ⟨_,by rw [Nat.zero_add]; exact h4,A',c',rfl,h5⟩
  have hl:=h1.len
  refine l_app (bytes:=24) (z:=.slice none 0 0) (news:=us) (base:=base) (e:=22) (xs:=vs) (A:=A) (c:=c) (ad:=ad) (m:=ls.length) (d:=d) hg hd hk ho hs hx Tryz.underlying29 cells_slices rfl hown hl (fun j u hj=>by
   have h5:=h2 j u hj;rw [Nat.zero_add] at h5
   exact (hW.cell (World.block_lt_of_cell? W0 _ h5)).trans h5) (fun u hu=>(h1.one u hu).2) hb (by unfold maxLen; omega) hbase ?_
  intro A' c' w' h3 h4 _
  exact hn A' c' w' us h1 h3 h4
end

/-! ### Copies -/
section
variable {ops : Array Oper} {Q : Exit → Act → World → Prop} {N : Nat} {E : List (Nat × Value)} {w : World} {o : Oper} {rest : List Oper} {k : Nat}
theorem l_copy {d s : Operand} (g off n c t : Nat) (z l : List UInt8) (v : Value) (hgd : o.guard = none) (hdst : o.dst = some k) (hE : look E k = none) (ho : o.op = .call { callee:=.builtin .copy,args:=#[d,s],argTypes:=#[22,22] })
  (hd : ev E d = some (.slice (some ⟨g,off,none⟩) n c)) (hs : ev E s = some v) (hz : Blk w g t (By z).toArray) (hl : SB w v l) (h0 : 0 < l.length) (h1 : l.length ≤ n) (h2 : off + l.length ≤ z.length)
  (hn : Blk (w.setRow g (By (cop z off l)).toArray) g t (By (cop z off l)).toArray → lF Tryz.prog ops Q rest N E (w.setRow g (By (cop z off l)).toArray)) : lF Tryz.prog ops Q (o :: rest) N E w:=fun a ha=>by
 obtain ⟨A,c2,rfl,hS⟩:=hl;obtain ⟨ad,rfl,_,_,hc⟩:=hS.2.2.2 h0;refine wpList_copy_own hgd d s 22 22 ho 5 Tryz.underlying22 size_u8 g off n c ad l.length c2 (ha.eval hd) (ha.eval hs) (By z).toArray t hz (By l) (by rw [By_len]; exact (Nat.min_eq_left h1).symm) ?_ (by rw [By_len,List.size_toArray,By_len]; exact h2) (By_one l) ?_
 ·intro j u hu
  obtain ⟨x,hx,rfl⟩:=By_at hu;exact hc j x hx
 ·have e : (By z).toArray.toList.take off ++ (By l ++ (By z).toArray.toList.drop (off + (By l).length)) = By (cop z off l):=by
   simp [cop,By]
  rw [e,hdst];exact hn (hz.row _) _ (ha.putFar hE _)
end
end Go.Proofs.YtlcbhbahchiofaaGreatDoor
/-
  REGIONS WITH A STORE AHEAD OF READS: a variable may go over to a value that is known; slices of arrays, arrays of slices; results in two variables.
-/
namespace Go.Proofs.YtlcbhbahchiofaaGreatDoor
open Go.RowKit Go.IntWalk

structure KeepG (g : Nat) (t : TypeId) (c : Array Value) (w w' : World) : Prop where
  os : w'.os = w.os
  tape : w'.tape = w.tape
  output : w'.output = w.output
  size : w.heap.size ≤ w'.heap.size
  block : ∀ k,k < w.heap.size → k ≠ g → w'.heap[k]? = w.heap[k]?
  here : g < w.heap.size → w'.heap[g]? = w.heap[g]? ∨ Blk w' g t c
section
variable {g : Nat} {t : TypeId} {c : Array Value} {w w' w'' : World}
theorem KeepG.of (h : Below w.heap.size w w') : KeepG g t c w w':=⟨h.os,h.tape,h.output,h.size,fun k hk _=>h.block k hk,fun hk=>.inl (h.block g hk)⟩
instance : RelOk (KeepG g t c):=⟨fun _ _=>KeepG.of⟩
theorem KeepG.trans (h : KeepG g t c w w') (k : KeepG g t c w' w'') : KeepG g t c w w'':=by
 refine ⟨k.os.trans h.os,k.tape.trans h.tape,k.output.trans h.output,Nat.le_trans h.size k.size,fun i hi hn=>(k.block i (Nat.lt_of_lt_of_le hi h.size) hn).trans (h.block i hi hn),fun hg=>?_⟩
 rcases k.here (Nat.lt_of_lt_of_le hg h.size) with h1 | h1
 ·rcases h.here hg with h2 | h2
  ·exact .inl (h1.trans h2)
  ·exact .inr (h1.trans h2)
 ·exact .inr h1
theorem KeepG.far (h : KeepG g t c w w') {g' t' : Nat} {cs : Array Value} (hb : Blk w g' t' cs) (hn : g' ≠ g) : Blk w' g' t' cs:=(h.block g' hb.lt hn).trans hb
theorem KeepG.self (h : KeepG g t c w w') (hb : Blk w g t c) : Blk w' g t c:=by
 rcases h.here hb.lt with h1 | h1
 ·exact h1.trans hb
 ·exact h1
theorem KeepG.up {w0 : World} (h : KeepG g t c w w') (hU : Up w0 w) (hg : w0.heap.size ≤ g) : Up w0 w' :=
 hU.trans ⟨h.os,h.tape,h.output,h.size,fun k hk=>h.block k (Nat.lt_of_lt_of_le hk hU.size) (by omega)⟩
theorem KeepG.set {old : Array Value} (hb : Blk w g t old) : KeepG g t c w (w.setRow g c):=by
 have hs : (w.setRow g c).heap.size = w.heap.size:=by simp [World.setRow]
 exact ⟨rfl,rfl,rfl,by rw [hs]; exact Nat.le_refl _,fun k _ hn=>setRow_other w g k c hn,fun _=>.inr (hb.row c)⟩
end
section
variable {P : Program} {ops : Array Oper} {Rel : World → World → Prop} {C0 : World → Prop} {Q : Facts → Act → Prop} {N : Nat} {E : List (Nat × Value)} {Fa : Told} {o : Oper} {rest : List (Nat × Oper)} {i : Nat}
theorem g_store {ty t : TypeId} {p x : Operand} (g : Nat) (cells : Array Value) (hg : o.guard = none) (hd : o.dst = none) (hf : farP i Fa = true) (ho : o.op = .store ty p x) (hp : ev E p = some (.pointer (some ⟨g,0,none⟩))) (hx : ev E x = some (.agg cells))
  (hi : (P.info? ty).map (·.size) = some cells.size) (h1 : ∀ v ∈ cells.toList,v.oneCell' = true) (hb : ∀ w,C0 w → ∃ old,Blk w g t old ∧ old.size = cells.size ∧ Rel w (w.setRow g cells)) (hP : Pers Rel fun w=>Blk w g t cells)
  (hn : gF P Rel ops C0 Q rest N E ((i,fun w=>Blk w g t cells) :: Fa)) : gF P Rel ops C0 Q ((i,o) :: rest) N E Fa:=fun a F ha hF=>by
 unfold wpG
 rw [if_pos (by simp [Region.wanted,hg])];refine ⟨fun v w=>v = undef ∧ Blk w g t cells,fun v w w' h hr=>⟨h.1,hP w w' h.2 hr⟩,.inl ⟨undef,fun u w h=>h.1⟩,fun w hw _=>?_,fun v w hw _ hV=>hn _ _ (by dsimp only; rw [hd]; exact ha) ?_⟩
 ·obtain ⟨old,h2,h3,h4⟩:=hb w hw
  have hst:=run_store_row (P:=P) w ty g cells old t h2 hi h3 h1
  dsimp only
  unfold execOp
  simp only [ho,ha.eval hp,ha.eval hx,Sem.run_bind,hst,Result.andThen_ok,Sem.run_pure];exact ⟨h4,rfl,h2.row _⟩
 ·intro x hx w hw
  rcases List.mem_cons.1 hx with rfl | hx
  ·have h5 : (v = undef ∧ Blk w g t cells):=by
    dsimp only at hw
    rwa [upF_same] at hw
   exact h5.2
  ·exact (hF.up hf) x hx w hw
end

/-! ### Slices of arrays, arrays of slices -/
section
variable {ops : Array Oper} {C0 : World → Prop} {Q : Act → Prop} {N : Nat} {E : List (Nat × Value)} {o : Oper} {rest : List Oper} {k : Nat}
theorem f_slice64l {x : Operand} (g : Nat) (hg : o.guard = none) (hd : o.dst = some k) (hk : Nat.blt k N = true) (ho : o.op = .slice 43 x none (some (.const (.int .i64 32))) none) (hx : ev E x = some (.pointer (some ⟨g,0,none⟩)))
  (hn : bF Tryz.prog ops C0 Q rest N ((k,.slice (some ⟨g,0,none⟩) 32 64) :: E)) : bF Tryz.prog ops C0 Q (o :: rest) N E :=
 f_val _ hg hd hk (fun a ha w _=>by
  have h1:=ha.eval hx
  unfold execOp
  simp only [ho,h1]
  go_simp) hn
theorem f_slice64h {x : Operand} (g : Nat) (hg : o.guard = none) (hd : o.dst = some k) (hk : Nat.blt k N = true) (ho : o.op = .slice 43 x (some (.const (.int .i64 32))) none none) (hx : ev E x = some (.pointer (some ⟨g,0,none⟩)))
  (hn : bF Tryz.prog ops C0 Q rest N ((k,.slice (some ⟨g,32,none⟩) 32 32) :: E)) : bF Tryz.prog ops C0 Q (o :: rest) N E :=
 f_val _ hg hd hk (fun a ha w _=>by
  have h1:=ha.eval hx
  unfold execOp
  simp only [ho,h1]
  go_simp) hn
theorem f_arrp {x : Operand} (p : Option Addr) (c : Nat) (hg : o.guard = none) (hd : o.dst = some k) (hk : Nat.blt k N = true) (ho : o.op = .sliceToArrayPointer 45 x) (hx : ev E x = some (.slice p 32 c))
  (hn : bF Tryz.prog ops C0 Q rest N ((k,.pointer p) :: E)) : bF Tryz.prog ops C0 Q (o :: rest) N E :=
 f_val _ hg hd hk (fun a ha w _=>by
  have h1:=ha.eval hx
  unfold execOp
  simp only [ho,h1];have hu:=run_underlying (P:=Tryz.prog) Tryz.underlying45 (w:=w);simp only [Instr.arrayAt,Sem.run_bind,hu,Result.andThen_ok]
  rfl) hn
end
theorem ix64 (b i : Nat) (h : i < 64) (w : World) : (Instr.indexAt 43 (.pointer (some ⟨b,0,none⟩)) (.int .i64 (i : Int))).run Tryz.prog w = .ok (.pointer (some ⟨b,i,none⟩)) w:=by
 have h3 : (i : Int) < 64:=by omega
 have h4 : (0 : Int) ≤ i:=by omega
 go_simp
theorem size_64 {l : List UInt8} (h : l.length = 64) : (Tryz.prog.info? 43).map (·.size) = some (By l).toArray.size:=by
 rw [List.size_toArray,By_len,h]
 kernel_rfl
theorem zero64 : (Tryz.prog.info? 43).bind (fun i=>i.zero.map (·.cells)) = some (By z64).toArray:=by kernel_rfl
theorem results_cells {P : Program} {fn : Func} {p q : Tmp} {ty ty2 : TypeId} (h : fn.results = #[.cell p ty,.cell q ty2]) (tmps : Array Value) (w : World) (g g2 : Nat) (t t2 : TypeId) (cs cs2 : Array Value) (fr fr2 : Nat × Nat) (d d2 : TypeDesc)
  (hp : tmps.getD p undef = .pointer (some ⟨g,0,none⟩)) (hq : tmps.getD q undef = .pointer (some ⟨g2,0,none⟩)) (hg : w.heap[g]? = some (.cells cs t fr)) (hg2 : w.heap[g2]? = some (.cells cs2 t2 fr2))
  (hu : P.underlying ty = some d) (hd : (match d with | .struct _ | .array _ _=>true | _=>false) = true) (hi : (P.info? ty).map (·.size) = some cs.size)
  (hu2 : P.underlying ty2 = some d2) (hd2 : (match d2 with | .struct _ | .array _ _=>true | _=>false) = true) (hi2 : (P.info? ty2).map (·.size) = some cs2.size) :
  (results fn tmps).run P w = .ok (.tuple #[.agg cs,.agg cs2]) w:=by
 have hp' : tmps[p]?.getD undef = .pointer (some ⟨g,0,none⟩):=by simpa using hp
 have hq' : tmps[q]?.getD undef = .pointer (some ⟨g2,0,none⟩):=by simpa using hq
 simp [results,h,hp',hq',asAddr,run_loadVar_row w g t ty cs fr d hg hu hd hi,run_loadVar_row w g2 t2 ty2 cs2 fr2 d2 hg2 hu2 hd2 hi2]

theorem take32 {l : List UInt8} (h : l.length = 64) : (l.take 32).length = 32:=by rw [List.length_take,h]; rfl
theorem drop32 {l : List UInt8} (h : l.length = 64) : (l.drop 32).length = 32:=by rw [List.length_drop,h]
theorem take_drop32 {l : List UInt8} (h : l.length = 64) : (l.drop 32).take 32 = l.drop 32:=List.take_of_length_le (by rw [drop32 h]; exact Nat.le_refl _)
theorem rng_drop {w : World} {g t : Nat} {l : List UInt8} (h : Blk w g t (By l).toArray) (hl : l.length = 64) : w.rangeAt g 32 (By (l.drop 32)):=by
 have h1:=h.part 32 32
 have e : ((By l).drop 32).take 32 = By (l.drop 32):=by
  rw [By,By,← List.map_drop,← List.map_take,take_drop32 hl]
 rwa [e] at h1
theorem rng_take {w : World} {g t : Nat} {l : List UInt8} (h : Blk w g t (By l).toArray) (_ : l.length = 64) : w.rangeAt g 0 (By (l.take 32)):=by
 have h1:=h.part 0 32
 have e : ((By l).drop 0).take 32 = By (l.take 32):=by
  rw [By,By,List.drop_zero,← List.map_take]
 rwa [e] at h1
section
variable {P : Program} {ops : Array Oper} {Rel : World → World → Prop} {C0 : World → Prop} {Q : Facts → Act → Prop} {N : Nat} {E : List (Nat × Value)} {Fa : Told} {o : Oper} {rest : List (Nat × Oper)} {i k : Nat}
theorem g_guard {j t : Nat} {b : Bool} (hgd : o.guard = some (j,b)) (hj : (ops[j]?).bind (·.dst) = some t) (hN : Nat.blt t N = true) (ht : look E t = some (.bool b)) (h : gF P Rel ops C0 Q ((i,{ o with guard:=none }) :: rest) N E Fa) : gF P Rel ops C0 Q ((i,o) :: rest) N E Fa:=fun a F ha hF=>by
 have h1:=h a F ha hF
 have htN : t < a.tmps.size:=by rw [ha.size]; simpa using hN
 have h2:=ha.get t _ ht
 have h3 : a.tmps[t]? = some (.bool b):=by
  simp only [Act.eval,Array.getD_eq_getD_getElem?] at h2;rw [Array.getElem?_eq_getElem htN] at h2 ⊢
  simpa using h2
 have hw : Region.wanted o (yielded ops a.tmps) = true:=by
  unfold Region.wanted
  rw [hgd]
  simp [yielded,hj,h3]
 obtain ⟨dst,op,ty,pos,af,gd⟩:=o
 unfold wpG at h1 ⊢
 rw [if_pos hw];rw [if_pos (by rfl)] at h1;exact h1
theorem g_skip {j t : Nat} {b : Bool} (hgd : o.guard = some (j,b)) (hj : (ops[j]?).bind (·.dst) = some t) (hN : Nat.blt t N = true) (ht : look E t = some (.bool (!b))) (hd : o.dst = some k) (hk : Nat.blt k N = true) (hf : farP i Fa = true) (h : gF P Rel ops C0 Q rest N ((k,undef) :: E) Fa) : gF P Rel ops C0 Q ((i,o) :: rest) N E Fa:=fun a F ha hF=>by
 have htN : t < a.tmps.size:=by rw [ha.size]; simpa using hN
 have h2:=ha.get t _ ht
 have h3 : a.tmps[t]? = some (.bool (!b)):=by
  simp only [Act.eval,Array.getD_eq_getD_getElem?] at h2;rw [Array.getElem?_eq_getElem htN] at h2 ⊢
  simpa using h2
 have hw : ¬ Region.wanted o (yielded ops a.tmps) = true:=by
  unfold Region.wanted
  rw [hgd]
  simp [yielded,hj,h3]
 unfold wpG
 rw [if_neg hw]
 dsimp only
 rw [hd];exact h _ _ (ha.put hk _) (hF.up hf)
end
section
variable {P : Program} {ops : Array Oper} {C0 : World → Prop} {Q : Act → Prop} {N : Nat} {E : List (Nat × Value)} {o : Oper} {rest : List Oper} {k : Nat}
theorem f_pickF {c x y : Operand} (v : Value) (hg : o.guard = none) (hd : o.dst = some k) (hk : Nat.blt k N = true) (ho : o.op = .pick c x y) (hc : ev E c = some (.bool false)) (hy : ev E y = some v) (hn : bF P ops C0 Q rest N ((k,v) :: E)) : bF P ops C0 Q (o :: rest) N E :=
 f_val _ hg hd hk (fun a ha w _=>by
  have h1:=ha.eval hc;have h2:=ha.eval hy
  unfold execOp
  simp only [ho,h1,h2]
  go_simp) hn
end
end Go.Proofs.YtlcbhbahchiofaaGreatDoor
/-
  SLICES OF WORDS OVER FRAMES BY WHAT IS KNOWN OF THEM.
-/
namespace Go.Proofs.YtlcbhbahchiofaaGreatDoor
open Go.RowKit Go.IntWalk

end Go.Proofs.YtlcbhbahchiofaaGreatDoor
/-
  SLICES OF WORDS AND BYTES, NEW ONES, OVER FRAMES BY WHAT IS KNOWN OF THEM.
-/
namespace Go.Proofs.YtlcbhbahchiofaaGreatDoor
open Go.RowKit Go.IntWalk

end Go.Proofs.YtlcbhbahchiofaaGreatDoor
/-
  REGIONS WHOSE ORDER IS FORCED, operation by operation; steps: slices of bytes, new ones and parts; lengths; '==' of signatures.
-/
namespace Go.Proofs.YtlcbhbahchiofaaGreatDoor
open Go.RowKit Go.IntWalk


/-! ### Regions whose order is forced -/
section
variable {P : Program} {ops : Array Oper} {Q : Exit → Act → World → Prop} {N : Nat} {E : List (Nat × Value)} {w : World} {o : Oper} {rest l : List Oper} {k : Nat}
theorem l_ops (m : Nat) (h : bF P ops (Up w) (fun a'=>∀ w',Up w w' → wpList P ops Q (l.drop m) a' w') (l.take m) N E) : lF P ops Q l N E w:=fun a ha=>by
 have h1:=wpList_of_B (Q:=Q) (T:=l.drop m) (l.take m) a w w (Up.refl w) (h a ha)
 rwa [List.take_append_drop] at h1
def WG (ops : Array Oper) (N : Nat) (E : List (Nat × Value)) (o : Oper) : Prop:=o.guard = none ∨ ∃ j b t,o.guard = some (j,b) ∧ (ops[j]?).bind (·.dst) = some t ∧ Nat.blt t N = true ∧ look E t = some (.bool b)
theorem WG.wanted {a : Act} (h : WG ops N E o) (ha : Fr N E a) : Region.wanted o (yielded ops a.tmps) = true:=by
 rcases h with h | ⟨j,b,t,hgd,hj,hN,ht⟩
 ·simp [Region.wanted,h]
 ·have htN : t < a.tmps.size:=by rw [ha.size]; simpa using hN
  have h2:=ha.get t _ ht
  have h3 : a.tmps[t]? = some (.bool b):=by
   simp only [Act.eval,Array.getD_eq_getD_getElem?] at h2;rw [Array.getElem?_eq_getElem htN] at h2 ⊢
   simpa using h2
  unfold Region.wanted
  rw [hgd]
  simp [yielded,hj,h3]
theorem l_valW (v : Value) (w' : World) (hw : WG ops N E o) (hd : o.dst = some k) (hk : Nat.blt k N = true) (h : ∀ a,Fr N E a → (execOp a.eval o).run P w = .ok (.value v) w') (hn : lF P ops Q rest N ((k,v) :: E) w') : lF P ops Q (o :: rest) N E w:=fun a ha=>by
 have h1:=h a ha;have h2:=hn _ (ha.put hk v)
 unfold wpList
 rw [if_pos (hw.wanted ha)];refine .inl ?_
 unfold Oper.wp
 rw [h1];simp only [Oper.upon,hd];exact h2
end
end Go.Proofs.YtlcbhbahchiofaaGreatDoor
/-
  STEPS THAT HANG ON THE FRAME ALONE, ALL AT ONCE: moves, choices, parts of tuples, 'not', guards; reckoned by a function, so one line takes as many as there are.
-/
namespace Go.Proofs.YtlcbhbahchiofaaGreatDoor
open Go.RowKit Go.IntWalk

def stepV (E : List (Nat × Value)) : Op → Option Value
  | .move x=>ev E x
  | .assign x=>ev E x
  | .pick c x y=>match ev E c with
    | some (.bool true)=>ev E x
    | some (.bool false)=>ev E y
    | _=>none
  | .extract x i=>match ev E x with
    | some (.tuple vs)=>vs[i]?
    | _=>none
  | .unOp .not _ x=>match ev E x with
    | some (.bool true)=>some (.bool false)
    | some (.bool false)=>some (.bool true)
    | _=>none
  | .nilCheck x=>match ev E x with
    | some (.pointer (some p))=>some (.pointer (some p))
    | _=>none
  | _=>none
def wantG (ops : Array Oper) (N : Nat) (E : List (Nat × Value)) (o : Oper) : Option Bool :=
  match o.guard with
  | none=>some true
  | some (j,b)=>match (ops[j]?).bind (·.dst) with
    | some t=>match Nat.blt t N with
      | true=>match look E t with
        | some (.bool true)=>some b
        | some (.bool false)=>some (!b)
        | _=>none
      | false=>none
    | none=>none
theorem wantG_ok {ops : Array Oper} {N : Nat} {E : List (Nat × Value)} {a : Act} {o : Oper} {q : Bool} (ha : Fr N E a) (h : wantG ops N E o = some q) : Region.wanted o (yielded ops a.tmps) = q:=by
 unfold wantG at h
 split at h
 ·rename_i hg
  injection h with h
  subst h
  simp [Region.wanted,hg]
 ·rename_i j b hg
  split at h
  ·rename_i t hj
   split at h
   ·rename_i hN
    have htN : t < a.tmps.size:=by rw [ha.size]; simpa using hN
    have key : ∀ c,look E t = some (.bool c) → a.tmps[t]? = some (.bool c):=fun c hc=>by
     have h2:=ha.get t _ hc;simp only [Act.eval,Array.getD_eq_getD_getElem?] at h2;rw [Array.getElem?_eq_getElem htN] at h2 ⊢
     simpa using h2
    split at h
    ·rename_i hc
     injection h with h
     subst h
     unfold Region.wanted
     rw [hg]
     simp [yielded,hj,key _ hc]
    ·rename_i hc
     injection h with h
     subst h
     unfold Region.wanted
     rw [hg]
     cases b <;> simp [yielded,hj,key _ hc]
    ·cases h
   ·cases h
  ·cases h
def bareO (o : Oper) : Oper:={ o with guard:=none }
section
variable {P : Program} {ops : Array Oper} {Q : Exit → Act → World → Prop}
theorem wpList_of_Bs {T : List Oper} : ∀ (L : List Oper) (a : Act) (w : World),L.all (fun o=>stillG o.op) = true → wpB P ops (· = w) (fun a'=>wpList P ops Q T a' w) L a → wpList P ops Q (L ++ T) a w
 | [],_,_,_,h=>h
 | o :: L,a,w,hs,h=>by
  rw [List.all_cons,Bool.and_eq_true] at hs
  have key : ∀ V : Value → Prop,atB P o a w V → (∀ v,V v → wpList P ops Q (L ++ T) (a.put o.dst v) w) → o.wp P a w (wpList P ops Q (L ++ T)) Q:=fun V h3 hk=>by
   unfold atB at h3
   unfold Oper.wp
   have hst:=fun n w'=>still_ok (P:=P) (ρ:=a.eval) (o:=o) (w:=w) (w':=w') (n:=n) hs.1;generalize (execOp a.eval o).run P w = r at *
   cases r with
   | ok n w' =>
    cases n <;> simp only [uponB] at h3 <;> simp only [Oper.upon]
    case value u =>
     obtain ⟨e1,e2⟩:=h3;rw [e1];exact hk _ e2
    case skip =>
     obtain ⟨e1,e2⟩:=h3;rw [e1];exact hk _ e2
    case enter f args =>
     rcases hst _ _ rfl with ⟨v,hv⟩ | hv <;> cases hv
   | halt x w'=>simp only [uponB] at h3
  rw [List.cons_append]
  unfold wpList
  unfold wpB at h
  split at h
  ·rename_i hw
   rw [if_pos hw];refine .inl ?_
   rcases h with ⟨v,h3,h4⟩ | ⟨_,V,h3,h4⟩
   ·exact key (· = v) (h3 w rfl) (fun u hu=>by rw [hu]; exact wpList_of_Bs L _ w hs.2 h4)
   ·exact key V (h3 w rfl) (fun u hu=>wpList_of_Bs L _ w hs.2 (h4 u hu))
  ·rename_i hw
   rw [if_neg hw];exact wpList_of_Bs L _ w hs.2 h
variable {N : Nat} {E : List (Nat × Value)} {w : World} {l T : List Oper}
end
end Go.Proofs.YtlcbhbahchiofaaGreatDoor
/-
  LOOPS OF A CODE; BEGIN AND END OF A CALL, over frames by what is known of them.
-/
namespace Go.Proofs.YtlcbhbahchiofaaGreatDoor
open Go.RowKit Go.IntWalk

def loopsOf : Code → List Code
  | .loop c=>c :: loopsOf c
  | .seq a b=>loopsOf a ++ loopsOf b
  | .block _ c=>loopsOf c
  | .scope c=>loopsOf c
  | .cond _ a b=>loopsOf a ++ loopsOf b
  | _=>[]
/-! ### Begin and end of a call -/
def argE : Nat → List Value → List (Nat × Value)
  | _,[]=>[]
  | j,v :: vs=>(j,v) :: argE (j + 1) vs
theorem argE_look : ∀ (vs : List Value) (j k : Nat) (v : Value),look (argE j vs) k = some v → j ≤ k ∧ vs[k - j]? = some v
 | [],_,_,_,h=>by cases h
 | u :: vs,j,k,v,h=>by
  rw [argE,look_cons] at h
  split at h
  ·rename_i e
   subst e
   cases h
   exact ⟨Nat.le_refl _,by simp⟩
  ·obtain ⟨h1,h2⟩:=argE_look vs (j + 1) k v h
   refine ⟨by omega,?_⟩;obtain ⟨m,rfl⟩ : ∃ m,k = j + 1 + m:=⟨k - (j + 1),by omega⟩;rw [show j + 1 + m - (j + 1) = m from by omega] at h2;rw [show j + 1 + m - j = m + 1 from by omega]
   simpa using h2
theorem calls_F {P : Program} {f : FuncId} {fn : Func} {c : Code} {vs : List Value} {w : World} {R : Ending → World → Prop} (N : Nat) (hf : P.funcs[f]? = some fn) (hb : fn.body = some c) (hn : vs.length + (fn.ntmps - vs.length) = N)
  (h : cF P c (bodyPost P fn R) N (argE 0 vs) w) : Calls P f vs.toArray w R:=by
 refine calls_of_wp hf hb (h _ (Fr.start (by simpa using hn) _ fun k v hk=>?_));have:=(argE_look vs 0 k v hk).2
 simpa using this
theorem Fr.at {N : Nat} {E : List (Nat × Value)} {a : Act} (h : Fr N E a) {k : Nat} {v : Value} (hk : look E k = some v) : a.tmps.getD k undef = v:=h.get k v hk
theorem k_ret_row {P : Program} {fn : Func} {R : Ending → World → Prop} {N : Nat} {E : List (Nat × Value)} {w : World} {q : Tmp} {ty t : TypeId} {d : TypeDesc} (g : Nat) (cs : Array Value) (hr : fn.results = #[.cell q ty]) (hq : look E q = some (.pointer (some ⟨g,0,none⟩))) (hb : Blk w g t cs)
  (hu : P.underlying ty = some d) (hd : (match d with | .struct _ | .array _ _=>true | _=>false) = true) (hi : (P.info? ty).map (·.size) = some cs.size) (h : R (.returned (.agg cs)) w) : kF (bodyPost P fn R .ret) N E w:=fun _ ha=>bodyPost_ret (results_cell_row hr _ _ g t cs (0,0) d (ha.at hq) hb hu hd hi) ha.defers h
section
variable {ops : Array Oper} {Q : Exit → Act → World → Prop} {N : Nat} {E : List (Nat × Value)} {w : World} {o : Oper} {rest : List Oper} {k : Nat}
theorem ev_args {a : Act} (ha : Fr N E a) : ∀ (l : List Operand) (m : List Value),l.map (ev E) = m.map some → l.map a.eval = m:=by
 intro l
 induction l with
 | nil=>intro m h; cases m with
  | nil=>rfl
  | cons=>cases h
 | cons y l ih=>intro m h; cases m with
  | nil=>cases h
  | cons u m =>
   simp only [List.map_cons,List.cons.injEq] at h ⊢;exact ⟨ha.eval h.1,ih m h.2⟩
theorem l_call {f : FuncId} {xs : Array Operand} {ats : Array TypeId} (args : Array Value) {R : Ending → World → Prop} (hg : o.guard = none) (hd : o.dst = some k) (hk : Nat.blt k N = true)
  (hf : Own f) (hc : Calls Tryz.prog f args w R) (ho : o.op = .call { callee:=.value (.func f),args:=xs,argTypes:=ats }) (hx : xs.toList.map (ev E) = args.toList.map some)
  (hn : ∀ e w',R e w' → ∃ v,e = .returned v ∧ lF Tryz.prog ops Q rest N ((k,v) :: E) w') : lF Tryz.prog ops Q (o :: rest) N E w:=fun a ha=>by
 have hr:=run_call_fn (a:=a) hf ho w;rw [map_eval (ev_args ha _ _ hx)] at hr
 unfold wpList
 rw [if_pos (by simp [Region.wanted,hg])];refine .inl ?_
 unfold Oper.wp
 rw [hr];simp only [Oper.upon,hd]
 exact hc.mono fun e w' he=>by
  obtain ⟨v,rfl,h1⟩:=hn e w' he;exact h1 _ (ha.put hk v)
end
end Go.Proofs.YtlcbhbahchiofaaGreatDoor
/-
  STATES: frames whose slots hold values, addresses of variables, structs by their parts; variables by what lies in them; memory that is owned; facts that stay whatever becomes of what is owned.
-/
namespace Go.Proofs.YtlcbhbahchiofaaGreatDoor
open Go.RowKit Go.IntWalk

/-! ### How worlds go on -/
structure Chg (D : Nat → Prop) (w w' : World) : Prop where
  os : w'.os = w.os
  tape : w'.tape = w.tape
  output : w'.output = w.output
  size : w.heap.size ≤ w'.heap.size
  block : ∀ k,k < w.heap.size → ¬ D k → w'.heap[k]? = w.heap[k]?
section
variable {D D' : Nat → Prop} {w w' w'' : World}
theorem Chg.refl (D : Nat → Prop) (w : World) : Chg D w w:=⟨rfl,rfl,rfl,Nat.le_refl _,fun _ _ _=>rfl⟩
theorem Chg.step (h : Chg D w w') (k : Chg D' w' w'') (hd : ∀ i,i < w.heap.size → D' i → D i) : Chg D w w'' :=
 ⟨k.os.trans h.os,k.tape.trans h.tape,k.output.trans h.output,Nat.le_trans h.size k.size,fun i hi hn=>(k.block i (Nat.lt_of_lt_of_le hi h.size) (fun h'=>hn (hd i hi h'))).trans (h.block i hi hn)⟩
theorem Chg.mono (h : Chg D w w') (hd : ∀ i,i < w.heap.size → D i → D' i) : Chg D' w w':=⟨h.os,h.tape,h.output,h.size,fun i hi hn=>h.block i hi fun h'=>hn (hd i hi h')⟩
theorem Chg.of_up (h : Up w w') : Chg D w w':=⟨h.os,h.tape,h.output,h.size,fun k hk _=>h.block k hk⟩
theorem Chg.up (h : Chg D w w') (hd : ∀ i,i < w.heap.size → ¬ D i) : Up w w':=⟨h.os,h.tape,h.output,h.size,fun k hk=>h.block k hk (hd k hk)⟩
theorem Chg.of_grown {r : Option Nat} (h : w.grownBy w' r) : Chg (fun k=>r = some k) w w':=⟨h.os,h.tape,h.output,h.size,fun k hk hn=>h.block k hk fun e=>hn e.symm⟩
theorem Chg.row (w : World) (g : Nat) (cs : Array Value) : Chg (fun k=>k = g) w (w.setRow g cs):=⟨rfl,rfl,rfl,by simp [World.setRow],fun k _ hn=>setRow_other w g k cs hn⟩
end
def Stb (D : Nat → Prop) (p : World → Prop) (w : World) : Prop:=∀ w',Chg D w w' → p w'
section
variable {D D' : Nat → Prop} {w w' : World} {p q : World → Prop}
theorem Stb.now (h : Stb D p w) : p w:=h w (Chg.refl _ _)
theorem Stb.step (h : Stb D p w) (k : Chg D w w') : Stb D p w':=fun w2 h2=>h w2 (k.step h2 fun _ _ h=>h)
theorem Stb.less (h : Stb D p w) (hd : ∀ k,k < w.heap.size → D' k → D k) : Stb D' p w:=fun w2 h2=>h w2 (h2.mono hd)
theorem Stb.imp (h : Stb D p w) (hpq : ∀ w,p w → q w) : Stb D q w:=fun w2 h2=>hpq _ (h w2 h2)
theorem Stb.and (h : Stb D p w) (h' : Stb D q w) : Stb D (fun w=>p w ∧ q w) w:=fun w2 h2=>⟨h w2 h2,h' w2 h2⟩
theorem Stb.past (h : Stb D p w) (k : Chg D w w') (hd : ∀ i,i < w.heap.size → D' i → D i) : Stb D' p w':=fun w2 h2=>h w2 (k.step h2 hd)
end
class Pst (p : World → Prop) : Prop where
  later : ∀ w w',p w → Below w.heap.size w w' → p w'
theorem Stb.of_pst {p : World → Prop} [hp : Pst p] {D : Nat → Prop} {w : World} (h : p w) (hd : ∀ k,k < w.heap.size → ¬ D k) : Stb D p w:=fun w' hw=>hp.later w w' h (hw.up hd)

/-! ### Parts, values -/
inductive SC where
  | v (x : Value)
  | b (e : Bool)
  | o (x : Value)
def SC.den : SC → Value
  | .v x=>x
  | .b e=>.bool e
  | .o x=>x
def SC.Ok : SC → Prop
  | .v _=>True
  | .b _=>True
  | .o x=>x.oneCell' = true ∧ x.cells = #[x]
inductive Pt where
  | one (s : SC)
  | agg (n : Nat) (cs : Array Value)
def Pt.cells : Pt → Array Value
  | .one s=>#[s.den]
  | .agg _ cs=>cs
def Pt.size : Pt → Nat
  | .one _=>1
  | .agg n _=>n
def Pt.Ok : Pt → Prop
  | .one s=>s.Ok ∧ s.den.oneCell' = true ∧ s.den.cells = #[s.den]
  | .agg n cs=>cs.size = n ∧ ∀ v ∈ cs.toList,v.oneCell' = true
theorem Pt.Ok.size {p : Pt} (h : p.Ok) : p.cells.size = p.size:=by
 cases p with
 | one v=>rfl
 | agg n cs=>exact h.1
theorem Pt.Ok.one {p : Pt} (h : p.Ok) : ∀ v ∈ p.cells.toList,v.oneCell' = true:=by
 cases p with
 | one v=>intro u hu; simp [Pt.cells] at hu; subst hu; exact h.2.1
 | agg n cs=>exact h.2
def catP : List Pt → Array Value
  | []=>#[]
  | [p]=>p.cells
  | p :: q :: r=>p.cells ++ catP (q :: r)
def sizeP : List Pt → Nat
  | []=>0
  | p :: r=>p.size + sizeP r
def OkP (ps : List Pt) : Prop:=∀ p ∈ ps,p.Ok
theorem catP_cons (p : Pt) (r : List Pt) : catP (p :: r) = p.cells ++ catP r:=by
 cases r with
 | nil=>simp [catP]
 | cons q r=>rfl
theorem OkP.size : ∀ {ps : List Pt},OkP ps → (catP ps).size = sizeP ps
 | [],_=>rfl
 | p :: r,h=>by rw [catP_cons,Array.size_append,OkP.size (ps:=r) (fun q hq=>h q (by simp [hq])),(h p (by simp)).size]; rfl
theorem OkP.one : ∀ {ps : List Pt},OkP ps → ∀ v ∈ (catP ps).toList,v.oneCell' = true
 | [],_,v,hv=>by simp [catP] at hv
 | p :: r,h,v,hv=>by
  rw [catP_cons,Array.toList_append,List.mem_append] at hv
  rcases hv with hv | hv
  ·exact (h p (by simp)).one v hv
  ·exact OkP.one (ps:=r) (fun q hq=>h q (by simp [hq])) v hv
def atP : List Pt → Nat → Option Pt
  | [],_=>none
  | p :: r,off=>match Nat.beq off 0 with
    | true=>some p
    | false=>match Nat.ble p.size off with
      | true=>atP r (off - p.size)
      | false=>none
def setP : List Pt → Nat → Pt → Option (List Pt)
  | [],_,_=>none
  | p :: r,off,q=>match Nat.beq off 0 with
    | true=>match Nat.beq p.size q.size with
      | true=>some (q :: r)
      | false=>none
    | false=>match Nat.ble p.size off with
      | true=>(setP r (off - p.size) q).map (p :: ·)
      | false=>none
theorem atP_ok : ∀ {ps : List Pt} {off : Nat} {p : Pt},OkP ps → atP ps off = some p → p.Ok ∧ ∃ A Z,(catP ps).toList = A ++ (p.cells.toList ++ Z) ∧ A.length = off
 | [],_,_,_,h=>by cases h
 | q :: r,off,p,hok,h=>by
  have hq:=hok q (by simp)
  unfold atP at h
  split at h
  ·rename_i e
   injection h with h
   subst h;exact ⟨hq,[],(catP r).toList,by rw [catP_cons]; simp,by simpa using (Nat.eq_of_beq_eq_true e).symm⟩
  ·split at h
   ·rename_i e
    have e:=Nat.le_of_ble_eq_true e;obtain ⟨h1,A,Z,h2,h3⟩:=atP_ok (fun x hx=>hok x (by simp [hx])) h;exact ⟨h1,q.cells.toList ++ A,Z,by rw [catP_cons,Array.toList_append,h2,List.append_assoc],by rw [List.length_append,h3,Array.length_toList,hq.size]; omega⟩
   ·cases h
theorem setP_ok : ∀ {ps ps' : List Pt} {off : Nat} {q : Pt},OkP ps → q.Ok → setP ps off q = some ps' → OkP ps' ∧ sizeP ps' = sizeP ps ∧ ∃ A B Z,(catP ps).toList = A ++ (B ++ Z) ∧ A.length = off ∧ B.length = q.size ∧ (catP ps').toList = A ++ (q.cells.toList ++ Z)
 | [],_,_,_,_,_,h=>by cases h
 | p :: r,ps',off,q,hok,hq,h=>by
  have hp:=hok p (by simp)
  unfold setP at h
  split at h
  ·rename_i e
   split at h
   ·rename_i e2
    injection h with h
    subst h;have e2:=Nat.eq_of_beq_eq_true e2;refine ⟨fun x hx=>?_,by simp only [sizeP,e2],[],p.cells.toList,(catP r).toList,by rw [catP_cons]; simp,by simpa using (Nat.eq_of_beq_eq_true e).symm,by rw [Array.length_toList,hp.size,e2],by rw [catP_cons]; simp⟩
    rcases List.mem_cons.1 hx with rfl | hx
    ·exact hq
    ·exact hok x (by simp [hx])
   ·cases h
  ·split at h
   ·rename_i e
    have e:=Nat.le_of_ble_eq_true e
    cases hs : setP r (off - p.size) q with
    | none=>rw [hs] at h; cases h
    | some r' =>
     rw [hs] at h;simp only [Option.map_some,Option.some.injEq] at h;subst h;obtain ⟨h1,h2,A,B,Z,h3,h4,h5,h6⟩:=setP_ok (fun x hx=>hok x (by simp [hx])) hq hs;refine ⟨fun x hx=>?_,by simp only [sizeP,h2],p.cells.toList ++ A,B,Z,by rw [catP_cons,Array.toList_append,h3,List.append_assoc],by rw [List.length_append,h4,Array.length_toList,hp.size]; omega,h5,by rw [catP_cons,Array.toList_append,h6,List.append_assoc]⟩
     rcases List.mem_cons.1 hx with rfl | hx
     ·exact hp
     ·exact h1 x hx
   ·cases h

inductive SQ where
  | c (s : SC)
  | p (ps : List Pt)
def SQ.den : SQ → Value
  | .c s=>s.den
  | .p ps=>.agg (catP ps)
def SQ.Ok : SQ → Prop
  | .c s=>s.Ok
  | .p ps=>OkP ps
inductive SV where
  | q (x : SQ)
  | a (j off : Nat)
  | s (j off n c : Nat)
  | t (vs : List SQ)
@[match_pattern] abbrev SV.v (x : Value) : SV:=.q (.c (.v x))
@[match_pattern] abbrev SV.b (e : Bool) : SV:=.q (.c (.b e))
@[match_pattern] abbrev SV.o (x : Value) : SV:=.q (.c (.o x))
@[match_pattern] abbrev SV.p (ps : List Pt) : SV:=.q (.p ps)
def SV.den (G : Nat → Nat) : SV → Value
  | .q x=>x.den
  | .a j off=>.pointer (some ⟨G j,off,none⟩)
  | .s j off n c=>.slice (some ⟨G j,off,none⟩) n c
  | .t vs=>.tuple (vs.map SQ.den).toArray
def SV.Ok : SV → Prop
  | .q x=>x.Ok
  | .a _ _=>True
  | .s _ _ _ _=>True
  | .t vs=>∀ x ∈ vs,x.Ok
def SV.farB (j : Nat) : SV → Bool
  | .a i _=>!Nat.beq i j
  | .s i _ _ _=>!Nat.beq i j
  | _=>true
abbrev SE:=List (Nat × SV)
def lookS : SE → Nat → Option SV
  | [],_=>none
  | (k,v) :: r,j=>match Nat.beq k j with
    | true=>some v
    | false=>lookS r j
def denE (G : Nat → Nat) : SE → List (Nat × Value)
  | []=>[]
  | (k,v) :: r=>(k,v.den G) :: denE G r
theorem look_den (G : Nat → Nat) : ∀ (E : SE) (j : Nat),look (denE G E) j = (lookS E j).map (SV.den G)
 | [],_=>rfl
 | (k,v) :: r,j=>by
  unfold denE look lookS
  cases Nat.beq k j with
  | true=>rfl
  | false=>exact look_den G r j
def OkE (E : SE) : Prop:=∀ x ∈ E,x.2.Ok
theorem lookS_mem : ∀ {E : SE} {j : Nat} {v : SV},lookS E j = some v → (j,v) ∈ E
 | [],_,_,h=>by cases h
 | (k,u) :: r,j,v,h=>by
  unfold lookS at h
  split at h
  ·rename_i e
   obtain rfl:=Nat.eq_of_beq_eq_true e
   cases h
   exact List.mem_cons_self
  ·exact List.mem_cons_of_mem _ (lookS_mem h)
theorem OkE.get {E : SE} (h : OkE E) {j : Nat} {v : SV} (hj : lookS E j = some v) : v.Ok:=h _ (lookS_mem hj)
theorem OkE.cons {E : SE} (h : OkE E) {k : Nat} {v : SV} (hv : v.Ok) : OkE ((k,v) :: E):=fun x hx=>by
 rcases List.mem_cons.1 hx with rfl | hx
 ·exact hv
 ·exact h x hx
def evS (E : SE) : Operand → Option SV
  | .tmp t=>lookS E t
  | .const v=>some (.v v)
  | .global g=>some (.v (.pointer (some ⟨g,0,none⟩)))
  | .func f=>some (.v (.func (.func f) #[] #[]))
theorem evS_ok {G : Nat → Nat} {E : SE} {x : Operand} {v : SV} (h : evS E x = some v) : ev (denE G E) x = some (v.den G):=by
 cases x with
 | tmp t =>
  show look (denE G E) t = _
  rw [look_den];rw [show lookS E t = some v from h]
  rfl
 | const u=>cases h; rfl
 | global g=>cases h; rfl
 | func f=>cases h; rfl
theorem OkE.ev {E : SE} (h : OkE E) {x : Operand} {v : SV} (hx : evS E x = some v) : v.Ok:=by
 cases x with
 | tmp t=>exact h.get hx
 | const u=>cases hx; trivial
 | global g=>cases hx; trivial
 | func f=>cases hx; trivial
def evSs (E : SE) : List Operand → Option (List SV)
  | []=>some []
  | x :: r=>match evS E x,evSs E r with
    | some v,some vs=>some (v :: vs)
    | _,_=>none
theorem evSs_ok {G : Nat → Nat} {E : SE} : ∀ {xs : List Operand} {vs : List SV},evSs E xs = some vs → xs.map (ev (denE G E)) = (vs.map (SV.den G)).map some
 | [],vs,h=>by cases h; rfl
 | x :: r,vs,h=>by
  unfold evSs at h
  split at h
  ·rename_i v us h1 h2
   injection h with h
   subst h;rw [List.map_cons,evS_ok h1,evSs_ok h2]
   rfl
  ·cases h

/-! ### Variables -/
structure LV where
  j : Nat
  g : Option Nat
  t : TypeId
  ps : List Pt
def lookL : List LV → Nat → Option (List Pt)
  | [],_=>none
  | x :: r,j=>match Nat.beq x.j j with
    | true=>some x.ps
    | false=>lookL r j
theorem lookL_mem : ∀ {L : List LV} {j : Nat} {ps : List Pt},lookL L j = some ps → ∃ x ∈ L,x.j = j ∧ x.ps = ps
 | [],_,_,h=>by cases h
 | x :: r,j,ps,h=>by
  unfold lookL at h
  split at h
  ·rename_i e
   injection h with h
   exact ⟨x,List.mem_cons_self,Nat.eq_of_beq_eq_true e,h⟩
  ·obtain ⟨y,h1,h2⟩:=lookL_mem h
   exact ⟨y,List.mem_cons_of_mem _ h1,h2⟩
def putL : List LV → Nat → List Pt → List LV
  | [],_,_=>[]
  | x :: r,j,ps=>match Nat.beq x.j j with
    | true=>{ x with ps:=ps } :: r
    | false=>x :: putL r j ps
def namesL (L : List LV) : List Nat:=L.map (·.j)
theorem putL_names : ∀ (L : List LV) (j : Nat) (ps : List Pt),namesL (putL L j ps) = namesL L
 | [],_,_=>rfl
 | x :: r,j,ps=>by
  unfold putL
  split
  ·rfl
  ·exact congrArg (x.j :: ·) (putL_names r j ps)
def farL (j : Nat) : List LV → Bool
  | []=>true
  | x :: r=>!Nat.beq x.j j && farL j r

/-! ### Owned memory -/
structure Res where
  holds : World → (Nat → Prop) → Prop
  keep : ∀ {w w' : World} {S : Nat → Prop},holds w S → (∀ k,S k → w'.heap[k]? = w.heap[k]?) → holds w' S
  lt : ∀ {w : World} {S : Nat → Prop},holds w S → ∀ k,S k → k < w.heap.size
def starL : List Res → World → (Nat → Prop) → Prop
  | [],_,S=>∀ k,¬ S k
  | r :: R,w,S=>∃ S1 S2,r.holds w S1 ∧ starL R w S2 ∧ (∀ k,S k ↔ S1 k ∨ S2 k) ∧ ∀ k,S1 k → ¬ S2 k
theorem starL.keep : ∀ {R : List Res} {w w' : World} {S : Nat → Prop},starL R w S → (∀ k,S k → w'.heap[k]? = w.heap[k]?) → starL R w' S
 | [],_,_,_,h,_=>h
 | r :: _,_,_,_,⟨S1,S2,h1,h2,h3,h4⟩,hk=>⟨S1,S2,r.keep h1 fun k hs=>hk k ((h3 k).2 (.inl hs)),h2.keep fun k hs=>hk k ((h3 k).2 (.inr hs)),h3,h4⟩
theorem starL.lt : ∀ {R : List Res} {w : World} {S : Nat → Prop},starL R w S → ∀ k,S k → k < w.heap.size
 | [],_,_,h,k,hs=>absurd hs (h k)
 | r :: _,_,_,⟨_,_,h1,h2,h3,_⟩,k,hs=>((h3 k).1 hs).elim (r.lt h1 k) (h2.lt k)
theorem starL.same {R : List Res} {w : World} {S S' : Nat → Prop} (h : starL R w S) (e : ∀ k,S k ↔ S' k) : starL R w S':=by
 have : S = S':=funext fun k=>propext (e k)
 rwa [← this]
theorem starL.app : ∀ {R R' : List Res} {w : World} {S : Nat → Prop},starL (R ++ R') w S ↔ ∃ S1 S2,starL R w S1 ∧ starL R' w S2 ∧ (∀ k,S k ↔ S1 k ∨ S2 k) ∧ ∀ k,S1 k → ¬ S2 k
 | [],R',w,S=>⟨fun h=>⟨fun _=>False,S,fun _ h=>h,h,fun k=>⟨.inr,fun h=>h.elim False.elim id⟩,fun _ h=>h.elim⟩,fun ⟨S1,S2,h1,h2,h3,_⟩=>by
   show starL R' w S
   exact h2.same fun k=>⟨fun h=>(h3 k).2 (.inr h),fun h=>((h3 k).1 h).resolve_left (h1 k)⟩⟩
 | r :: R,R',w,S=>by
  constructor
  ·rintro ⟨S1,S2,h1,h2,h3,h4⟩
   obtain ⟨S3,S4,h5,h6,h7,h8⟩:=starL.app.1 h2;refine ⟨fun k=>S1 k ∨ S3 k,S4,⟨S1,S3,h1,h5,fun k=>Iff.rfl,fun k hk h=>h4 k hk ((h7 k).2 (.inl h))⟩,h6,fun k=>?_,fun k hk h=>?_⟩
   ·rw [h3 k,h7 k,or_assoc]
   ·rcases hk with hk | hk
    ·exact h4 k hk ((h7 k).2 (.inr h))
    ·exact h8 k hk h
  ·rintro ⟨S0,S4,⟨S1,S3,h1,h5,h9,h10⟩,h6,h3,h8⟩
   refine ⟨S1,fun k=>S3 k ∨ S4 k,h1,starL.app.2 ⟨S3,S4,h5,h6,fun k=>Iff.rfl,fun k hk=>h8 k ((h9 k).2 (.inr hk))⟩,fun k=>by rw [h3 k,h9 k,or_assoc],fun k hk h=>?_⟩
   rcases h with h | h
   ·exact h10 k hk h
   ·exact h8 k ((h9 k).2 (.inl hk)) h

theorem starL.perm {R R' : List Res} (h : R.Perm R') : ∀ {w : World} {S : Nat → Prop},starL R w S → starL R' w S:=by
 induction h with
 | nil=>exact fun h=>h
 | cons r _ ih =>
  rintro w S ⟨S1,S2,h1,h2,h3⟩
  exact ⟨S1,S2,h1,ih h2,h3⟩
 | swap r r' R =>
  rintro w S ⟨S1,S2,h1,⟨S3,S4,h3,h4,h5,h6⟩,h7,h8⟩
  refine ⟨S3,fun k=>S1 k ∨ S4 k,h3,⟨S1,S4,h1,h4,fun _=>Iff.rfl,fun k hk hk'=>h8 k hk ((h5 k).2 (.inr hk'))⟩,fun k=>?_,fun k hk hk'=>?_⟩
  ·rw [h7 k,h5 k,← or_assoc,← or_assoc,or_comm (a:=S1 k)]
  ·rcases hk' with hk' | hk'
   ·exact h8 k hk' ((h5 k).2 (.inl hk))
   ·exact h6 k hk hk'
 | trans _ _ ih1 ih2=>exact fun h=>ih2 (ih1 h)
theorem starL.at : ∀ {R : List Res} {i : Nat} {r : Res} {w : World} {S : Nat → Prop},starL R w S → R[i]? = some r → ∃ S1 S2,r.holds w S1 ∧ (∀ k,S k ↔ S1 k ∨ S2 k) ∧ (∀ k,S1 k → ¬ S2 k) ∧ starL (R.eraseIdx i) w S2 ∧
  ∀ (r' : Res) (w' : World) (S' : Nat → Prop),r'.holds w' S' → (∀ k,S2 k → w'.heap[k]? = w.heap[k]?) → (∀ k,S' k → ¬ S2 k) → starL (R.set i r') w' fun k=>S' k ∨ S2 k
 | [],_,_,_,_,_,h=>by simp at h
 | r0 :: R,0,r,w,S,⟨S1,S2,h1,h2,h3,h4⟩,h=>by
  simp only [List.getElem?_cons_zero,Option.some.injEq] at h;subst h;exact ⟨S1,S2,h1,h3,h4,h2,fun r' w' S' hr hk hd=>⟨S',S2,hr,h2.keep hk,fun _=>Iff.rfl,hd⟩⟩
 | r0 :: R,i + 1,r,w,S,⟨S0,S',h1,h2,h3,h4⟩,h=>by
  obtain ⟨S1,S2,h5,h6,h7,h8,h9⟩:=starL.at h2 (by simpa using h);refine ⟨S1,fun k=>S0 k ∨ S2 k,h5,fun k=>?_,fun k hk hk'=>?_,⟨S0,S2,h1,h8,fun _=>Iff.rfl,fun k hk hk'=>h4 k hk ((h6 k).2 (.inr hk'))⟩,fun r' w' S3 hr hk hd=>?_⟩
  ·rw [h3 k,h6 k,← or_assoc,← or_assoc,or_comm (a:=S0 k)]
  ·rcases hk' with hk' | hk'
   ·exact h4 k hk' ((h6 k).2 (.inl hk))
   ·exact h7 k hk hk'
  ·refine ⟨S0,fun k=>S3 k ∨ S2 k,r0.keep h1 fun k hs=>hk k (.inl hs),h9 r' w' S3 hr (fun k hs=>hk k (.inr hs)) (fun k hs hs'=>hd k hs (.inr hs')),fun k=>?_,fun k hk0 hs=>?_⟩
   ·exact or_left_comm
   ·rcases hs with hs | hs
    ·exact hd k hs (.inl hk0)
    ·exact h4 k hk0 ((h6 k).2 (.inr hs))

/-! ### States -/
structure Env where
  E : SE
  L : List LV
  R : List Res
  F : World → Prop
  M : World → Prop
def Mine (S : Nat → Prop) (G : Nat → Nat) (L : List LV) (k : Nat) : Prop:=S k ∨ ∃ j ∈ namesL L,G j = k
def Dof (X S : Nat → Prop) (G : Nat → Nat) (L : List LV) (k : Nat) : Prop:=X k ∨ Mine S G L k
structure Base where
  X : Nat → Prop
  B : World
  D : Nat → Prop
def Nof (b : Base) (S : Nat → Prop) (G : Nat → Nat) (L : List LV) (k : Nat) : Prop:=k < b.B.heap.size ∨ Mine S G L k
structure StW (b : Base) (G : Nat → Nat) (S : Nat → Prop) (L : List LV) (R : List Res) (F M : World → Prop) (w : World) : Prop where
  var : ∀ x ∈ L,Blk w (G x.j) x.t (catP x.ps) ∧ OkP x.ps ∧ ∀ g,x.g = some g → G x.j = g
  apart : (namesL L).Pairwise fun i j=>G i ≠ G j
  res : starL R w S
  sep : ∀ j ∈ namesL L,¬ S (G j)
  fact : Stb (Dof b.X S G L) F w
  fresh : Stb (Nof b S G L) M w
  chg : Chg b.D b.B w
  mine : ∀ k,Mine S G L k → k < b.B.heap.size → b.D k
  old : ∀ k,b.X k → k < b.B.heap.size ∧ ¬ b.D k
structure StA (b : Base) (N : Nat) (e : Env) (G : Nat → Nat) (S : Nat → Prop) (a : Act) (w : World) : Prop where
  fr : Fr N (denE G e.E) a
  ok : OkE e.E
  st : StW b G S e.L e.R e.F e.M w
def St (b : Base) (N : Nat) (e : Env) (a : Act) (w : World) : Prop:=∃ G S,StA b N e G S a w
section
variable {b : Base} {G : Nat → Nat} {S : Nat → Prop} {L : List LV} {R : List Res} {F M : World → Prop} {w w' : World}
theorem Dof.nof (h : ∀ k,b.X k → k < b.B.heap.size ∧ ¬ b.D k) {k : Nat} (hk : Dof b.X S G L k) : Nof b S G L k:=hk.imp (fun hx=>(h k hx).1) id
theorem StW.lt (h : StW b G S L R F M w) : ∀ k,Mine S G L k → k < w.heap.size:=fun k hk=>by
 rcases hk with hk | ⟨j,hj,rfl⟩
 ·exact h.res.lt k hk
 ·obtain ⟨x,hx,rfl⟩:=List.mem_map.1 hj
  exact (h.var x hx).1.lt
theorem StW.later (h : StW b G S L R F M w) (k : Below w.heap.size w w') : StW b G S L R F M w' :=
 ⟨fun x hx=>⟨(h.var x hx).1.later k,(h.var x hx).2⟩,h.apart,h.res.keep fun i hi=>k.block i (h.res.lt i hi),h.sep,h.fact.step (Chg.of_up k),h.fresh.step (Chg.of_up k),h.chg.step (D':=fun _=>False) (Chg.of_up k) (fun _ _ h=>h.elim),h.mine,h.old⟩
theorem StW.all (h : StW b G S L R F M w) : Stb (Dof b.X S G L) (fun w=>F w ∧ M w) w:=h.fact.and (h.fresh.less fun _ _ hk=>hk.nof h.old)
theorem StW.imp (h : StW b G S L R F M w) {F' M' : World → Prop} (hF : ∀ w,F w → M w → F' w) (hM : ∀ w,M w → M' w) : StW b G S L R F' M' w:={ h with fact:=h.all.imp fun w hw=>hF w hw.1 hw.2,fresh:=h.fresh.imp hM }
theorem StW.and (h : StW b G S L R F M w) {p : World → Prop} (hp : Stb (Dof b.X S G L) p w) : StW b G S L R (fun w=>p w ∧ F w) M w:={ h with fact:=hp.and h.fact }
theorem StW.andM (h : StW b G S L R F M w) {p : World → Prop} (hp : Stb (Nof b S G L) p w) : StW b G S L R F (fun w=>p w ∧ M w) w:={ h with fresh:=hp.and h.fresh }
end
end Go.Proofs.YtlcbhbahchiofaaGreatDoor
/-
  STEPS OVER STATES THAT ARE RECKONED AT ONCE: moves, choices, parts of variables read and written, new variables, structs put together.
-/
namespace Go.Proofs.YtlcbhbahchiofaaGreatDoor
open Go.RowKit Go.IntWalk

/-! ### Types, by the parts of their noughts -/
structure TyR where
  t : TypeId
  kind : Nat
  zero : List Pt
  el : Option TypeId:=none
  ik : Option IntKind:=none
  pt : Bool:=false
  w : Nat:=8
def kindOf : TypeDesc → Nat
  | .array _ _=>1
  | .struct _=>2
  | _=>0
def elOf : TypeDesc → Option TypeId
  | .slice e=>some e
  | _=>none
def ikOf : TypeDesc → Option IntKind
  | .int k=>some k
  | _=>none
def ptOf : TypeDesc → Bool
  | .pointer _=>true
  | _=>false
def rowOf (P : Program) (t : TypeId) : Option (Nat × Option (Array Value) × Nat × Option (List (Nat × Nat)) × Option TypeId × Option IntKind × Bool × Nat) :=
  match P.info? t,P.underlying t with
  | some it,some d=>some (it.size,it.zero.map (·.cells),kindOf d,(match d with
    | .struct fs=>fs.toList.mapM fun f=>(P.info? f.type).map fun i=>(f.offset,i.size)
    | .array _ e=>(P.info? e).map fun _=>[]
    | _=>some []),elOf d,ikOf d,ptOf d,it.bytes)
  | _,_=>none
def placesP : Nat → List Pt → List (Nat × Nat)
  | _,[]=>[]
  | o,p :: r=>(o,p.size) :: placesP (o + p.size) r
def TyR.ok (P : Program) (r : TyR) : Prop:=rowOf P r.t = some (sizeP r.zero,some (catP r.zero),r.kind,some (match r.kind with | 2=>placesP 0 r.zero | _=>[]),r.el,r.ik,r.pt,r.w) ∧ OkP r.zero
def OkT (P : Program) (T : List TyR) : Prop:=∀ r ∈ T,r.ok P
def isOneB : Value → Bool
  | .agg _=>false
  | .tuple _=>false
  | _=>true
theorem isOneB_ok {v : Value} (h : isOneB v = true) : v.oneCell' = true ∧ v.cells = #[v]:=by
 cases v <;> first | exact ⟨rfl,rfl⟩ | cases h
def okPB (ps : List Pt) : Bool:=ps.all fun p=>match p with
  | .one (.v v)=>isOneB v
  | .one _=>false
  | .agg n cs=>cs.size == n && cs.toList.all fun v=>v.oneCell'
theorem okPB_ok {ps : List Pt} (h : okPB ps = true) : OkP ps:=fun p hp=>by
 have:=List.all_eq_true.1 h p hp
 cases p with
 | one s =>
  cases s with
  | v x=>exact ⟨trivial,isOneB_ok this⟩
  | b e=>cases this
  | o x=>cases this
 | agg n cs =>
  simp only [Bool.and_eq_true,beq_iff_eq,List.all_eq_true] at this;exact this
theorem okT_of {P : Program} {T : List TyR} (h : T.map (fun r=>rowOf P r.t) = T.map fun r=>some (sizeP r.zero,some (catP r.zero),r.kind,some (match r.kind with | 2=>placesP 0 r.zero | _=>[]),r.el,r.ik,r.pt,r.w))
  (h2 : (T.all fun r=>okPB r.zero) = true) : OkT P T:=fun r hr=>by
 refine ⟨?_,okPB_ok (List.all_eq_true.1 h2 r hr)⟩;obtain ⟨i,hi,rfl⟩:=List.getElem_of_mem hr;have h1:=congrArg (·[i]?) h
 simpa [hi] using h1
def findT : List TyR → TypeId → Option TyR
  | [],_=>none
  | r :: T,t=>match Nat.beq r.t t with
    | true=>some r
    | false=>findT T t
theorem findT_ok {P : Program} : ∀ {T : List TyR} {t : TypeId} {r : TyR},OkT P T → findT T t = some r → r.ok P ∧ r.t = t
 | [],_,_,_,h=>by cases h
 | r0 :: T,t,r,hT,h=>by
  unfold findT at h
  split at h
  ·rename_i e
   injection h with h
   subst h;exact ⟨hT _ List.mem_cons_self,Nat.eq_of_beq_eq_true e⟩
  ·exact findT_ok (fun r hr=>hT r (List.mem_cons_of_mem _ hr)) h
section
variable {P : Program} {r : TyR}
theorem TyR.ok.info (h : r.ok P) : ∃ it d,P.info? r.t = some it ∧ P.underlying r.t = some d ∧ it.size = sizeP r.zero ∧ it.zero.map (·.cells) = some (catP r.zero) ∧ kindOf d = r.kind ∧
  (match d with | .struct fs=>fs.toList.mapM fun f=>(P.info? f.type).map fun i=>(f.offset,i.size) | .array _ e=>(P.info? e).map fun _=>[] | _=>some []) = some (match r.kind with | 2=>placesP 0 r.zero | _=>[]) ∧ elOf d = r.el ∧ ikOf d = r.ik ∧ ptOf d = r.pt ∧ it.bytes = r.w:=by
 have h1:=h.1
 unfold rowOf at h1
 split at h1
 ·rename_i it d h2 h3
  simp only [Option.some.injEq,Prod.mk.injEq] at h1;exact ⟨it,d,h2,h3,h1.1,h1.2.1,h1.2.2.1,h1.2.2.2.1,h1.2.2.2.2⟩
 ·cases h1
end
theorem kind_row {d : TypeDesc} (h : kindOf d ≠ 0) : d.isRow = true:=by
 cases d <;> first | rfl | exact absurd rfl h
theorem kind_not {d : TypeDesc} (h : kindOf d = 0) : d.isRow = false:=by
 cases d <;> first | rfl | cases h

/-! ### Loads and stores -/
def loadS (T : List TyR) (ps : List Pt) (t : TypeId) (off : Nat) : Option SQ:=match findT T t with
  | none=>none
  | some r=>match r.kind with
    | 0=>match atP ps off with
      | some (.one v)=>some (.c v)
      | _=>none
    | _ + 1=>match Nat.beq off 0,Nat.beq (sizeP ps) (sizeP r.zero) with
      | true,true=>some (.p ps)
      | _,_=>match atP ps off with
        | some (.agg n cs)=>match Nat.beq n (sizeP r.zero) with
          | true=>some (.p [.agg n cs])
          | false=>none
        | _=>none
theorem range_of {w : World} {g ty : Nat} {cs : Array Value} {A B Z : List Value} (hb : Blk w g ty cs) (h : cs.toList = A ++ (B ++ Z)) : w.rangeAt g A.length B:=fun j v hj=>by
 rw [hb.cell]
 have h1 : cs.toList[A.length + j]? = some v:=by
  rw [h,List.getElem?_append_right (by omega),Nat.add_sub_cancel_left,List.getElem?_append_left (List.getElem?_eq_some_iff.1 hj).1];exact hj
 simpa using h1
theorem run_load_cell {P : Program} {w : World} {t : TypeId} {a : Addr} {v : Value} {d : TypeDesc} (hu : P.underlying t = some d) (hd : d.isRow = false) (hc : w.cell? a = some v) : (Instr.loadAt t (.pointer (some a))).run P w = .ok v w:=by
 have h1 : (isAgg t).run P w = .ok false w:=by
  unfold isAgg
  simp only [Sem.run_bind,run_underlying hu,Result.andThen_ok]
  cases d <;> first | rfl | cases hd
 simp only [Instr.loadAt,Instr.sureAddr,loadVar,Sem.run_bind,Sem.run_pure,Result.andThen_ok,h1,Bool.false_eq_true,if_false]
 simp [load,Sem.run,hc]
theorem run_load_row {P : Program} {w : World} {t : TypeId} {g off : Nat} {cs : Array Value} {d : TypeDesc} (hu : P.underlying t = some d) (hd : d.isRow = true) (hi : (P.info? t).map (·.size) = some cs.size) (hc : w.rangeAt g off cs.toList) :
  (Instr.loadAt t (.pointer (some ⟨g,off,none⟩))).run P w = .ok (.agg cs) w:=by
 have h1:=run_loadVar_mid w g off t cs.toList d hc hu hd (by simpa using hi);simp only [Instr.loadAt,Instr.sureAddr,Sem.run_bind,Sem.run_pure,Result.andThen_ok,h1,Array.toArray_toList]
theorem range_in {w : World} {g base : Nat} {cs A B Z : List Value} (hb : w.rangeAt g base cs) (h : cs = A ++ (B ++ Z)) : w.rangeAt g (base + A.length) B:=fun j v hj=>by
 rw [Nat.add_assoc];refine hb (A.length + j) v ?_;rw [h,List.getElem?_append_right (by omega),Nat.add_sub_cancel_left,List.getElem?_append_left (List.getElem?_eq_some_iff.1 hj).1];exact hj
theorem loadS_at {P : Program} {T : List TyR} (hT : OkT P T) {ps : List Pt} {t : TypeId} {off : Nat} {q : SQ} (hok : OkP ps) (h : loadS T ps t off = some q) :
  q.Ok ∧ ∀ {w : World} {g base : Nat},w.rangeAt g base (catP ps).toList → (Instr.loadAt t (.pointer (some ⟨g,base + off,none⟩))).run P w = .ok q.den w:=by
 unfold loadS at h
 split at h
 ·cases h
 rename_i r hr
 have hro:=findT_ok hT hr;clear hr;obtain ⟨hro,rfl⟩:=hro;obtain ⟨it,d,h1,h2,h3,h4,h5, -⟩:=hro.info
 split at h
 ·rename_i hk
  split at h
  ·rename_i v hv
   injection h with h
   subst h;obtain ⟨ho,A,Z,e,hA⟩:=atP_ok hok hv;refine ⟨ho.1,fun hb=>run_load_cell h2 (kind_not (by rw [h5,hk])) ?_⟩;have:=range_in hb e 0 v.den rfl
   rwa [hA,Nat.add_zero] at this
  ·cases h
 ·rename_i hk
  have hd : d.isRow = true:=kind_row (by rw [h5,hk]; omega)
  split at h
  ·rename_i e1 e2
   injection h with h
   subst h;obtain rfl:=Nat.eq_of_beq_eq_true e1;exact ⟨hok,fun hb=>run_load_row h2 hd (by rw [h1,Option.map_some,h3,hok.size,Nat.eq_of_beq_eq_true e2]) hb⟩
  ·split at h
   ·rename_i n cs hv
    split at h
    ·rename_i e
     injection h with h
     subst h;obtain ⟨ho,A,Z,e3,hA⟩:=atP_ok hok hv;refine ⟨fun p hp=>by rw [List.mem_singleton.1 hp]; exact ho,fun hb=>run_load_row h2 hd (by rw [h1,Option.map_some,h3]; exact congrArg some ((Nat.eq_of_beq_eq_true e).symm.trans ho.1.symm)) ?_⟩;have:=range_in hb e3
     rwa [hA] at this
    ·cases h
   ·cases h
theorem loadS_ok {P : Program} {T : List TyR} (hT : OkT P T) {ps : List Pt} {t : TypeId} {off : Nat} {q : SQ} (hok : OkP ps) (h : loadS T ps t off = some q) :
  q.Ok ∧ ∀ {w : World} {g ty : Nat},Blk w g ty (catP ps) → (Instr.loadAt t (.pointer (some ⟨g,off,none⟩))).run P w = .ok q.den w:=by
 obtain ⟨h1,h2⟩:=loadS_at hT hok h;refine ⟨h1,fun {w g ty} hb=>?_⟩;have h3 : w.rangeAt g 0 (catP ps).toList:=range_of (A:=[]) (Z:=[]) hb (by simp);have:=h2 h3
 rwa [Nat.zero_add] at this
def fitC : SC → Bool
  | .v x=>isOneB x
  | _=>true
theorem fitC_ok {s : SC} (hs : s.Ok) (h : fitC s = true) : s.den.oneCell' = true ∧ s.den.cells = #[s.den]:=by
 cases s with
 | v x=>exact isOneB_ok h
 | b e=>exact ⟨rfl,rfl⟩
 | o x=>exact hs
def fitP (n : Nat) : SQ → Option Pt
  | .c s=>match Nat.beq n 1,fitC s with
    | true,true=>some (.one s)
    | _,_=>none
  | .p ps=>match Nat.beq (sizeP ps) n with
    | true=>match ps with
      | [.agg m cs]=>some (.agg m cs)
      | _=>some (.agg n (catP ps))
    | false=>none
theorem fitP_ok {n : Nat} {q : SQ} {p : Pt} (hq : q.Ok) (h : fitP n q = some p) : p.Ok ∧ p.size = n ∧ q.den.cells = p.cells:=by
 cases q with
 | c s =>
  simp only [fitP] at h
  split at h
  ·rename_i e1 e2
   injection h with h
   subst h;obtain ⟨h1,h2⟩:=fitC_ok hq e2;exact ⟨⟨hq,h1,h2⟩,(Nat.eq_of_beq_eq_true e1).symm,h2⟩
  ·cases h
 | p ps =>
  simp only [fitP] at h
  split at h
  ·rename_i e
   have e:=Nat.eq_of_beq_eq_true e
   split at h
   ·rename_i m cs
    injection h with h
    subst h;exact ⟨hq _ List.mem_cons_self,e,rfl⟩
   ·injection h with h
    subst h;exact ⟨⟨(OkP.size hq).trans e,OkP.one hq⟩,rfl,rfl⟩
  ·cases h
def SQ.parts : SQ → Option (List Pt)
  | .p ps=>some ps
  | _=>none
theorem SQ.parts_ok {q : SQ} {ps : List Pt} (h : q.parts = some ps) : q = .p ps:=by
 cases q with
 | c x=>cases h
 | p qs=>cases h; rfl
def storeS (T : List TyR) (ps : List Pt) (t : TypeId) (off : Nat) (q : SQ) : Option (List Pt):=match findT T t with
  | none=>none
  | some r=>match Nat.beq off 0,Nat.beq (sizeP ps) (sizeP r.zero),q.parts with
    | true,true,some qs=>match Nat.beq (sizeP qs) (sizeP r.zero) with
      | true=>some qs
      | false=>none
    | _,_,_=>match fitP (sizeP r.zero) q with
      | some p=>setP ps off p
      | none=>none
theorem run_store_part {P : Program} {w : World} {t : TypeId} {g off ty : Nat} {v : Value} {cs : Array Value} (hb : Blk w g ty cs) (hi : (P.info? t).map (·.size) = some v.cells.size) (hfit : off + v.cells.size ≤ cs.size) (h1 : ∀ u ∈ v.cells.toList,u.oneCell' = true) :
  (Instr.storeAt t (.pointer (some ⟨g,off,none⟩)) v).run P w = .ok () (w.setRow g (cs.toList.take off ++ v.cells.toList ++ cs.toList.drop (off + v.cells.size)).toArray):=by
 have hst:=run_storeCells_at P g off ty v.cells.toList 0 cs w hb (by simp; omega) h1;simp only [Nat.add_zero,Array.length_toList] at hst
 cases hq : P.info? t with
 | none=>simp [hq] at hi
 | some i =>
  have hs : i.size = v.cells.size:=by simpa [hq] using hi
  simp [Instr.storeAt,Instr.sureAddr,storeVar,sizeOf,typeInfo,hq,hs,Sem.run_bind,hst]
theorem storeS_ok {P : Program} {T : List TyR} (hT : OkT P T) {ps ps' : List Pt} {t : TypeId} {off : Nat} {q : SQ} (hok : OkP ps) (hq : q.Ok) (h : storeS T ps t off q = some ps') :
  OkP ps' ∧ ∀ {w : World} {g ty : Nat},Blk w g ty (catP ps) → (Instr.storeAt t (.pointer (some ⟨g,off,none⟩)) q.den).run P w = .ok () (w.setRow g (catP ps')):=by
 unfold storeS at h
 split at h
 ·cases h
 rename_i r hr
 have hro:=findT_ok hT hr;clear hr;obtain ⟨hro,rfl⟩:=hro;obtain ⟨it,d,h1,h2,h3,h4,h5, -⟩:=hro.info
 split at h
 ·rename_i qs e1 e2 eq
  obtain rfl:=SQ.parts_ok eq
  split at h
  ·rename_i e3
   injection h with h
   subst h;obtain rfl:=Nat.eq_of_beq_eq_true e1;have e2:=Nat.eq_of_beq_eq_true e2;have e3:=Nat.eq_of_beq_eq_true e3
   have hsz : (catP qs).size = (catP ps).size:=by rw [OkP.size hq,hok.size,e2,e3]
   refine ⟨hq,fun hb=>?_⟩;have hr:=run_store_part (P:=P) (t:=r.t) (v:=.agg (catP qs)) (off:=0) hb (by rw [h1,Option.map_some,h3]; exact congrArg some ((OkP.size hq).trans e3).symm) (by rw [Nat.zero_add]; exact Nat.le_of_eq hsz) (OkP.one hq);simp only [Value.cells,List.take_zero,List.nil_append,Nat.zero_add] at hr;rw [List.drop_eq_nil_of_le (by rw [Array.length_toList]; omega),List.append_nil,Array.toArray_toList] at hr;exact hr
  ·cases h
 ·split at h
  ·rename_i p hp
   obtain ⟨hp1,hp2,hp3⟩:=fitP_ok hq hp;obtain ⟨h6,h7,A,B,Z,h8,h9,h10,h11⟩:=setP_ok hok hp1 h;refine ⟨h6,fun hb=>?_⟩
   have hsz : q.den.cells.size = B.length:=by rw [hp3,hp1.size,h10]
   have hcl : (catP ps).size = A.length + (B.length + Z.length):=by
    rw [← Array.length_toList,h8,List.length_append,List.length_append]
   have hr:=run_store_part (P:=P) (t:=r.t) (v:=q.den) (off:=off) hb (by rw [h1,Option.map_some,h3,hp3,hp1.size,hp2]) (by omega) (by rw [hp3]; exact hp1.one);rw [hr]
   congr 1
   rw [← Array.toArray_toList (xs:=catP ps'),h11,h8,hsz,← h9,hp3]
   congr 2
   rw [List.take_left,List.append_assoc,← List.append_assoc A B Z,← List.length_append,List.drop_left]
  ·cases h

/-! ### Fields, structs -/
def fieldS (T : List TyR) (t : TypeId) (i : Nat) : Option Nat:=match findT T t with
  | none=>none
  | some r=>match Nat.beq r.kind 2 with
    | true=>match (placesP 0 r.zero)[i]? with
      | some (o,n)=>match Nat.ble 1 n with
        | true=>some o
        | false=>none
      | none=>none
    | false=>none
theorem mapM_get {α β : Type} {f : α → Option β} : ∀ {l : List α} {m : List β},l.mapM f = some m → ∀ (i : Nat) b,m[i]? = some b → ∃ a,l[i]? = some a ∧ f a = some b
 | [],m,h,i,b,hb=>by
  have : m = []:=by simpa using h.symm
  subst this
  simp at hb
 | x :: l,m,h,i,b,hb=>by
  rw [List.mapM_cons] at h
  cases hx : f x with
  | none=>rw [hx] at h; cases h
  | some y =>
   rw [hx] at h
   cases hm : l.mapM f with
   | none=>rw [hm] at h; cases h
   | some ys =>
    rw [hm] at h;have e : m = y :: ys:=(Option.some.inj h).symm;subst e
    cases i with
    | zero =>
     simp only [List.getElem?_cons_zero,Option.some.injEq] at hb;exact ⟨x,rfl,by rw [hx,hb]⟩
    | succ i =>
     obtain ⟨a,h1,h2⟩:=mapM_get hm i b (by simpa using hb);exact ⟨a,by simpa using h1,h2⟩
theorem fieldS_ok {P : Program} {T : List TyR} (hT : OkT P T) {t : TypeId} {i o : Nat} (h : fieldS T t i = some o) (g off : Nat) (w : World) :
  (Instr.fieldAt t (.pointer (some ⟨g,off,none⟩)) i).run P w = .ok (.pointer (some ⟨g,off + o,none⟩)) w:=by
 unfold fieldS at h
 split at h
 ·cases h
 rename_i r hr
 have hro:=findT_ok hT hr;clear hr;obtain ⟨hro,rfl⟩:=hro;obtain ⟨it,d,h1,h2,h3,h4,h5,h6, -⟩:=hro.info
 split at h
 ·rename_i hk
  have hk:=Nat.eq_of_beq_eq_true hk
  split at h
  ·rename_i o' n hp
   split at h
   ·rename_i hn
    injection h with h
    subst h;have hn:=Nat.le_of_ble_eq_true hn
    have hd : kindOf d = 2:=by rw [h5,hk]
    cases d <;> first | (cases hd; done) | skip
    rename_i fs
    rw [hk] at h6
    dsimp only at h6
    obtain ⟨f,h7,h8⟩:=mapM_get h6 i (o',n) hp
    cases hf : P.info? f.type with
    | none=>rw [hf] at h8; cases h8
    | some fi =>
     rw [hf] at h8;simp only [Option.map_some,Option.some.injEq,Prod.mk.injEq] at h8
     have h9 : fs[i]? = some f:=by simpa using h7
     have h10 : ¬ fi.size = 0:=by omega
     simp only [Instr.fieldAt,Sem.run_bind,run_underlying h2,Result.andThen_ok,h9,Instr.sureAddr,Sem.run_pure,fieldPlace,sizeOf,typeInfo]
     simp [hf,h10,Addr.add_mid,h8.1]
   ·cases h
  ·cases h
 ·cases h
theorem fill_cells (place : Nat → Option (Nat × Nat)) (i n : Nat) (A O Z V : List Value) (rest : List (Nat × Value)) (v : Value) (hp : place i = some (A.length,n)) (hV : V.length = n) (hO : O.length = n) (hv : v.cells = V.toArray) :
  Instr.fill place (A ++ (O ++ Z)).toArray ((i,v) :: rest) = Instr.fill place (A ++ (V ++ Z)).toArray rest:=by
 have:=fill_put place i n A O Z V rest hp hV hO;rw [← this,Instr.fill,Instr.fill,hv]
 rfl
def buildS (E : SE) : List Pt → List (Nat × Operand) → Option (List Pt)
  | zs,[]=>some zs
  | zs,(i,x) :: r=>match zs[i]?,evS E x with
    | some z,some (.q q)=>match fitP z.size q with
      | some p=>buildS E (zs.set i p) r
      | none=>none
    | _,_=>none
theorem catP_set : ∀ {zs : List Pt} {i : Nat} {z p : Pt},zs[i]? = some z → ∃ A Z : List Value,(catP zs).toList = A ++ (z.cells.toList ++ Z) ∧ (catP (zs.set i p)).toList = A ++ (p.cells.toList ++ Z) ∧ ∀ o,OkP zs → (placesP o zs)[i]? = some (o + A.length,z.size)
 | [],i,z,p,h=>by simp at h
 | y :: zs,0,z,p,h=>by
  simp only [List.getElem?_cons_zero,Option.some.injEq] at h;subst h;refine ⟨[],(catP zs).toList,by rw [catP_cons]; simp,by rw [List.set_cons_zero,catP_cons]; simp,fun o _=>by simp [placesP]⟩
 | y :: zs,i + 1,z,p,h=>by
  obtain ⟨A,Z,h1,h2,h3⟩:=catP_set (zs:=zs) (i:=i) (p:=p) (by simpa using h);refine ⟨y.cells.toList ++ A,Z,by rw [catP_cons,Array.toList_append,h1,List.append_assoc],by rw [List.set_cons_succ,catP_cons,Array.toList_append,h2,List.append_assoc],fun o hok=>?_⟩;have h4:=h3 (o + y.size) fun x hx=>hok x (by simp [hx]);rw [List.length_append,Array.length_toList,(hok y (by simp)).size,← Nat.add_assoc]
  simpa [placesP] using h4
theorem okP_set {zs : List Pt} {i : Nat} {p : Pt} (h : OkP zs) (hp : p.Ok) : OkP (zs.set i p):=fun x hx=>by
 rcases List.mem_or_eq_of_mem_set hx with h1 | rfl
 ·exact h x h1
 ·exact hp
theorem places_set : ∀ {zs : List Pt} {i : Nat} {z p : Pt} (o : Nat),zs[i]? = some z → p.size = z.size → placesP o (zs.set i p) = placesP o zs
 | [],i,z,p,o,h,_=>by simp at h
 | y :: zs,0,z,p,o,h,e=>by
  simp only [List.getElem?_cons_zero,Option.some.injEq] at h;subst h;simp only [List.set_cons_zero,placesP,e]
 | y :: zs,i + 1,z,p,o,h,e=>by
  simp only [List.set_cons_succ,placesP];rw [places_set (z:=z) _ (by simpa using h) e]
theorem fill_ok {G : Nat → Nat} {E : SE} (hE : OkE E) {places : List (Nat × Nat)} : ∀ {parts : List (Nat × Operand)} {zs ps : List Pt},OkP zs → placesP 0 zs = places → buildS E zs parts = some ps →
  ∀ (f : Operand → Value),(∀ x v,evS E x = some v → f x = v.den G) → OkP ps ∧ Instr.fill (places.toArray[·]?) (catP zs) (parts.map fun (i,x)=>(i,f x)) = some (catP ps)
 | [],zs,ps,hz,_,h,f,_=>by
  cases h
  exact ⟨hz,rfl⟩
 | (i,x) :: r,zs,ps,hz,hpl,h,f,hf=>by
  unfold buildS at h
  split at h
  ·rename_i z q hi hx
   split at h
   ·rename_i p hp
    have hq : q.Ok:=hE.ev hx;obtain ⟨h1,h2,h3⟩:=fitP_ok hq hp;obtain ⟨A,Z,h4,h5,h6⟩:=catP_set (p:=p) hi;have h7:=h6 0 hz;rw [hpl,Nat.zero_add] at h7;have hzo:=hz z (List.mem_of_getElem? hi);obtain ⟨h8,h9⟩:=fill_ok hE (parts:=r) (okP_set hz h1) ((places_set 0 hi h2).trans hpl) h f hf;refine ⟨h8,?_⟩;rw [← h9];have hv : f x = q.den:=hf x _ hx;rw [List.map_cons,← Array.toArray_toList (xs:=catP zs),h4];have:=fill_cells (fun k=>places.toArray[k]?) i p.size A z.cells.toList Z p.cells.toList (r.map fun (i,x)=>(i,f x)) (f x) (by simpa [h2] using h7) (by rw [Array.length_toList,h1.size]) (by rw [Array.length_toList,hzo.size,h2]) (by rw [hv,h3,Array.toArray_toList]);rw [this,← h5,Array.toArray_toList]
   ·cases h
  ·cases h
end Go.Proofs.YtlcbhbahchiofaaGreatDoor
/-
  STEPS OVER STATES, reckoned at once.
-/
namespace Go.Proofs.YtlcbhbahchiofaaGreatDoor
open Go.RowKit Go.IntWalk

def ikB : IntKind → IntKind → Bool
  | .i8,.i8=>true
  | .i16,.i16=>true
  | .i32,.i32=>true
  | .i64,.i64=>true
  | .u8,.u8=>true
  | .u16,.u16=>true
  | .u32,.u32=>true
  | .u64,.u64=>true
  | _,_=>false
theorem ikB_ok {a b : IntKind} (h : ikB a b = true) : a = b:=by
 cases a <;> cases b <;> first | rfl | cases h
def nzB : Operand → Bool
  | .const (.int _ (.ofNat (_ + 1)))=>true
  | _=>false
def binS (op : BinOp) (y : Operand) (K : IntKind) (m n : Int) : Option SV:=match op with
  | .add=>some (.v (.int K (K.wrap (m + n))))
  | .sub=>some (.v (.int K (K.wrap (m - n))))
  | .mul=>some (.v (.int K (K.wrap (m * n))))
  | .quo=>match nzB y with
    | true=>some (.v (.int K (K.wrap (m.tdiv n))))
    | false=>none
  | .rem=>match nzB y with
    | true=>some (.v (.int K (m.tmod n)))
    | false=>none
  | .eql=>some (.b (decide (m = n)))
  | .neq=>some (.b (decide (m ≠ n)))
  | .lss=>some (.b (decide (m < n)))
  | .leq=>some (.b (decide (m ≤ n)))
  | .gtr=>some (.b (decide (m > n)))
  | .geq=>some (.b (decide (m ≥ n)))
  | _=>none
theorem nzB_ok {E : SE} {y : Operand} {K : IntKind} {n : Int} (h : nzB y = true) (hy : evS E y = some (.v (.int K n))) : n ≠ 0:=by
 unfold nzB at h
 split at h
 ·injection hy with hy
  injection hy with hy
  injection hy with hy
  injection hy with hy
  injection hy with _ hy
  subst hy;exact fun h=>(by cases h)
 ·cases h
theorem binS_ok {P : Program} {E : SE} {op : BinOp} {t : TypeId} {y : Operand} {K : IntKind} {m n : Int} {v : SV} (hy : evS E y = some (.v (.int K n))) (h : binS op y K m n = some v) :
  v.Ok ∧ ∀ G w,(binOp op t (.int K m) (.int K n)).run P w = .ok (v.den G) w:=by
 cases op <;> simp only [binS] at h
 case quo =>
  split at h
  ·rename_i hz
   have:=nzB_ok hz hy
   injection h with h
   subst h;exact ⟨trivial,fun G w=>by simp [binOp,Op.intDiv,this,SV.den,SQ.den,SC.den]⟩
  ·cases h
 case rem =>
  split at h
  ·rename_i hz
   have:=nzB_ok hz hy
   injection h with h
   subst h;exact ⟨trivial,fun G w=>by simp [binOp,Op.intDiv,this,SV.den,SQ.den,SC.den]⟩
  ·cases h
 all_goals first | (cases h; done) | skip
 all_goals injection h with h
 all_goals subst h
 all_goals refine ⟨trivial,fun G w=>?_⟩
 all_goals first | (simp [binOp,Op.intArith,SV.den,SQ.den,SC.den]; done) | skip
 all_goals simp [binOp,Op.intCmp,SV.den,SQ.den,SC.den]
 all_goals rfl
def stepS (T : List TyR) (E : SE) (L : List LV) : Op → Option SV
  | .move x=>evS E x
  | .assign x=>evS E x
  | .pick c x y=>match evS E c with
    | some (.q (.c (.v (.bool true))))=>evS E x
    | some (.q (.c (.v (.bool false))))=>evS E y
    | _=>none
  | .extract x i=>match evS E x with
    | some (.t vs)=>match vs[i]? with
      | some q=>some (.q q)
      | none=>none
    | _=>none
  | .unOp .not _ x=>match evS E x with
    | some (.q (.c (.v (.bool true))))=>some (.v (.bool false))
    | some (.q (.c (.v (.bool false))))=>some (.v (.bool true))
    | some (.q (.c (.b e)))=>some (.b !e)
    | _=>none
  | .nilCheck x=>match evS E x with
    | some (.a j off)=>some (.a j off)
    | some (.q (.c (.v (.pointer (some p)))))=>some (.v (.pointer (some p)))
    | _=>none
  | .fieldAddr t x i=>match evS E x,fieldS T t i with
    | some (.a j off),some o=>some (.a j (off + o))
    | some (.q (.c (.v (.pointer (some ⟨g,off,none⟩))))),some o=>some (.v (.pointer (some ⟨g,off + o,none⟩)))
    | _,_=>none
  | .load t x=>match evS E x with
    | some (.a j off)=>match lookL L j with
      | some ps=>match loadS T ps t off with
        | some q=>some (.q q)
        | none=>none
      | none=>none
    | _=>none
  | .build t parts=>match findT T t with
    | some r=>match Nat.beq r.kind 2 with
      | true=>match buildS E r.zero parts.toList with
        | some ps=>some (.p ps)
        | none=>none
      | false=>match Nat.beq r.kind 1,parts.toList with
        | true,[]=>some (.p r.zero)
        | _,_=>none
    | none=>none
  | .binOp op t x y _=>match evS E x,evS E y with
    | some (.q (.c (.v (.int K m)))),some (.q (.c (.v (.int K' n))))=>match ikB K K' with
      | true=>binS op y K m n
      | false=>none
    | some (.q (.c (.v (.pointer p)))),some (.q (.c (.v (.pointer none))))=>match findT T t with
      | some r=>match r.pt,op,p with
        | true,.eql,none=>some (.v (.bool true))
        | true,.eql,some _=>some (.v (.bool false))
        | true,.neq,none=>some (.v (.bool false))
        | true,.neq,some _=>some (.v (.bool true))
        | _,_,_=>none
      | none=>none
    | _,_=>none
  | .convert src dst x=>match findT T src,findT T dst,evS E x with
    | some _,some r,some (.q (.c (.v (.int _ n))))=>match r.ik with
      | some K=>some (.v (.int K (K.wrap n)))
      | none=>none
    | _,_,_=>none
  | .call { callee:=.builtin .len,args:=⟨[x]⟩,argTypes:=⟨[t]⟩ }=>match findT T t with
    | some r=>match r.el,evS E x with
      | some _,some (.q (.c (.v (.slice _ n _))))=>some (.v (.int .i64 (n : Int)))
      | some _,some (.s _ _ n _)=>some (.v (.int .i64 (n : Int)))
      | _,_=>none
    | none=>none
  | _=>none
def OkL (L : List LV) : Prop:=∀ x ∈ L,OkP x.ps
def LAt (G : Nat → Nat) (L : List LV) (w : World) : Prop:=∀ x ∈ L,Blk w (G x.j) x.t (catP x.ps)
theorem built_eq {P : Program} {t : TypeId} {r : TyR} (hr : r.ok P) (ht : r.t = t) (hk : r.kind = 2) (parts : List (Nat × Value)) : P.built t parts = Instr.fill ((placesP 0 r.zero).toArray[·]?) (catP r.zero) parts:=by
 subst ht;obtain ⟨it,d,h1,h2,h3,h4,h5,h6, -⟩:=hr.info;rw [hk] at h5 h6
 cases d <;> first | (cases h5; done) | skip
 rename_i fs
 dsimp only at h6
 cases hz : it.zero with
 | none=>rw [hz] at h4; cases h4
 | some z =>
  rw [hz] at h4;simp only [Option.map_some,Option.some.injEq] at h4
  unfold Program.built
  simp only [h1,h2,hz,h6,h4]
theorem built_row1 {P : Program} {t : TypeId} {r : TyR} (hr : r.ok P) (ht : r.t = t) (hk : r.kind = 1) : P.built t [] = some (catP r.zero):=by
 subst ht;obtain ⟨it,d,h1,h2,h3,h4,h5,h6, -⟩:=hr.info;rw [hk] at h5 h6
 cases d <;> first | (cases h5; done) | skip
 rename_i n e
 dsimp only at h6
 cases he : P.info? e with
 | none=>rw [he] at h6; cases h6
 | some ie =>
  cases hz : it.zero with
  | none=>rw [hz] at h4; cases h4
  | some z =>
   rw [hz] at h4;simp only [Option.map_some,Option.some.injEq] at h4
   unfold Program.built
   simp only [h1,h2,hz,he,h4]
   rfl
theorem run_len {P : Program} {t : TypeId} {e : TypeId} (ht : P.underlying t = some (.slice e)) (ty : TypeId) (A : Option Addr) (n c : Nat) (w : World) : (Builtin.len_ #[t] ty #[.slice A n c]).run P w = .ok (.int .i64 (n : Int)) w:=by
 simp [Builtin.len_,run_underlying ht,goInt]
theorem stepS_ok {P : Program} {T : List TyR} (hT : OkT P T) {E : SE} {L : List LV} {N : Nat} {o : Oper} {v : SV} (hE : OkE E) (hL : OkL L) (h : stepS T E L o.op = some v) :
    v.Ok ∧ ∀ {G : Nat → Nat} {a : Act} {w : World},Fr N (denE G E) a → LAt G L w → (execOp a.eval o).run P w = .ok (.value (v.den G)) w:=by
  obtain ⟨dst,op,ty,pos,af,gd⟩:=o
  dsimp only at h
  have hev : ∀ {x : Operand} {u : SV},evS E x = some u → ∀ {G : Nat → Nat} {a : Act},Fr N (denE G E) a → a.eval x = u.den G:=by
    intro x u hx G a ha
    exact ha.eval (evS_ok hx)
  cases op
  case move x =>
    refine ⟨hE.ev h,fun ha _=>?_⟩;have h1:=hev h ha
    unfold execOp
    simp only [h1,Sem.run_pure]
  case assign x =>
    refine ⟨hE.ev h,fun ha _=>?_⟩;have h1:=hev h ha
    unfold execOp
    simp only [h1,Sem.run_pure]
  case pick c x y =>
    simp only [stepS] at h
    split at h
    · rename_i hc
      refine ⟨hE.ev h,fun ha _=>?_⟩;have h1:=hev hc ha;have h2:=hev h ha
      unfold execOp
      simp only [h1,h2,SV.den,SQ.den,SC.den,asBool,Sem.run_bind,Sem.run_pure,Result.andThen_ok,if_true]
    · rename_i hc
      refine ⟨hE.ev h,fun ha _=>?_⟩;have h1:=hev hc ha;have h2:=hev h ha
      unfold execOp
      simp only [h1,h2,SV.den,SQ.den,SC.den,asBool,Sem.run_bind,Sem.run_pure,Result.andThen_ok,Bool.false_eq_true,if_false]
    · cases h
  case extract x i =>
    simp only [stepS] at h
    split at h
    · rename_i vs hx
      split at h
      · rename_i q hq
        injection h with h
        subst h;refine ⟨hE.ev hx q (List.mem_of_getElem? hq),fun ha _=>?_⟩;have h1:=hev hx ha
        have h2 : (vs.map SQ.den).toArray[i]? = some q.den:=by simp [hq]
        unfold execOp
        simp only [h1,SV.den,Instr.extract,h2,Sem.run_bind,Sem.run_pure,Result.andThen_ok]
      · cases h
    · cases h
  case unOp k t x =>
    cases k
    case not =>
      simp only [stepS] at h
      split at h
      · rename_i hx
        injection h with h
        subst h;refine ⟨trivial,fun ha _=>?_⟩;have h1:=hev hx ha
        unfold execOp
        simp only [h1,SV.den,SQ.den,SC.den,Op.unary,Sem.run_bind,Sem.run_pure,Result.andThen_ok,Bool.not_true]
      · rename_i hx
        injection h with h
        subst h;refine ⟨trivial,fun ha _=>?_⟩;have h1:=hev hx ha
        unfold execOp
        simp only [h1,SV.den,SQ.den,SC.den,Op.unary,Sem.run_bind,Sem.run_pure,Result.andThen_ok,Bool.not_false]
      · rename_i e hx
        injection h with h
        subst h;refine ⟨trivial,fun ha _=>?_⟩;have h1:=hev hx ha
        unfold execOp
        simp only [h1,SV.den,SQ.den,SC.den,Op.unary,Sem.run_bind,Sem.run_pure,Result.andThen_ok]
      · cases h
    all_goals cases h
  case nilCheck x =>
    simp only [stepS] at h
    split at h
    · rename_i j off hx
      injection h with h
      subst h;refine ⟨trivial,fun ha _=>?_⟩;have h1:=hev hx ha
      unfold execOp
      simp only [h1,SV.den,Sem.run_pure]
    · rename_i p hx
      injection h with h
      subst h;refine ⟨trivial,fun ha _=>?_⟩;have h1:=hev hx ha
      unfold execOp
      simp only [h1,SV.den,SQ.den,SC.den,Sem.run_pure]
    · cases h
  case fieldAddr t x i =>
    simp only [stepS] at h
    split at h
    · rename_i j off o hx ho
      injection h with h
      subst h;refine ⟨trivial,fun ha _=>?_⟩;have h1:=hev hx ha
      unfold execOp
      simp only [h1,SV.den,fieldS_ok hT ho,Sem.run_bind,Sem.run_pure,Result.andThen_ok]
    · rename_i g off o hx ho
      injection h with h
      subst h;refine ⟨trivial,fun ha _=>?_⟩;have h1:=hev hx ha
      unfold execOp
      simp only [h1,SV.den,SQ.den,SC.den,fieldS_ok hT ho,Sem.run_bind,Sem.run_pure,Result.andThen_ok]
    · cases h
  case load t x =>
    simp only [stepS] at h
    split at h
    · rename_i j off hx
      split at h
      · rename_i ps hps
        split at h
        · rename_i q hq
          injection h with h
          subst h;obtain ⟨y,hy,rfl,rfl⟩:=lookL_mem hps;obtain ⟨h3,h4⟩:=loadS_ok hT (hL y hy) hq;refine ⟨h3,fun ha hl=>?_⟩;have h1:=hev hx ha
          unfold execOp
          simp only [h1,SV.den,h4 (hl y hy),Sem.run_bind,Sem.run_pure,Result.andThen_ok]
        · cases h
      · cases h
    · cases h
  case build t parts =>
    simp only [stepS] at h
    split at h
    · rename_i r hr
      split at h
      · rename_i hk
        split at h
        · rename_i ps hps
          injection h with h
          subst h;obtain ⟨h3,h4⟩:=findT_ok hT hr;have hf:=fun (G : Nat → Nat)=>fill_ok (G:=G) hE (places:=placesP 0 r.zero) h3.2 rfl hps;refine ⟨(hf (fun _=>0) (fun x=>((evS E x).map (SV.den fun _=>0)).getD undef) (fun x u hx=>by rw [hx]; rfl)).1,fun {G a w} ha _=>?_⟩;have h5:=(hf G a.eval (fun x u hx=>hev hx ha)).2;rw [← built_eq h3 h4 (Nat.eq_of_beq_eq_true hk)] at h5;have h6:=run_build (P:=P) w t (parts.map fun (i,x)=>(i,a.eval x)) (catP ps) (by rw [Array.toList_map]; exact h5)
          unfold execOp
          simp only [h6,SV.den,SQ.den,Sem.run_bind,Sem.run_pure,Result.andThen_ok]
        · cases h
      · split at h
        · rename_i hk hpt
          injection h with h
          subst h;obtain ⟨h3,h4⟩:=findT_ok hT hr
          have hpt' : parts = #[]:=by simpa using hpt
          subst hpt';refine ⟨h3.2,fun {G a w} _ _=>?_⟩;have h6:=run_build (P:=P) w t #[] (catP r.zero) (built_row1 h3 h4 (Nat.eq_of_beq_eq_true hk))
          unfold execOp
          simp only [List.map_toArray,List.map_nil,h6,SV.den,SQ.den,Sem.run_bind,Sem.run_pure,Result.andThen_ok]
        · cases h
    · cases h
  case binOp op t x y t2 =>
    simp only [stepS] at h
    split at h
    · rename_i K m K' n hx hy
      split at h
      · rename_i hK
        obtain rfl:=ikB_ok hK;obtain ⟨h1,h2⟩:=binS_ok (P:=P) (t:=t) hy h;refine ⟨h1,fun {G a w} ha _=>?_⟩;have e1:=hev hx ha;have e2:=hev hy ha
        have e3 : (eqGuard op t x y (.int K m) (.int K n)).run P w = .ok () w:=by
          cases op <;> rfl
        unfold execOp
        simp only [e1,e2,SV.den,SQ.den,SC.den,Sem.run_bind,e3,h2 G w,Sem.run_pure,Result.andThen_ok]
      · cases h
    · rename_i p hx hy
      split at h
      · rename_i r hr
        obtain ⟨h3,rfl⟩:=findT_ok hT hr;obtain ⟨it,d,h5,h6, -, -, -, -, -, -,h7, -⟩:=h3.info
        have hpt : r.pt = true → ∃ e,P.underlying r.t = some (.pointer e):=fun he=>by
          rw [he] at h7
          cases d <;> first | (cases h7; done) | skip
          exact ⟨_,h6⟩
        have key : ∀ {G : Nat → Nat} {a : Act} {w : World},Fr N (denE G E) a → ∀ b : Bool,(binOp op r.t (.pointer p) (.pointer none)).run P w = .ok (.bool b) w → (execOp a.eval ⟨dst,.binOp op r.t x y t2,ty,pos,af,gd⟩).run P w = .ok (.value (.bool b)) w:=fun {G a w} ha b hb=>by
          have e1:=hev hx ha;have e2:=hev hy ha
          have e3 : (eqGuard op r.t x y (.pointer p) (.pointer none)).run P w = .ok () w:=by
            cases op <;> rfl
          unfold execOp
          simp only [e1,e2,SV.den,SQ.den,SC.den,Sem.run_bind,e3,hb,Sem.run_pure,Result.andThen_ok]
        have heq : ∀ w,r.pt = true → (Op.equal r.t (.pointer p) (.pointer none)).run P w = .ok p.isNone w:=fun w he=>by
          obtain ⟨e,hu⟩:=hpt he
          unfold Op.equal Op.maxDepth
          rw [show (10000 : Nat) = 9999 + 1 from rfl,Op.equalIn];simp only [Sem.run_bind,run_underlying hu,Result.andThen_ok]
          cases p <;> rfl
        split at h
        all_goals first | (cases h; done) | skip
        all_goals rename_i he
        all_goals injection h with h
        all_goals subst h
        all_goals refine ⟨trivial,fun ha _=>key ha _ ?_⟩
        all_goals simp [binOp,heq _ he]
      · cases h
    · cases h
  case convert src dst' x =>
    simp only [stepS] at h
    split at h
    · rename_i r0 r K0 n h0 hr hx
      split at h
      · rename_i K hK
        injection h with h
        subst h;have q1:=findT_ok hT h0;have q2:=findT_ok hT hr;clear h0 hr;obtain ⟨q1,rfl⟩:=q1;obtain ⟨q2,rfl⟩:=q2;obtain ⟨it0,d0,_,h6, -⟩:=q1.info;obtain ⟨it,d,_,h7, -, -, -, -, -,h8, -⟩:=q2.info;rw [hK] at h8
        cases d <;> first | (cases h8; done) | skip
        injection h8 with h8
        subst h8;refine ⟨trivial,fun ha _=>?_⟩;have e1:=hev hx ha
        unfold execOp
        simp only [e1,SV.den,SQ.den,SC.den]
        simp [convert,run_underlying h6,run_underlying h7,Conv.intToInt]
      · cases h
    · cases h
  case call c =>
    obtain ⟨callee,args,ats⟩:=c
    cases callee
    case builtin bi =>
     cases bi
     case len =>
      obtain ⟨args⟩:=args;obtain ⟨ats⟩:=ats
      rcases args with _ | ⟨x,_ | ⟨y,r⟩⟩
      · cases h
      rcases ats with _ | ⟨t,_ | ⟨y,r⟩⟩
      all_goals first | (cases h; done) | skip
      simp only [stepS] at h
      split at h
      · rename_i r hr
        obtain ⟨h3,rfl⟩:=findT_ok hT hr;obtain ⟨it,d,h5,h6, -, -, -, -,h7, -⟩:=h3.info
        have hu : ∀ e,r.el = some e → P.underlying r.t = some (.slice e):=fun e he=>by
          rw [he] at h7
          cases d <;> first | (cases h7; done) | skip
          injection h7 with h7
          subst h7;exact h6
        split at h
        · rename_i e A n cc he hx
          injection h with h
          subst h;refine ⟨trivial,fun ha _=>?_⟩;have h1:=hev hx ha
          unfold execOp
          simp only [resolve,invoke,builtin,List.map_toArray,List.map_cons,List.map_nil,h1,SV.den,SQ.den,SC.den,Sem.run_bind,Sem.run_pure,Result.andThen_ok,run_len (hu e he)]
        · rename_i e j off n cc he hx
          injection h with h
          subst h;refine ⟨trivial,fun ha _=>?_⟩;have h1:=hev hx ha
          unfold execOp
          simp only [resolve,invoke,builtin,List.map_toArray,List.map_cons,List.map_nil,h1,SV.den,SQ.den,SC.den,Sem.run_bind,Sem.run_pure,Result.andThen_ok,run_len (hu e he)]
        · cases h
      · cases h
     all_goals cases h
    all_goals cases h
  all_goals cases h
end Go.Proofs.YtlcbhbahchiofaaGreatDoor
