/-
  SEVERAL TEXTS IN ONE: RegI, High, CpG, Word, Words, Limb, ElOps, ElSub, ElWhole, ElMul0, ElSteps, ElMul.
-/
import Derived.Test.YtminmeljonbogaaDoorMe
import Derived.Great.BuildSlice
import Derived.Test.YtminmeljonbogaaDoorMc
import Derived.Lib.Mul64
import Derived.StillTailTactics
import Derived.Test.YtminmeljonbogaaDoorMa
/-
  STEPS THAT MAKE MEMORY, over frames by what is known of them: slices of slices, calls whose answers lie in new memory, new variables; copies into a variable from any bytes.
-/
namespace Go.Proofs.YtminmeljonbogaaDoor
open Go.RowKit Go.IntWalk

/-! ### Bytes that are read -/
def SB (w : World) (v : Value) (l : List UInt8) : Prop:=∃ A c,v = .slice A l.length c ∧ SL w 0 w.heap.size A l c
def PT (w : World) (A : Option Addr) (ls : List (List UInt8)) : Prop:=Parts w w.heap.size A ls
theorem SB.later {w w' : World} {v : Value} {l : List UInt8} (h : SB w v l) (hb : Below w.heap.size w w') : SB w' v l:=by
 obtain ⟨A,c,e,h1⟩:=h;exact ⟨A,c,e,(h1.below hb (Nat.le_refl _)).more (Nat.le_refl _) hb.size⟩
theorem PT.later {w w' : World} {A : Option Addr} {ls : List (List UInt8)} (h : PT w A ls) (hb : Below w.heap.size w w') : PT w' A ls:=fun hl=>by
 obtain ⟨ad,e,h1,h2⟩:=h.below hb (Nat.le_refl _) hl;refine ⟨ad,e,Nat.lt_of_lt_of_le h1 hb.size,fun i l hi=>?_⟩;obtain ⟨A',c,h3,h4⟩:=h2 i l hi;exact ⟨A',c,h3,h4.more (Nat.le_refl _) hb.size⟩
theorem SB.nil (w : World) : SB w (.slice none 0 0) []:=⟨none,0,rfl,SL.nil _ _ _⟩
theorem SB.arr {w : World} {g t off n c : Nat} {z l : List UInt8} (h : Blk w g t (By z).toArray) (hl : (z.drop off).take n = l) (hn : l.length = n) (hc : n ≤ c) (hc2 : c ≤ 9223372036854775807) : SB w (.slice (some ⟨g,off,none⟩) n c) l:=by
 refine ⟨some ⟨g,off,none⟩,c,by rw [hn],by rw [hn]; exact hc,hc2,fun h=>(by cases h),fun _=>⟨_,rfl,Nat.zero_le _,h.lt,fun j x hx=>?_⟩⟩;rw [← hl,List.getElem?_take] at hx
 split at hx
 ·rw [List.getElem?_drop] at hx
  rw [Addr.add_mid,h.cell]
  simp [By,hx]
 ·cases hx
theorem SB.all {w : World} {g t n : Nat} {l : List UInt8} (h : Blk w g t (By l).toArray) (hn : l.length = n) (hc2 : n ≤ 9223372036854775807) : SB w (.slice (some ⟨g,0,none⟩) n n) l :=
 SB.arr h (by rw [List.drop_zero,List.take_of_length_le (by omega)]) hn (Nat.le_refl _) hc2
theorem GS.sb {w : World} {base c : Nat} {A : Option Addr} {l : List UInt8} (h : GS w base 5 A c (By l)) : SB w (.slice A l.length c) l:=by
 have h2:=h.2;rw [By_len] at h2
 rcases h2 with ⟨h1,h3⟩ | ⟨g,cap,cur,hv,_,hg,hn,hc,_,htk⟩
 ·injection h1 with h4 h5 h6
  have:=List.eq_nil_of_length_eq_zero h3;subst h4 h6 this;exact SB.nil w
 ·injection hv with h4 h5 h6
  subst h4 h6;refine ⟨_,c,rfl,hn,by unfold maxLen at hc; omega,fun h=>(by cases h),fun _=>⟨_,rfl,Nat.zero_le _,Blk.lt hg,fun j x hx=>?_⟩⟩;have hB : Blk w g _ cur:=hg;rw [Addr.add_mid,hB.cell,Nat.zero_add]
  have h7 : (By l)[j]? = some (.int .u8 (x.toNat : Int)):=by simp [By,hx]
  rw [← htk,List.getElem?_take] at h7
  split at h7
  ·simpa using h7
  ·cases h7
/-! ### Steps -/
section
variable {ops : Array Oper} {Rel : World → World → Prop} [hR : RelOk Rel] {C0 : World → Prop} {Q : Facts → Act → Prop} {N : Nat} {E : List (Nat × Value)} {Fa : Told} {o : Oper} {rest : List (Nat × Oper)} {i k : Nat}
theorem g_call {f : FuncId} {xs : Array Operand} {ats : Array TypeId} (args : Array Value) (V : Value → World → Prop) (hg : o.guard = none) (hd : o.dst = some k) (hk : Nat.blt k N = true) (hf : farP i Fa = true) (hp : ∀ v,Pers Rel (V v)) (hown : Own f)
  (hc : ∀ w,C0 w → Uses o Fa w → Calls Tryd.prog f args w (fun e w'=>∃ v,e = .returned v ∧ V v w' ∧ Below w.heap.size w w'))
  (ho : o.op = .call { callee:=.value (.func f),args:=xs,argTypes:=ats }) (hx : xs.toList.map (ev E) = args.toList.map some)
  (hn : ∀ v w,C0 w → V v w → gF Tryd.prog Rel ops C0 Q rest N ((k,v) :: E) ((i,V v) :: Fa)) : gF Tryd.prog Rel ops C0 Q ((i,o) :: rest) N E Fa :=
 g_mem V hg hd hk hf (by rw [ho]; rfl) hp (fun a ha w hw hu=>by
  rw [run_call_fn hown ho,map_eval (ha.evals _ _ hx)]
  exact ⟨rfl,(hc w hw hu).mono fun e w' ⟨v,h1,h2,h3⟩=>⟨v,h1,hR.below _ _ h3,h2⟩⟩) hn
theorem g_alloc {ty : TypeId} (zs : Array Value) (base : Nat) (hg : o.guard = none) (hd : o.dst = some k) (hk : Nat.blt k N = true) (hf : farP i Fa = true) (ho : o.op = .alloc ty) (hz : (Tryd.prog.info? ty).bind (fun i=>i.zero.map (·.cells)) = some zs)
  (hb : ∀ w,C0 w → base ≤ w.heap.size) (hp : ∀ g,Pers Rel fun w=>base ≤ g ∧ Blk w g ty zs)
  (hn : ∀ g w,C0 w → base ≤ g → Blk w g ty zs → gF Tryd.prog Rel ops C0 Q rest N ((k,.pointer (some ⟨g,0,none⟩)) :: E) ((i,fun w=>base ≤ g ∧ Blk w g ty zs) :: Fa)) : gF Tryd.prog Rel ops C0 Q ((i,o) :: rest) N E Fa :=
 g_mem (fun v w=>∃ g,v = .pointer (some ⟨g,0,none⟩) ∧ base ≤ g ∧ Blk w g ty zs) hg hd hk hf (by rw [ho]; rfl) (fun v w w' ⟨g,e,h⟩ hr=>⟨g,e,hp g w w' h hr⟩) (fun a _ w hw _=>by
  rw [exec_alloc ho hz a w]
  exact ⟨hR.below _ _ ((Below.refl w.heap.size w).alloc (Nat.le_refl _) _),w.heap.size,rfl,hb w hw,Blk.new w _ _⟩) (fun v w hw ⟨g,e,h1,h2⟩=>by
  subst e
  intro a F ha hF
  refine hn g w hw h1 h2 a F ha fun x hx w hw=>?_
  rcases List.mem_cons.1 hx with rfl | hx
  ·obtain ⟨g',e,h⟩:=hF (i,fun w=>∃ g',Value.pointer (some ⟨g,0,none⟩) = .pointer (some ⟨g',0,none⟩) ∧ base ≤ g' ∧ Blk w g' ty zs) List.mem_cons_self w hw
   injection e with e
   injection e with e
   injection e with e
   subst e;exact h
  ·exact hF x (List.mem_cons_of_mem _ hx) w hw)
end

theorem cells_slices : (Tryd.prog.info? 23).map (fun i=>(i.zero,i.size,i.bytes)) = some (some (.slice none 0 0),1,24):=by kernel_rfl
theorem run_slices (vs : List Value) (n : Nat) (parts : Array (Nat × Value)) (hp : parts.toList = (vs.zipIdx 0).map fun x=>(x.2,x.1)) (hn : vs.length = n) (h0 : 0 < n) (h24 : n ≤ 16777216) (h1 : ∀ v ∈ vs,v.cells = #[v]) (w : World) :
  (Instr.buildSlice 63 n parts).run Tryd.prog w = .ok (.slice (some ⟨w.heap.size,0,none⟩) n n) (w.alloc (.cells vs.toArray 23)):=by
 obtain ⟨ie,h2,h3,h4,_⟩:=info_parts cells_slices;refine run_buildSlice w 63 23 n parts vs.toArray ie _ Tryd.underlying63 h2 h3 (by rw [h4]; omega) (by rw [h4]; omega) ?_;rw [hp,h4];exact Great.fill_flat _ _ h1 (by simp [hn])
def All2 (w : World) : List Value → List (List UInt8) → Prop
  | [],[]=>True
  | v :: vs,l :: ls=>SB w v l ∧ All2 w vs ls
  | _,_=>False
theorem All2.len {w : World} : ∀ {vs : List Value} {ls : List (List UInt8)},All2 w vs ls → vs.length = ls.length
 | [],[],_=>rfl
 | _ :: _,_ :: _,h=>by rw [List.length_cons,List.length_cons,All2.len h.2]
 | [],_ :: _,h=>h.elim
 | _ :: _,[],h=>h.elim
theorem All2.get {w : World} : ∀ {vs : List Value} {ls : List (List UInt8)},All2 w vs ls → ∀ (i : Nat) l,ls[i]? = some l → ∃ v,vs[i]? = some v ∧ SB w v l
 | [],[],_,i,l,h=>by simp at h
 | v :: vs,l0 :: ls,h,0,l,hi=>by
  simp only [List.getElem?_cons_zero,Option.some.injEq] at hi;subst hi;exact ⟨v,rfl,h.1⟩
 | v :: vs,l0 :: ls,h,i + 1,l,hi=>by
  obtain ⟨u,h1,h2⟩:=All2.get h.2 i l (by simpa using hi);exact ⟨u,by simpa using h1,h2⟩
 | [],_ :: _,h,_,_,_=>h.elim
 | _ :: _,[],h,_,_,_=>h.elim
theorem All2.one {w : World} : ∀ {vs : List Value} {ls : List (List UInt8)},All2 w vs ls → ∀ v ∈ vs,v.cells = #[v] ∧ v.oneCell' = true
 | [],_,_,v,hv=>by simp at hv
 | u :: vs,l :: ls,h,v,hv=>by
  rcases List.mem_cons.1 hv with rfl | hv
  ·obtain ⟨A,c,rfl,_⟩:=h.1
   exact ⟨rfl,rfl⟩
  ·exact All2.one h.2 v hv
 | _ :: _,[],h,_,_=>h.elim
theorem All2.later {w w' : World} (hb : Below w.heap.size w w') : ∀ {vs : List Value} {ls : List (List UInt8)},All2 w vs ls → All2 w' vs ls
 | [],[],_=>trivial
 | _ :: _,_ :: _,h=>⟨h.1.later hb,All2.later hb h.2⟩
 | [],_ :: _,h=>h.elim
 | _ :: _,[],h=>h.elim
structure NewS (base : Nat) (vs : List Value) (ls : List (List UInt8)) (g : Nat) (w : World) : Prop where
  ge : base ≤ g
  blk : Blk w g 23 vs.toArray
  all : All2 w vs ls
theorem NewS.later {base g : Nat} {vs : List Value} {ls : List (List UInt8)} {w w' : World} (h : NewS base vs ls g w) (hb : Below w.heap.size w w') : NewS base vs ls g w':=⟨h.ge,h.blk.later hb,All2.later hb h.all⟩
theorem pt_of {w : World} {g : Nat} {vs : List Value} {ls : List (List UInt8)} {cs : Array Value} {t : Nat} (hB : Blk w g t cs) (htk : ∀ (j : Nat) (v : Value),vs[j]? = some v → cs[j]? = some v) (h : All2 w vs ls) : PT w (some ⟨g,0,none⟩) ls:=fun _=>by
 refine ⟨_,rfl,hB.lt,fun i l hi=>?_⟩;obtain ⟨v,h1,A,c,rfl,h3⟩:=h.get i l hi;refine ⟨A,c,?_,h3⟩;rw [Addr.add_mid,hB.cell,Nat.zero_add];exact htk i _ h1
theorem NewS.pt {base g : Nat} {vs : List Value} {ls : List (List UInt8)} {w : World} (h : NewS base vs ls g w) : PT w (some ⟨g,0,none⟩) ls:=pt_of h.blk (fun j v hj=>by simpa using hj) h.all
section
variable {ops : Array Oper} {C0 : World → Prop} {Q : Facts → Act → Prop} {N : Nat} {E : List (Nat × Value)} {Fa : Told} {o : Oper} {rest : List (Nat × Oper)} {i k : Nat}
theorem g_slices {n : Nat} {parts : Array (Nat × Operand)} (vs : List Value) (ls : List (List UInt8)) (base : Nat) (hg : o.guard = none) (hd : o.dst = some k) (hk : Nat.blt k N = true) (hf : farP i Fa = true) (ho : o.op = .buildSlice 63 n parts)
  (hv : parts.toList.map (fun p=>(p.1,ev E p.2)) = (vs.zipIdx 0).map fun x=>(x.2,some x.1)) (hn : vs.length = n) (h0 : 0 < n) (h24 : n ≤ 16777216) (hb : ∀ w,C0 w → base ≤ w.heap.size) (h : ∀ w,C0 w → Uses o Fa w → All2 w vs ls)
  (hk2 : ∀ g w,C0 w → NewS base vs ls g w → gF Tryd.prog Bel ops C0 Q rest N ((k,.slice (some ⟨g,0,none⟩) n n) :: E) ((i,NewS base vs ls g) :: Fa)) : gF Tryd.prog Bel ops C0 Q ((i,o) :: rest) N E Fa :=
 g_mem (fun v w=>∃ g,v = .slice (some ⟨g,0,none⟩) n n ∧ NewS base vs ls g w) hg hd hk hf (by rw [ho]; rfl) (fun v w w' ⟨g,e,h⟩ hr=>⟨g,e,h.later hr⟩) (fun a ha w hw hu=>by
  have hA:=h w hw hu
  have hm : ∀ (l : List (Nat × Operand)) (m : List (Value × Nat)),l.map (fun p=>(p.1,ev E p.2)) = m.map (fun x=>(x.2,some x.1)) → l.map (fun (i,x)=>(i,a.eval x)) = m.map fun x=>(x.2,x.1):=by
   intro l
   induction l with
   | nil=>intro m h; cases m with
    | nil=>rfl
    | cons=>cases h
   | cons p l ih=>intro m h; cases m with
    | nil=>cases h
    | cons u m =>
     simp only [List.map_cons,List.cons.injEq,Prod.mk.injEq] at h ⊢;exact ⟨⟨h.1.1,ha.eval h.1.2⟩,ih m h.2⟩
  have hr:=run_slices vs n (parts.map fun (i,x)=>(i,a.eval x)) (by rw [Array.toList_map]; exact hm _ _ hv) hn h0 h24 (fun v hv=>(hA.one v hv).1) w;have hal:=(Below.refl w.heap.size w).alloc (Nat.le_refl _) (.cells vs.toArray 23)
  unfold execOp
  simp only [ho,Sem.run_bind,hr,Result.andThen_ok,Sem.run_pure]
  exact ⟨hal,w.heap.size,rfl,hb w hw,Blk.new w _ _,All2.later hal hA⟩) (fun v w hw ⟨g,e,h2⟩=>by
  subst e
  intro a F ha hF
  refine hk2 g w hw h2 a F ha fun x hx w hw=>?_
  rcases List.mem_cons.1 hx with rfl | hx
  ·obtain ⟨g',e,h⟩:=hF (i,fun w=>∃ g',Value.slice (some ⟨g,0,none⟩) n n = .slice (some ⟨g',0,none⟩) n n ∧ NewS base vs ls g' w) List.mem_cons_self w hw
   injection e with e
   injection e with e
   injection e with e
   subst e;exact h
  ·exact hF x (List.mem_cons_of_mem _ hx) w hw)
end

/-! ### Appends of slices -/
theorem All2.app {w : World} : ∀ {vs us : List Value} {ls ms : List (List UInt8)},All2 w vs ls → All2 w us ms → All2 w (vs ++ us) (ls ++ ms)
 | [],_,[],_,_,h=>h
 | _ :: _,_,_ :: _,_,h,h'=>⟨h.1,All2.app h.2 h'⟩
 | [],_,_ :: _,_,h,_=>h.elim
 | _ :: _,_,[],_,h,_=>h.elim
theorem pt_vals {w : World} {ad : Addr} : ∀ (ls : List (List UInt8)) (o : Nat),(∀ (i : Nat) l,ls[i]? = some l → ∃ v,w.cell? (ad.add (o + i)) = some v ∧ SB w v l) → ∃ vs,All2 w vs ls ∧ ∀ (j : Nat) u,vs[j]? = some u → w.cell? (ad.add (o + j)) = some u
 | [],_,_=>⟨[],trivial,fun j u h=>by simp at h⟩
 | l :: ls,o,h=>by
  obtain ⟨v,h1,h2⟩:=h 0 l rfl
  obtain ⟨vs,h3,h4⟩:=pt_vals ls (o + 1) fun i l' hi=>by
   obtain ⟨v',h5,h6⟩:=h (i + 1) l' (by simpa using hi);exact ⟨v',by rw [show o + 1 + i = o + (i + 1) by omega]; exact h5,h6⟩
  refine ⟨v :: vs,⟨h2,h3⟩,fun j u hj=>?_⟩
  cases j with
  | zero =>
   simp only [List.getElem?_cons_zero,Option.some.injEq] at hj;subst hj;exact h1
  | succ j =>
   have:=h4 j u (by simpa using hj)
   rwa [show o + 1 + j = o + (j + 1) by omega] at this
theorem GS.pt {w : World} {base c : Nat} {A : Option Addr} {vs : List Value} {ls : List (List UInt8)} (h : GS w base 23 A c vs) (hA : All2 w vs ls) : PT w A ls ∧ ls.length ≤ c ∧ c ≤ 9223372036854775807:=by
 have hlen:=hA.len
 rcases h.2 with ⟨h1,h3⟩ | ⟨g,cap,cur,hv,_,hg,hn,hc,_,htk⟩
 ·injection h1 with h4 h5 h6
  subst h6;exact ⟨fun h0=>absurd h0 (by omega),by omega,by omega⟩
 ·injection hv with h4 h5 h6
  subst h4 h6;refine ⟨pt_of (cs:=cur) hg (fun j v hj=>?_) hA,by omega,by unfold maxLen at hc; omega⟩;rw [← htk,List.getElem?_take] at hj
  split at hj
  ·simpa using hj
  ·cases hj
theorem NewS.gs {base n g : Nat} {vs : List Value} {ls : List (List UInt8)} {w : World} (h : NewS base vs ls g w) (hn : vs.length = n) (hm : n ≤ 9223372036854775807) : GS w base 23 (some ⟨g,0,none⟩) n vs:=by
 refine ⟨by simp,.inr ⟨g,n,vs.toArray,rfl,h.ge,h.blk,by omega,by unfold maxLen; omega,by simp [hn],by simp⟩⟩
section
variable {ops : Array Oper} {Q : Exit → Act → World → Prop} {N : Nat} {E : List (Nat × Value)} {w : World} {o : Oper} {rest : List Oper} {k : Nat}
theorem l_appS {s x : Operand} {base c d : Nat} {A X : Option Addr} {vs : List Value} {ls : List (List UInt8)} (hg : o.guard = none) (hd : o.dst = some k) (hk : Nat.blt k N = true) (ho : o.op = .call { callee:=.builtin .append,args:=#[s,x],argTypes:=#[63,63] })
  (hs : ev E s = some (.slice A vs.length c)) (hx : ev E x = some (.slice X ls.length d)) (hown : GS w base 23 A c vs) {W0 : World} (hW : Up W0 w) (hP : PT W0 X ls) (h0 : X = none → d = 0 ∧ ls = []) (hb : (vs.length + ls.length) * 24 ≤ 140737488355328) (hbase : base ≤ w.heap.size)
  (hn : ∀ A' c' w' us,All2 W0 us ls → GS w' base 23 A' c' (vs ++ us) → w.grownBy w' (A.map (·.block)) → lF Tryd.prog ops Q rest N ((k,.slice A' (vs ++ us).length c') :: E) w') : lF Tryd.prog ops Q (o :: rest) N E w:=by
 cases X with
 | none =>
  obtain ⟨rfl,rfl⟩:=h0 rfl;obtain ⟨i,hi0,hz,hs0,hb⟩:=info_parts cells_slices;have hr:=run_append_owned_none (P:=Tryd.prog) w base 63 o.type 23 i 1 Tryd.underlying63 hi0 _ vs.length vs hown;have h1:=hn A c w [] trivial (by rw [List.append_nil]; exact hown) (World.grownBy.refl _ _);rw [List.append_nil] at h1;refine l_val _ hg hd hk (fun a ha=>?_) h1;have h2:=ha.eval hs;have h3:=ha.eval hx
  unfold execOp
  simp only [ho,resolve,invoke,builtin,Sem.run_bind,Sem.run_pure,Result.andThen_ok,List.map_toArray,List.map_cons,List.map_nil,h2,h3,List.length_nil,hr]
 | some ad =>
  obtain ⟨us,h1,h2⟩:=pt_vals (w:=W0) (ad:=ad) ls 0 fun i l hi=>by
   obtain ⟨ad',e,_,h3⟩:=hP (by have:=(List.getElem?_eq_some_iff.1 hi).1; omega)
   injection e with e
   subst e;obtain ⟨A',c',h4,h5⟩:=h3 i l hi;exact ⟨_,by rw [Nat.zero_add]; exact h4,A',c',rfl,h5⟩
  have hl:=h1.len
  refine l_app (bytes:=24) (z:=.slice none 0 0) (news:=us) (base:=base) (e:=23) (xs:=vs) (A:=A) (c:=c) (ad:=ad) (m:=ls.length) (d:=d) hg hd hk ho hs hx Tryd.underlying63 cells_slices rfl hown hl (fun j u hj=>by
   have h5:=h2 j u hj;rw [Nat.zero_add] at h5
   exact (hW.cell (World.block_lt_of_cell? W0 _ h5)).trans h5) (fun u hu=>(h1.one u hu).2) hb (by unfold maxLen; omega) hbase ?_
  intro A' c' w' h3 h4 _
  exact hn A' c' w' us h1 h3 h4
end

/-! ### Copies -/
section
variable {ops : Array Oper} {Q : Exit → Act → World → Prop} {N : Nat} {E : List (Nat × Value)} {w : World} {o : Oper} {rest : List Oper} {k : Nat}
theorem l_copy {d s : Operand} (g off n c t : Nat) (z l : List UInt8) (v : Value) (hgd : o.guard = none) (hdst : o.dst = some k) (hE : look E k = none) (ho : o.op = .call { callee:=.builtin .copy,args:=#[d,s],argTypes:=#[23,23] })
  (hd : ev E d = some (.slice (some ⟨g,off,none⟩) n c)) (hs : ev E s = some v) (hz : Blk w g t (By z).toArray) (hl : SB w v l) (h0 : 0 < l.length) (h1 : l.length ≤ n) (h2 : off + l.length ≤ z.length)
  (hn : Blk (w.setRow g (By (cop z off l)).toArray) g t (By (cop z off l)).toArray → lF Tryd.prog ops Q rest N E (w.setRow g (By (cop z off l)).toArray)) : lF Tryd.prog ops Q (o :: rest) N E w:=fun a ha=>by
 obtain ⟨A,c2,rfl,hS⟩:=hl;obtain ⟨ad,rfl,_,_,hc⟩:=hS.2.2.2 h0;refine wpList_copy_own hgd d s 23 23 ho 5 Tryd.underlying23 size_u8 g off n c ad l.length c2 (ha.eval hd) (ha.eval hs) (By z).toArray t hz (By l) (by rw [By_len]; exact (Nat.min_eq_left h1).symm) ?_ (by rw [By_len,List.size_toArray,By_len]; exact h2) (By_one l) ?_
 ·intro j u hu
  obtain ⟨x,hx,rfl⟩:=By_at hu;exact hc j x hx
 ·have e : (By z).toArray.toList.take off ++ (By l ++ (By z).toArray.toList.drop (off + (By l).length)) = By (cop z off l):=by
   simp [cop,By]
  rw [e,hdst];exact hn (hz.row _) _ (ha.putFar hE _)
end
end Go.Proofs.YtminmeljonbogaaDoor
/-
PLAIN NUMBERS: the bytes of the curve's points: a point is told by its bytes; which bytes are points. No program is imported.
PLAIN NUMBERS: the lowest and the highest byte of 32. No program is imported.
-/
namespace Nums

theorem zz {n : Nat} [NeZero n] (d : Fin n) : 0 * 0 * d + 1 = 1:=by grind only
theorem neg_sq (a : F) : -a * -a = a * a:=by grind only

def evenOf (x : F) : F:=if x.val % 2 = 1 then -x else x
theorem evenOf_even (x : F) : (evenOf x).val % 2 = 0:=by
 unfold evenOf
 by_cases h : x.val % 2 = 1
 ·rw [if_pos h,neg_odd (by rintro rfl; exact absurd h (by decide)),h]
 ·rw [if_neg h]; omega
theorem evenOf_sq (x : F) : evenOf x * evenOf x = x * x:=by
 unfold evenOf
 by_cases h : x.val % 2 = 1
 ·rw [if_pos h]; grind only
 ·rw [if_neg h]

theorem root_one {a b : F} (h : a * a = b * b) (hp : a.val % 2 = b.val % 2) : a = b:=by
 rcases root_or prime_p h with h1 | h1
 ·exact h1
 ·by_cases h0 : b = 0
  ·rw [h1,h0]; grind only
  ·have:=neg_odd h0
   rw [← h1] at this
   omega

def rootc (w : F) : F:=if cand w * cand w = w then cand w else cand w * im
theorem rootc_iff (w : F) : (∃ x,x * x = w) ↔ rootc w * rootc w = w:=by
 constructor
 ·rintro ⟨x,hx⟩
  unfold rootc
  by_cases h0 : w = 0
  ·have : cand w * cand w = w:=by rw [h0,cand_zero]; grind only
   rw [if_pos this,this]
  ·have h : fpow w ph = 1:=by
    rw [← hx]
    apply euler_sq
    rintro rfl
    exact h0 (by rw [← hx]; grind only)
   by_cases hc : cand w * cand w = w
   ·rw [if_pos hc,hc]
   ·rw [if_neg hc]
    rcases root_of h with h1 | h1
    ·exact absurd h1 hc
    ·exact h1
 ·intro h
  exact ⟨_,h⟩
def rootE (w : F) : F:=evenOf (rootc w)
theorem rootE_sq {w : F} (h : ∃ x,x * x = w) : rootE w * rootE w = w:=by
 unfold rootE
 rw [evenOf_sq];exact (rootc_iff w).mp h
theorem rootE_even (w : F) : (rootE w).val % 2 = 0:=evenOf_even _

theorem vv_ne (y : F) : y * y * dd + 1 ≠ 0:=by
 intro h
 have hy : y ≠ 0:=by
  rintro rfl
  have e : (0 : F) * 0 * dd + 1 = 1:=zz dd;rw [e] at h;exact ne_one prime_p h.symm
 have h1:=mul_finv prime_p hy;refine good.d (im * finv y) ?_;have hi:=im_im;generalize finv y = z at *;generalize im = i at *;generalize dd = d at *
 have a : i * z * (i * z) = (i * i) * (z * z):=by grind only
 have b : d = -(1 : F) * (z * z):=by
  have c : d * (y * z) * (y * z) = (y * y * d) * (z * z):=by grind only
  have e : y * y * d = -1:=by grind only
  rw [h1,e] at c
  grind only
 rw [a,hi,b]

def ww (y : F) : F:=(y * y - 1) * finv (y * y * dd + 1)
theorem on_iff (x y : F) : Ed.On dd ⟨x,y⟩ ↔ x * x = ww y:=by
 have h:=mul_finv prime_p (vv_ne y)
 unfold ww
 show y * y - x * x = 1 + dd * x * x * y * y ↔ _
 have hv:=vv_ne y;generalize hV : y * y * dd + 1 = v at *;generalize finv v = u at *;generalize dd = d at *
 constructor
 ·intro h1
  have a : y * y - 1 = x * x * v:=by rw [← hV]; grind only
  have b : x * x * v * u = x * x * (v * u):=by grind only
  rw [a,b,h]
  grind only
 ·intro h1
  have a : x * x * v = y * y - 1:=by
   have b : (y * y - 1) * u * v = (y * y - 1) * (v * u):=by grind only
   rw [h1,b,h]
   grind only
  rw [← hV] at a
  grind only

def encN (P : Ed.Pt p) : Nat:=P.y.val + 57896044618658097711785492504343953926634992332820282019728792003956564819968 * (P.x.val % 2)
def encP (P : Ed.Pt p) : List UInt8:=bytes 32 (encN P)
theorem encP_len (P : Ed.Pt p) : (encP P).length = 32:=bytes_len _ _
theorem p_lt : p < 57896044618658097711785492504343953926634992332820282019728792003956564819968:=by decide
theorem le_encP (P : Ed.Pt p) : le (encP P) = encN P:=by
 unfold encP
 rw [le_bytes]
 apply Nat.mod_eq_of_lt
 have h:=P.y.isLt;have h2:=p_lt
 have h3 : 57896044618658097711785492504343953926634992332820282019728792003956564819968 * 2 = 256 ^ 32:=by decide
 unfold encN
 omega
theorem encN_inj {P Q : Ed.Pt p} (h : encN P = encN Q) : P.y = Q.y ∧ P.x.val % 2 = Q.x.val % 2:=by
 unfold encN at h
 have h1:=P.y.isLt;have h2:=Q.y.isLt;have h3:=p_lt;exact ⟨Fin.ext (by omega),by omega⟩

theorem encP_inj {P Q : Ed.Pt p} (hP : Ed.On dd P) (hQ : Ed.On dd Q) (h : encP P = encP Q) : P = Q:=by
 have h1 : encN P = encN Q:=by rw [← le_encP,← le_encP,h]
 obtain ⟨h2,h3⟩:=encN_inj h1;obtain ⟨x,y⟩:=P;obtain ⟨u,v⟩:=Q;simp only at h2 h3;subst h2;have a:=(on_iff x y).mp hP;have b:=(on_iff u y).mp hQ;rw [root_one (a.trans b.symm) h3]

theorem base_y : fof bY = fof 4 * finv (fof 5):=by
 have h0 : fof 5 ≠ 0:=fun h=>by
  have:=congrArg Fin.val h
  revert this
  decide
 have h1 : fof bY * fof 5 = fof 4:=by rw [← fof_mul]; exact fof_eq (by decide)
 rw [← h1];have h2:=mul_finv prime_p h0;generalize fof 5 = v at *;generalize finv v = w at *;generalize fof bY = u at *
 grind only
theorem base_x : rootE (ww (fof bY)) = fof bx:=by
 have h:=(on_iff (fof bx) (fof bY)).mp on_base
 apply root_one
 ·rw [rootE_sq ⟨_,h⟩,h]
 ·rw [rootE_even]
  decide

end Nums

namespace Nums

theorem le_append : ∀ a b : List UInt8,le (a ++ b) = le a + 256 ^ a.length * le b
 | [],b=>by show le b = 0 + 1 * le b; omega
 | x :: a,b=>by
  show x.toNat + 256 * le (a ++ b) = x.toNat + 256 * le a + 256 ^ (a.length + 1) * le b
  rw [le_append a b,Nat.pow_succ,Nat.mul_add,Nat.mul_comm (256 ^ a.length) 256,Nat.mul_assoc]
  omega
theorem le_lt : ∀ a : List UInt8,le a < 256 ^ a.length
 | []=>by decide
 | x :: a=>by
  have h1:=le_lt a;have h2:=x.toNat_lt
  show x.toNat + 256 * le a < 256 ^ (a.length + 1)
  rw [Nat.pow_succ]
  omega
theorem le_low {b : List UInt8} (h : 0 < b.length) : (b[0]!).toNat % 2 = le b % 2:=by
 cases b with
 | nil=>simp at h
 | cons x b =>
  show x.toNat % 2 = (x.toNat + 256 * le b) % 2
  omega

section
variable {b : List UInt8} (hb : b.length = 32)
include hb
theorem cut31 : b = b.take 31 ++ [b[31]!]:=by
 conv=>lhs; rw [← List.take_append_drop 31 b]
 rw [List.drop_eq_getElem_cons (by omega),List.drop_eq_nil_of_le (by omega),getElem!_pos b 31 (by omega)]
theorem le_top : le b = le (b.take 31) + 452312848583266388373324160190187140051835877600158453279131187530910662656 * (b[31]!).toNat:=by
 conv=>lhs; rw [cut31 hb]
 rw [le_append,List.length_take,hb]
 show _ + 256 ^ 31 * ((b[31]!).toNat + 256 * 0) = _
 rw [show (256 : Nat) ^ 31 = 452312848583266388373324160190187140051835877600158453279131187530910662656 by decide]
 omega
theorem le_rest : le (b.take 31) < 452312848583266388373324160190187140051835877600158453279131187530910662656:=by
 have h:=le_lt (b.take 31);rw [List.length_take,hb,show (256 : Nat) ^ min 31 32 = 452312848583266388373324160190187140051835877600158453279131187530910662656 by decide] at h;exact h
theorem set31 (x : UInt8) : le (b.set 31 x) = le (b.take 31) + 452312848583266388373324160190187140051835877600158453279131187530910662656 * x.toNat:=by
 have h : (b.set 31 x).length = 32:=by rw [List.length_set,hb]
 rw [le_top h,List.take_set_of_le (by omega),getElem!_pos _ 31 (by omega),List.getElem_set_self]
theorem top_iff : (b[31]!).toNat < 128 ↔ le b < 57896044618658097711785492504343953926634992332820282019728792003956564819968:=by
 have h1:=le_top hb;have h2:=le_rest hb
 omega
end

theorem encP_even {P : Ed.Pt p} (h : P.x.val % 2 ≠ 1) : encP P = enc P.y:=by
 apply le_inj (by rw [encP_len,enc_len])
 rw [le_encP,le_enc]
 unfold encN
 have : P.x.val % 2 = 0:=by omega
 rw [this]
 omega
theorem enc_top (y : F) : ((enc y)[31]!).toNat < 128:=by
 rw [top_iff (enc_len y),le_enc];exact Nat.lt_trans y.isLt p_lt
theorem encP_odd {P : Ed.Pt p} (h : P.x.val % 2 = 1) : encP P = (enc P.y).set 31 (UInt8.ofNat (((enc P.y)[31]!).toNat + 128)):=by
 apply le_inj (by rw [encP_len,List.length_set,enc_len])
 have h1:=enc_top P.y;have h2:=le_top (enc_len P.y);rw [le_encP,set31 (enc_len P.y),UInt8.toNat_ofNat_of_lt' (by show _ < 256; omega)];rw [le_enc] at h2
 unfold encN
 rw [h]
 omega
end Nums
/-
  PLAIN NUMBERS: digits of a number; sums of multiples of points. No program is imported.
-/
namespace Nums

def sumD : List Nat → Nat
  | []=>0
  | x :: r=>x + 2 * sumD r
theorem sumD_set : ∀ (d : List Nat) (j v : Nat),j < d.length → sumD (d.set j v) + d[j]! * 2 ^ j = sumD d + v * 2 ^ j
 | [],_,_,h=>by simp at h
 | x :: r,0,v,_=>by
  simp only [List.set_cons_zero,sumD,Nat.pow_zero,Nat.mul_one];have : (x :: r)[0]! = x:=rfl;rw [this]
  omega
 | x :: r,j + 1,v,h=>by
  have ih:=sumD_set r j v (by simpa using h)
  have e : (x :: r)[j + 1]! = r[j]!:=by simp
  rw [e,List.set_cons_succ,sumD,sumD,Nat.pow_succ]
  have e1 : r[j]! * (2 ^ j * 2) = 2 * (r[j]! * 2 ^ j):=by rw [← Nat.mul_assoc,Nat.mul_comm _ 2]
  have e2 : v * (2 ^ j * 2) = 2 * (v * 2 ^ j):=by rw [← Nat.mul_assoc,Nat.mul_comm _ 2]
  rw [e1,e2]
  omega
theorem sumD_zero (n : Nat) : sumD (List.replicate n 0) = 0:=by
 induction n with
 | zero=>rfl
 | succ n ih=>rw [List.replicate_succ,sumD,ih]
theorem sumD_drop {d : List Nat} {j : Nat} (h : j < d.length) : sumD (d.drop j) = d[j]! + 2 * sumD (d.drop (j + 1)):=by
 rw [List.drop_eq_getElem_cons h,sumD,getElem!_pos d j h]

structure DG (N i : Nat) (f : Int) (d : List Nat) : Prop where
  len : d.length = 256
  sum : sumD d = N % 2 ^ i
  hi : ∀ j,i ≤ j → j < 256 → d[j]! = 0
  odd : ∀ j,j < 256 → d[j]! = 0 ∨ (d[j]! % 2 = 1 ∧ d[j]! < 16)
  last : f = -4 ∨ ∃ m : Nat,f = m ∧ m < i ∧ d[m]! < 2 ^ (i - m) ∧ d[m]! % 2 = 1
theorem rep_at (n j : Nat) (h : j < n) : (List.replicate n 0)[j]! = 0:=by
 rw [getElem!_pos _ j (by simpa using h)]
 simp
theorem DG.start (N : Nat) : DG N 0 (-4) (List.replicate 256 0) where
 len:=List.length_replicate
 sum:=by rw [sumD_zero,Nat.pow_zero,Nat.mod_one]
 hi:=fun j _ h=>rep_at 256 j h
 odd:=fun j h=>.inl (rep_at 256 j h)
 last:=.inl rfl
theorem mod_bitN (N i : Nat) : N % 2 ^ (i + 1) = N % 2 ^ i + N / 2 ^ i % 2 * 2 ^ i:=by
 rw [Nat.pow_succ,Nat.mod_mul,Nat.mul_comm (2 ^ i)]
theorem DG.zero {N i : Nat} {f : Int} {d : List Nat} (h : DG N i f d) (hb : N / 2 ^ i % 2 = 0) : DG N (i + 1) f d where
 len:=h.len
 sum:=by rw [h.sum,mod_bitN,hb,Nat.zero_mul,Nat.add_zero]
 hi:=fun j hj=>h.hi j (by omega)
 odd:=h.odd
 last:=h.last.imp id fun ⟨m,h1,h2,h3,h4⟩=>⟨m,h1,by omega,Nat.lt_of_lt_of_le h3 (Nat.pow_le_pow_right (by decide) (by omega)),h4⟩
theorem set_at {d : List Nat} {j v : Nat} (h : j < d.length) : (d.set j v)[j]! = v:=by
 rw [getElem!_pos _ j (by simpa using h)]
 simp
theorem set_ne {d : List Nat} {j k v : Nat} (h : j ≠ k) : (d.set j v)[k]! = d[k]!:=by
 simp only [List.getElem!_eq_getElem?_getD,List.getElem?_set_ne h]
theorem DG.fresh {N i : Nat} {f : Int} {d : List Nat} (h : DG N i f d) (hi : i < 256) (hb : N / 2 ^ i % 2 = 1) : DG N (i + 1) i (d.set i 1) where
 len:=by rw [List.length_set,h.len]
 sum:=by
  have h1:=sumD_set d i 1 (by rw [h.len]; exact hi);rw [h.hi i (Nat.le_refl _) hi,h.sum] at h1;rw [mod_bitN,hb]
  omega
 hi:=fun j hj hj2=>by rw [set_ne (by omega)]; exact h.hi j (by omega) hj2
 odd:=fun j hj=>by
  by_cases e : i = j
  ·subst e
   rw [set_at (by rw [h.len]; exact hi)];exact .inr ⟨by decide,by decide⟩
  ·rw [set_ne e]
   exact h.odd j hj
 last:=.inr ⟨i,rfl,by omega,by rw [set_at (by rw [h.len]; exact hi),show i + 1 - i = 1 from by omega]; decide,by rw [set_at (by rw [h.len]; exact hi)]⟩
theorem DG.more {N i m : Nat} {d : List Nat} (h : DG N i m d) (hi : i < 256) (hb : N / 2 ^ i % 2 = 1) (hm : i < m + 4) : m < i ∧ d[m]! < 2 ^ (i - m) ∧ DG N (i + 1) m (d.set m (d[m]! + 2 ^ (i - m))):=by
 obtain ⟨m',h1,h2,h3,h4⟩ : ∃ m' : Nat,(m : Int) = m' ∧ m' < i ∧ d[m']! < 2 ^ (i - m') ∧ d[m']! % 2 = 1:=by
  rcases h.last with h1 | h1
  ·omega
  ·exact h1
 obtain rfl : m = m':=by omega
 have hml : m < d.length:=by rw [h.len]; omega
 have hpe : 2 ^ (i + 1 - m) = 2 ^ (i - m) * 2:=by rw [show i + 1 - m = i - m + 1 from by omega,Nat.pow_succ]
 have hk : i - m = 1 ∨ i - m = 2 ∨ i - m = 3:=by omega
 have hpow : 2 ^ (i - m) * 2 ≤ 16 ∧ 2 ^ (i - m) % 2 = 0:=by rcases hk with e | e | e <;> rw [e] <;> decide
 refine ⟨h2,h3,⟨by rw [List.length_set,h.len],?_,fun j hj hj2=>?_,fun j hj=>?_,.inr ⟨m,rfl,by omega,?_,?_⟩⟩⟩
 ·have e1:=sumD_set d m (d[m]! + 2 ^ (i - m)) hml
  have e2 : 2 ^ (i - m) * 2 ^ m = 2 ^ i:=by rw [← Nat.pow_add]; congr 1; omega
  rw [Nat.add_mul,e2,h.sum] at e1;rw [mod_bitN,hb]
  omega
 ·rw [set_ne (by omega)]
  exact h.hi j (by omega) hj2
 ·by_cases e : m = j
  ·subst e
   rw [set_at hml];exact .inr ⟨by omega,by omega⟩
  ·rw [set_ne e]
   exact h.odd j hj
 ·rw [set_at hml,hpe]
  omega
 ·rw [set_at hml]
  omega

/-! ### Sums of multiples -/
namespace Ed
variable {n : Nat} [NeZero n] {d : Fin n}
def tot (d : Fin n) : List (Pt n) → Nat → (Nat → Nat) → Pt n
  | [],_,_=>zero
  | A :: ps,i,f=>add d (mul d (f i) A) (tot d ps (i + 1) f)
theorem on_tot (g : Good n d) : ∀ {ps : List (Pt n)},(∀ A ∈ ps,On d A) → ∀ i f,On d (tot d ps i f)
 | [],_,_,_=>on_zero
 | A :: ps,h,i,f=>on_add g (on_mul g (h A (by simp)) _) (on_tot g (fun B hB=>h B (by simp [hB])) (i + 1) f)
theorem tot_congr : ∀ {ps : List (Pt n)} {i : Nat} {f f' : Nat → Nat},(∀ j,i ≤ j → j < i + ps.length → f j = f' j) → tot d ps i f = tot d ps i f'
 | [],_,_,_,_=>rfl
 | A :: ps,i,f,f',h=>by
  rw [tot,tot,h i (Nat.le_refl _) (by simp),tot_congr (i:=i + 1) (f:=f) (f':=f') fun j h1 h2=>h j (by omega) (by simp; omega)]
theorem tot_zero (g : Good n d) : ∀ {ps : List (Pt n)} {i : Nat} {f : Nat → Nat},(∀ j,i ≤ j → j < i + ps.length → f j = 0) → tot d ps i f = zero
 | [],_,_,_=>rfl
 | A :: ps,i,f,h=>by
  rw [tot,h i (Nat.le_refl _) (by simp),mul_0,zero_add g,tot_zero g fun j h1 h2=>h j (by omega) (by simp; omega)]
theorem tot_dbl (g : Good n d) : ∀ {ps : List (Pt n)},(∀ A ∈ ps,On d A) → ∀ (i : Nat) (f : Nat → Nat),tot d ps i (fun j=>2 * f j) = add d (tot d ps i f) (tot d ps i f)
 | [],_,_,_=>(zero_add g zero).symm
 | A :: ps,h,i,f=>by
  have hA:=h A (by simp);have hs : ∀ B ∈ ps,On d B:=fun B hB=>h B (by simp [hB]);rw [tot,tot,tot_dbl g hs (i + 1) f,Nat.two_mul,mul_add g hA,add_swap g (on_mul g hA _) (on_mul g hA _) (on_tot g hs _ _) (on_tot g hs _ _)]
theorem tot_more (g : Good n d) : ∀ {ps : List (Pt n)},(∀ A ∈ ps,On d A) → ∀ (i j v : Nat) (f f' : Nat → Nat) (A : Pt n),ps[j]? = some A → f' (i + j) = f (i + j) + v → (∀ k,k ≠ i + j → f' k = f k) →
  tot d ps i f' = add d (tot d ps i f) (mul d v A)
 | [],_,_,_,_,_,_,A,hj,_,_=>by simp at hj
 | B :: ps,h,i,0,v,f,f',A,hj,h1,h2=>by
  simp only [List.getElem?_cons_zero,Option.some.injEq] at hj;subst hj;have hB:=h B (by simp);have hs : ∀ B ∈ ps,On d B:=fun B hB=>h B (by simp [hB]);rw [tot,tot,tot_congr (ps:=ps) (i:=i + 1) (f:=f') (f':=f) fun k h3 _=>h2 k (by omega)];rw [Nat.add_zero] at h1;rw [h1,mul_add g hB,add_assoc g (on_mul g hB _) (on_mul g hB _) (on_tot g hs _ _),add_assoc g (on_mul g hB _) (on_tot g hs _ _) (on_mul g hB _),add_comm (mul d v B)]
 | B :: ps,h,i,j + 1,v,f,f',A,hj,h1,h2=>by
  have hB:=h B (by simp);have hs : ∀ B ∈ ps,On d B:=fun B hB=>h B (by simp [hB]);have hA : On d A:=hs A (List.mem_of_getElem? (by simpa using hj))
  rw [tot,tot,tot_more g hs (i + 1) j v f f' A (by simpa using hj) (by rw [Nat.add_right_comm,Nat.add_assoc]; exact h1) (fun k hk=>h2 k (by omega)),h2 i (by omega),
   add_assoc g (on_mul g hB _) (on_tot g hs _ _) (on_mul g hA _)]
end Ed
end Nums
/-
  WORDS OF 64 BITS: the library's Mul64 and Add64.
-/
namespace Go.Proofs.YtminmeljonbogaaDoor
open Go.RowKit Go.IntWalk

set_option maxHeartbeats 1000000 in
theorem mul64_any (x y : Nat) (hx : x < 18446744073709551616) (hy : y < 18446744073709551616) (w : World) :
  Calls Tryd.prog 105 #[.int .u64 x,.int .u64 y] w fun e w'=>e = .returned (.tuple #[.int .u64 ((x * y / 18446744073709551616 : Nat) : Int),.int .u64 ((x * y % 18446744073709551616 : Nat) : Int)]) ∧ w' = w:=by
 obtain ⟨bd,bt,bw,hhi⟩:=Lib.mul64_hi x y hx hy;have ba:=Lib.half_mul_le (a:=x / 4294967296) (b:=y / 4294967296) (by omega) (by omega);have bb:=Lib.half_mul_le (a:=x / 4294967296) (b:=y % 4294967296) (by omega) (by omega);have bc:=Lib.half_mul_le (a:=x % 4294967296) (b:=y / 4294967296) (by omega) (by omega)
 have ba' : x / 4294967296 * (y / 4294967296) < 18446744073709551616:=by omega
 have bb' : x / 4294967296 * (y % 4294967296) < 18446744073709551616:=by omega
 have bc' : x % 4294967296 * (y / 4294967296) < 18446744073709551616:=by omega
 have bh1 : x / 4294967296 * (y / 4294967296) + (x / 4294967296 * (y % 4294967296) + x % 4294967296 * (y % 4294967296) / 4294967296) / 4294967296 < 18446744073709551616:=by omega
 have bh : x / 4294967296 * (y / 4294967296) + (x / 4294967296 * (y % 4294967296) + x % 4294967296 * (y % 4294967296) / 4294967296) / 4294967296 + ((x / 4294967296 * (y % 4294967296) + x % 4294967296 * (y % 4294967296) / 4294967296) % 4294967296 + x % 4294967296 * (y / 4294967296)) / 4294967296 < 18446744073709551616:=by omega
 go_enter Tryd.func105,Tryd.ntmps105
 go_wp2
 simp only [mask32 x hx,mask32 y hy,div32,mulN,addN,wrapN _ bd,wrapN _ bb',wrapN _ bt,mask32 _ bt,wrapN _ bc',wrapN _ bw,wrapN _ ba',wrapN _ bh1,wrapN _ bh,wrapM (x * y)];rw [hhi]
 go_ret2
 exact ⟨rfl,rfl⟩

theorem add64_run (x y c : Nat) (hc : c ≤ 1) (w : World) : (callFunc 104 #[.int .u64 x,.int .u64 y,.int .u64 c]).run Tryd.prog w =
  .ok (.value (.tuple #[.int .u64 (((x + y + c) % 18446744073709551616 : Nat) : Int),.int .u64 (((x + y + c) / 18446744073709551616 : Nat) : Int)])) w:=by
 rw [run_callFunc_extern Tryd.func104 (by kernel_rfl) (by kernel_rfl) (by kernel_rfl) (e:=add64Entry) (by kernel_rfl),run_add64 x y c (by omega) (by omega) (by omega) (by omega)];simp only [Result.andThen]
 congr 5 <;> omega
theorem add64_int (x y c : Int) (hx : 0 ≤ x) (hy : 0 ≤ y) (hc0 : 0 ≤ c) (hc : c ≤ 1) (w : World) : (callFunc 104 #[.int .u64 x,.int .u64 y,.int .u64 c]).run Tryd.prog w =
  .ok (.value (.tuple #[.int .u64 ((x + y + c) % 18446744073709551616),.int .u64 ((x + y + c) / 18446744073709551616)])) w:=by
 obtain ⟨x,rfl⟩:=Int.eq_ofNat_of_zero_le hx;obtain ⟨y,rfl⟩:=Int.eq_ofNat_of_zero_le hy;obtain ⟨c,rfl⟩:=Int.eq_ofNat_of_zero_le hc0;refine (add64_run x y c (by omega) w).trans ?_
 congr 5 <;> omega
theorem add64_int0 (x y : Int) (hx : 0 ≤ x) (hy : 0 ≤ y) (w : World) : (callFunc 104 #[.int .u64 x,.int .u64 y,.int .u64 0]).run Tryd.prog w =
  .ok (.value (.tuple #[.int .u64 ((x + y) % 18446744073709551616),.int .u64 ((x + y) / 18446744073709551616)])) w:=by
 simpa using add64_int x y 0 hx hy (Int.le_refl 0) (by decide) w

end Go.Proofs.YtminmeljonbogaaDoor
/-
  WORDS OF 64 BITS: the field's sums of two words: low, high, plus.
-/
namespace Go.Proofs.YtminmeljonbogaaDoor
open Go.RowKit Go.IntWalk

theorem size_sum (cs : Array Value) (h : cs.size = 2) : (Tryd.prog.info? 158).map (·.size) = some cs.size:=by
 rw [h]
 kernel_rfl

theorem low_any (hi lo : Nat) (hl : lo < 18446744073709551616) (w : World) :
  Calls Tryd.prog 114 #[.agg (Us [hi,lo]).toArray] w fun e w'=>e = .returned (.int .u64 ((lo % 2251799813685248 : Nat) : Int)) ∧ Below w.heap.size w w':=by
 have e0 : (Us [hi,lo]).toArray = #[.int .u64 (hi : Int),.int .u64 (lo : Int)]:=rfl;rw [e0]
 go_enter Tryd.func114,Tryd.ntmps114
 go_wp2
 rw [maskW lo hl]
 go_ret
 exact ⟨rfl,(Below.refl _ _).alloc (Nat.le_refl _) _⟩

theorem high_any (hi lo : Nat) (hh : hi < 2251799813685248) (hl : lo < 18446744073709551616) (w : World) :
  Calls Tryd.prog 115 #[.agg (Us [hi,lo]).toArray] w fun e w'=>e = .returned (.int .u64 ((hi * 8192 + lo / 2251799813685248 : Nat) : Int)) ∧ Below w.heap.size w w':=by
 have e0 : (Us [hi,lo]).toArray = #[.int .u64 (hi : Int),.int .u64 (lo : Int)]:=rfl;rw [e0]
 go_enter Tryd.func115,Tryd.ntmps115
 go_wp2
 have e1 : (hi : Int) * 8192 = ((hi * 8192 : Nat) : Int):=by omega
 rw [e1,div51,orW 13 (hi * 8192) (lo / 2251799813685248) (by omega) (by omega) (by omega) (by omega)]
 go_ret
 exact ⟨rfl,(Below.refl _ _).alloc (Nat.le_refl _) _⟩

set_option maxHeartbeats 1000000 in
theorem plus_any (hi lo a b : Nat) (hh : hi < 18446744073709551616) (hl : lo < 18446744073709551616) (ha : a < 18446744073709551616) (hb : b < 18446744073709551616) (w : World) :
  Calls Tryd.prog 113 #[.agg (Us [hi,lo]).toArray,.int .u64 a,.int .u64 b] w fun e w' =>
   e = .returned (.agg (Us [(hi + a * b / 18446744073709551616 + (lo + a * b % 18446744073709551616) / 18446744073709551616) % 18446744073709551616,(lo + a * b % 18446744073709551616) % 18446744073709551616]).toArray) ∧ Below w.heap.size w w':=by
 have e0 : (Us [hi,lo]).toArray = #[.int .u64 (hi : Int),.int .u64 (lo : Int)]:=rfl;rw [e0];have HM:=fun w1=>Lib.hid (mul64_any a b ha hb w1);generalize a * b / 18446744073709551616 = mh at *;generalize hml : a * b % 18446744073709551616 = ml at *
 have hml : ml < 18446744073709551616:=by omega
 have hc1 : ((lo : Int) + (ml : Int)) / 18446744073709551616 ≤ 1:=by omega
 have hc0 : (0 : Int) ≤ ((lo : Int) + (ml : Int)) / 18446744073709551616:=by omega
 go_enter Tryd.func113,Tryd.ntmps113
 go_wp2_with (fail)
 refine (HM _).out.mono ?_
 rintro e w1 ⟨rfl,rfl⟩
 go_wp2_with (first | simp only [add64_int0 lo ml (by omega) (by omega)] | simp only [add64_int hi mh _ (by omega) (by omega) hc0 hc1])
 refine bodyPost_ret (results_cell_row rfl _ _ (w.heap.size + 1) 158 _ (0,0) _ rfl (heap_alloc2_new w _ _) Tryd.underlying158 rfl (size_sum _ rfl)) rfl ⟨?_,((Below.refl _ _).alloc (Nat.le_refl _) _).alloc (by simp) _⟩
 rfl
end Go.Proofs.YtminmeljonbogaaDoor
/-
  PLAIN NUMBERS: five limbs of 51 bits as numbers modulo p: carries, sums, differences, products, the number below p. No program is imported.
-/
namespace Nums

def lv : List Nat → Nat
  | []=>0
  | d :: ds=>d + 2251799813685248 * lv ds

theorem lv5 (a0 a1 a2 a3 a4 : Nat) : lv [a0,a1,a2,a3,a4] = a0 + 2251799813685248 * (a1 + 2251799813685248 * (a2 + 2251799813685248 * (a3 + 2251799813685248 * a4))):=by
 simp only [lv,Nat.mul_zero,Nat.add_zero]

structure EB (l : List Nat) (x : F) : Prop where
  len : l.length = 5
  bnd : ∀ y ∈ l,y < 2251799813947392
  val : fof (lv l) = x

theorem five {l : List Nat} (h : l.length = 5) : ∃ a0 a1 a2 a3 a4,l = [a0,a1,a2,a3,a4]:=by
 match l,h with
 | [a0,a1,a2,a3,a4],_=>exact ⟨a0,a1,a2,a3,a4,rfl⟩

theorem EB.five {l : List Nat} {x : F} (h : EB l x) : ∃ a0 a1 a2 a3 a4,l = [a0,a1,a2,a3,a4] ∧ a0 < 2251799813947392 ∧ a1 < 2251799813947392 ∧ a2 < 2251799813947392 ∧ a3 < 2251799813947392 ∧ a4 < 2251799813947392 ∧ fof (lv [a0,a1,a2,a3,a4]) = x:=by
 obtain ⟨a0,a1,a2,a3,a4,rfl⟩:=Nums.five h.len;have hb:=h.bnd;exact ⟨a0,a1,a2,a3,a4,rfl,hb _ (by simp),hb _ (by simp),hb _ (by simp),hb _ (by simp),hb _ (by simp),h.val⟩

theorem EB.mk5 {a0 a1 a2 a3 a4 : Nat} {x : F} (h0 : a0 < 2251799813947392) (h1 : a1 < 2251799813947392) (h2 : a2 < 2251799813947392) (h3 : a3 < 2251799813947392) (h4 : a4 < 2251799813947392) (h : fof (lv [a0,a1,a2,a3,a4]) = x) :
  EB [a0,a1,a2,a3,a4] x:=by
 refine ⟨rfl,?_,h⟩
 intro y hy
 simp only [List.mem_cons,List.not_mem_nil,or_false] at hy
 rcases hy with rfl | rfl | rfl | rfl | rfl <;> assumption

theorem p_eq : p = 57896044618658097711785492504343953926634992332820282019728792003956564819949:=by decide

def crd (a0 a1 a2 a3 a4 : Nat) : List Nat :=
  [a0 % 2251799813685248 + 19 * (a4 / 2251799813685248),a1 % 2251799813685248 + a0 / 2251799813685248,a2 % 2251799813685248 + a1 / 2251799813685248,a3 % 2251799813685248 + a2 / 2251799813685248,a4 % 2251799813685248 + a3 / 2251799813685248]

theorem fof_p (a k : Nat) : fof (a + p * k) = fof a:=fof_eq (by rw [Nat.add_mul_mod_self_left])

theorem crd_lv (a0 a1 a2 a3 a4 : Nat) : fof (lv (crd a0 a1 a2 a3 a4)) = fof (lv [a0,a1,a2,a3,a4]):=by
 have h : lv (crd a0 a1 a2 a3 a4) + p * (a4 / 2251799813685248) = lv [a0,a1,a2,a3,a4]:=by
  unfold crd
  rw [lv5,lv5,p_eq]
  omega
 rw [← h,fof_p]

theorem crd_eb {a0 a1 a2 a3 a4 : Nat} (h0 : a0 < 18446744073709551616) (h1 : a1 < 18446744073709551616) (h2 : a2 < 18446744073709551616) (h3 : a3 < 18446744073709551616) (h4 : a4 < 18446744073709551616) :
  EB (crd a0 a1 a2 a3 a4) (fof (lv [a0,a1,a2,a3,a4])) :=
 EB.mk5 (by omega) (by omega) (by omega) (by omega) (by omega) (crd_lv a0 a1 a2 a3 a4)

theorem add_lv (a0 a1 a2 a3 a4 b0 b1 b2 b3 b4 : Nat) : lv [a0 + b0,a1 + b1,a2 + b2,a3 + b3,a4 + b4] = lv [a0,a1,a2,a3,a4] + lv [b0,b1,b2,b3,b4]:=by
 rw [lv5,lv5,lv5]
 omega

theorem sub_lv {a0 a1 a2 a3 a4 b0 b1 b2 b3 b4 : Nat} (h0 : b0 < 2251799813947392) (h1 : b1 < 2251799813947392) (h2 : b2 < 2251799813947392) (h3 : b3 < 2251799813947392) (h4 : b4 < 2251799813947392) :
  fof (lv [a0 + (4503599627370458 - b0),a1 + (4503599627370494 - b1),a2 + (4503599627370494 - b2),a3 + (4503599627370494 - b3),a4 + (4503599627370494 - b4)]) = fof (lv [a0,a1,a2,a3,a4]) - fof (lv [b0,b1,b2,b3,b4]):=by
 have h : lv [a0 + (4503599627370458 - b0),a1 + (4503599627370494 - b1),a2 + (4503599627370494 - b2),a3 + (4503599627370494 - b3),a4 + (4503599627370494 - b4)] + lv [b0,b1,b2,b3,b4] = lv [a0,a1,a2,a3,a4] + p * 2:=by
  rw [lv5,lv5,lv5,p_eq]
  omega
 have h2 : fof (lv [a0,a1,a2,a3,a4]) = fof (lv [a0 + (4503599627370458 - b0),a1 + (4503599627370494 - b1),a2 + (4503599627370494 - b2),a3 + (4503599627370494 - b3),a4 + (4503599627370494 - b4)]) + fof (lv [b0,b1,b2,b3,b4]):=by
  rw [← fof_add,h,fof_p]
 rw [h2];generalize fof (lv [a0 + (4503599627370458 - b0),a1 + (4503599627370494 - b1),a2 + (4503599627370494 - b2),a3 + (4503599627370494 - b3),a4 + (4503599627370494 - b4)]) = u;generalize fof (lv [b0,b1,b2,b3,b4]) = v
 grind only

theorem turn_lv (c0 c1 c2 c3 c4 : Nat) : fof (lv [19 * c4,c0,c1,c2,c3]) = fof 2251799813685248 * fof (lv [c0,c1,c2,c3,c4]):=by
 have h : lv [19 * c4,c0,c1,c2,c3] + p * c4 = 2251799813685248 * lv [c0,c1,c2,c3,c4]:=by
  rw [lv5,lv5,p_eq]
  omega
 rw [← fof_mul,← h,fof_p]

theorem more_lv (s0 s1 s2 s3 s4 v c0 c1 c2 c3 c4 : Nat) : lv [s0 + v * c0,s1 + v * c1,s2 + v * c2,s3 + v * c3,s4 + v * c4] = lv [s0,s1,s2,s3,s4] + v * lv [c0,c1,c2,c3,c4]:=by
 rw [lv5,lv5,lv5]
 grind only

/-! ### The number below p -/
def up1 (l : List Nat) (u : Nat) : Nat → Nat
  | 0=>u
  | k + 1=>(l[k]! + up1 l u k) / 2251799813685248

def up2 (l : List Nat) (u : Nat) : Nat → Nat
  | 0=>u
  | k + 1=>(up2 l u k + l[k]!) / 2251799813685248

def whs (l : List Nat) (u k : Nat) : List Nat:=(List.range 5).map fun j=>if j < k then (up2 l u j + l[j]!) % 2251799813685248 else l[j]!
def whole (l : List Nat) : List Nat:=whs l (up1 l 19 5 * 19) 5

theorem whole_all {l : List Nat} {x : F} (h : EB l x) : (whole l).length = 5 ∧ (∀ y ∈ whole l,y < 2251799813685248) ∧ lv (whole l) = x.val:=by
 refine ⟨by simp [whole,whs],?_,?_⟩
 ·intro y hy
  obtain ⟨j,hj,rfl⟩:=List.mem_map.1 hy;rw [if_pos (by simpa using hj)];exact Nat.mod_lt _ (by decide)
 ·obtain ⟨a0,a1,a2,a3,a4,rfl,h0,h1,h2,h3,h4,hv⟩:=h.five
  have hw : whole [a0,a1,a2,a3,a4] = [(up2 [a0,a1,a2,a3,a4] (up1 [a0,a1,a2,a3,a4] 19 5 * 19) 0 + a0) % 2251799813685248,(up2 [a0,a1,a2,a3,a4] (up1 [a0,a1,a2,a3,a4] 19 5 * 19) 1 + a1) % 2251799813685248,(up2 [a0,a1,a2,a3,a4] (up1 [a0,a1,a2,a3,a4] 19 5 * 19) 2 + a2) % 2251799813685248,(up2 [a0,a1,a2,a3,a4] (up1 [a0,a1,a2,a3,a4] 19 5 * 19) 3 + a3) % 2251799813685248,(up2 [a0,a1,a2,a3,a4] (up1 [a0,a1,a2,a3,a4] 19 5 * 19) 4 + a4) % 2251799813685248]:=rfl;have hu : up1 [a0,a1,a2,a3,a4] 19 5 = (a4 + (a3 + (a2 + (a1 + (a0 + 19) / 2251799813685248) / 2251799813685248) / 2251799813685248) / 2251799813685248) / 2251799813685248:=rfl;rw [← hv,fof_val,hw];generalize hq : up1 [a0,a1,a2,a3,a4] 19 5 = q at *;have g0 : up2 [a0,a1,a2,a3,a4] (q * 19) 0 = q * 19:=rfl;have g1 : up2 [a0,a1,a2,a3,a4] (q * 19) 1 = (up2 [a0,a1,a2,a3,a4] (q * 19) 0 + a0) / 2251799813685248:=rfl;have g2 : up2 [a0,a1,a2,a3,a4] (q * 19) 2 = (up2 [a0,a1,a2,a3,a4] (q * 19) 1 + a1) / 2251799813685248:=rfl;have g3 : up2 [a0,a1,a2,a3,a4] (q * 19) 3 = (up2 [a0,a1,a2,a3,a4] (q * 19) 2 + a2) / 2251799813685248:=rfl;have g4 : up2 [a0,a1,a2,a3,a4] (q * 19) 4 = (up2 [a0,a1,a2,a3,a4] (q * 19) 3 + a3) / 2251799813685248:=rfl;generalize up2 [a0,a1,a2,a3,a4] (q * 19) 0 = e0 at *;generalize up2 [a0,a1,a2,a3,a4] (q * 19) 1 = e1 at *;generalize up2 [a0,a1,a2,a3,a4] (q * 19) 2 = e2 at *;generalize up2 [a0,a1,a2,a3,a4] (q * 19) 3 = e3 at *;generalize up2 [a0,a1,a2,a3,a4] (q * 19) 4 = e4 at *;have hL:=lv5 a0 a1 a2 a3 a4;generalize lv [a0,a1,a2,a3,a4] = L at *;rw [lv5];have hp:=p_eq;generalize p = P at *
  have ha : q < 2:=by omega
  have hb : q = 0 → L < P:=by omega
  have hc : q = 1 → P ≤ L:=by omega
  have hd : L < 2 * P:=by omega
  rcases (show q = 0 ∨ q = 1 by omega) with rfl | rfl
  ·rw [Nat.mod_eq_of_lt (hb rfl)]
   clear hu hc hd hv;have:=hb rfl
   omega
  ·have hge:=hc rfl
   have hm : L % P = L - P:=by rw [Nat.mod_eq_sub_mod hge,Nat.mod_eq_of_lt (by omega)]
   rw [hm];clear hu hb hv hm
   omega

end Nums
/-
  THE FIELD'S NUMBERS: carried, Add, Sub, Small.
-/
namespace Go.Proofs.YtminmeljonbogaaDoor
open Go.RowKit Go.IntWalk Nums

theorem size_el (cs : Array Value) (h : cs.size = 5) : (Tryd.prog.info? 77).map (·.size) = some cs.size:=by
 rw [h]
 kernel_rfl
def z5 : Array Value:=(Us [0,0,0,0,0]).toArray
theorem len_us {l : List Nat} (h : l.length = 5) : (Us l).toArray.size = 5:=by rw [List.size_toArray,Us_len,h]

theorem crd_cell0 (a c : Nat) (ha : a < 18446744073709551616) (hc : c < 18446744073709551616) :
  IntKind.u64.wrap (bits .and .u64 (a : Int) 2251799813685247 + 19 * ((c : Int) / 2251799813685248)) = ((a % 2251799813685248 + 19 * (c / 2251799813685248) : Nat) : Int):=by
 rw [maskW a ha,IntKind.wrap_u64]
 omega
theorem crd_cell (a c : Nat) (ha : a < 18446744073709551616) (hc : c < 18446744073709551616) :
  IntKind.u64.wrap (bits .and .u64 (a : Int) 2251799813685247 + (c : Int) / 2251799813685248) = ((a % 2251799813685248 + c / 2251799813685248 : Nat) : Int):=by
 rw [maskW a ha,IntKind.wrap_u64]
 omega

set_option maxRecDepth 100000 in
set_option maxHeartbeats 1000000 in
theorem carried_f (a0 a1 a2 a3 a4 : Nat) (h0 : a0 < 18446744073709551616) (h1 : a1 < 18446744073709551616) (h2 : a2 < 18446744073709551616) (h3 : a3 < 18446744073709551616) (h4 : a4 < 18446744073709551616) (w : World) :
  Calls Tryd.prog 116 #[.agg (Us [a0,a1,a2,a3,a4]).toArray] w fun e w'=>e = .returned (.agg (Us (crd a0 a1 a2 a3 a4)).toArray) ∧ Below w.heap.size w w':=by
 have e0 : (Us [a0,a1,a2,a3,a4]).toArray = #[.int .u64 (a0 : Int),.int .u64 (a1 : Int),.int .u64 (a2 : Int),.int .u64 (a3 : Int),.int .u64 (a4 : Int)]:=rfl;rw [e0]
 go_enter Tryd.func116,Tryd.ntmps116
 go_wp2
 rw [crd_cell0 a0 a4 h0 h4,crd_cell a1 a0 h1 h0,crd_cell a2 a1 h2 h1,crd_cell a3 a2 h3 h2,crd_cell a4 a3 h4 h3];refine bodyPost_ret (results_cell_row rfl _ _ (w.heap.size + 1) 77 _ (0,0) _ rfl (blk3_1 w _ _ _ _) Tryd.underlying77 rfl (size_el _ rfl)) rfl ⟨rfl,?_⟩;exact (((Below.refl _ _).alloc (Nat.le_refl _) _).alloc (by simp) _).alloc (by simp; omega) _

/-! ### Rows whose first k words have turned -/
def mx (f : Nat → Nat) (l : List Nat) (k : Nat) : List Nat:=(List.range 5).map fun j=>if j < k then f j else l[j]!
theorem mx_len (f : Nat → Nat) (l : List Nat) (k : Nat) : (mx f l k).length = 5:=by simp [mx]
theorem mx_zero (f : Nat → Nat) {l : List Nat} (h : l.length = 5) : mx f l 0 = l:=by
 obtain ⟨a0,a1,a2,a3,a4,rfl⟩:=five h
 rfl
theorem mx_get (f : Nat → Nat) (l : List Nat) {k : Nat} (h : k < 5) : (mx f l k)[k]! = l[k]!:=by
 rw [getElem!_pos _ k (by rw [mx_len]; exact h)]
 simp [mx]
theorem mx_set (f : Nat → Nat) (l : List Nat) {k : Nat} : (mx f l k).set k (f k) = mx f l (k + 1):=by
 apply List.ext_getElem (by simp [mx])
 intro j h1 h2
 rw [List.getElem_set];simp only [mx,List.getElem_map,List.getElem_range]
 by_cases hjk : k = j
 ·subst hjk
  simp
 ·rw [if_neg hjk]
  by_cases hlt : j < k
  ·rw [if_pos hlt,if_pos (by omega)]
  ·rw [if_neg hlt,if_neg (by omega)]

theorem eb_get {l : List Nat} {x : F} (h : EB l x) {k : Nat} (hk : k < 5) : l[k]! < 2251799813947392 :=
 h.bnd _ (by rw [getElem!_pos l k (by rw [h.len]; exact hk)]; exact List.getElem_mem _)

set_option maxRecDepth 100000 in
set_option maxHeartbeats 1000000 in
theorem eladd_f {a b : List Nat} {x y : F} (ha : EB a x) (hb : EB b y) (w : World) :
  Calls Tryd.prog 83 #[.agg (Us a).toArray,.agg (Us b).toArray] w fun e w'=>∃ r,EB r (x + y) ∧ e = .returned (.agg (Us r).toArray) ∧ Below w.heap.size w w':=by
 go_enter Tryd.func83,Tryd.ntmps83
 go_wp2
 go_loopw [6] (fun i wr=>∃ k : Nat,k ≤ 5 ∧ i = .int .i64 k ∧ Blk wr w.heap.size 77 (Us (mx (fun j=>a[j]! + b[j]!) a k)).toArray ∧ Blk wr (w.heap.size + 1) 77 (Us b).toArray ∧ Blk wr (w.heap.size + 1 + 1) 77 z5 ∧ Below w.heap.size w wr) (fun i _=>5 - (intOf i).toNat)
 case atStart =>
  refine ⟨0,by omega,rfl,?_,blk3_1 w _ _ _ _,blk3_2 w _ _ _ _,(((Below.refl _ _).alloc (Nat.le_refl _) _).alloc (by simp) _).alloc (by simp; omega) _⟩;rw [mx_zero _ ha.len];exact blk3_0 w _ _ _ _
 case round =>
  obtain ⟨k,hk,rfl,h0,h1,h2,hbel⟩:=hrel
  by_cases hlt : k < 5
  ·have hN:=mx_set (fun j=>a[j]! + b[j]!) a (k:=k)
   have hg:=mx_get (fun j=>a[j]! + b[j]!) a hlt;have c0:=(h0.drew.cell k).trans (Us_at (by rw [mx_len]; exact hlt));rw [hg] at c0;have c1:=(h1.drew.cell k).trans (Us_at (by rw [hb.len]; exact hlt));have b0:=eb_get ha hlt;have b1:=eb_get hb hlt;have hf:=h0.drew.free k;generalize a[k]! = u at *;generalize b[k]! = v at *
   have q1 : IntKind.u64.wrap ((u : Int) + (v : Int)) = ((u + v : Nat) : Int):=by rw [IntKind.wrap_u64]; omega
   have q2 : (0 : Int) ≤ (k : Int):=by omega
   have HK:=Lib.hid (And.intro h0 (And.intro h1 (And.intro h2 (And.intro hbel hN))));clear h0 h1 h2 hbel hN hg
   go_wp2
   go_still_tail 11,(by kernel_rfl)
   go_wp2
   go_roundw
   case rel =>
    obtain ⟨h0,h1,h2,hbel,hN⟩:=HK.out;have h4:=h0.set k (.int .u64 ((u + v : Nat) : Int));rw [Us_set,hN] at h4;exact ⟨k + 1,by omega,by go_num,h4,h1.far (by simp) _,h2.far (by simp; omega) _,(hbel.setCell (by simp) _).drew⟩
   case measure=>simp [intOf]; omega
  ·obtain rfl : k = 5:=by omega
   obtain ⟨a0,a1,a2,a3,a4,rfl,p0,p1,p2,p3,p4,pv⟩:=ha.five;obtain ⟨b0,b1,b2,b3,b4,rfl,r0,r1,r2,r3,r4,rv⟩:=hb.five;have e5 : mx (fun j=>[a0,a1,a2,a3,a4][j]! + [b0,b1,b2,b3,b4][j]!) [a0,a1,a2,a3,a4] 5 = [a0 + b0,a1 + b1,a2 + b2,a3 + b3,a4 + b4]:=rfl;rw [e5] at h0;have HC:=fun w1=>Lib.hid (carried_f (a0 + b0) (a1 + b1) (a2 + b2) (a3 + b3) (a4 + b4) (by omega) (by omega) (by omega) (by omega) (by omega) w1);have hE:=crd_eb (a0:=a0 + b0) (a1:=a1 + b1) (a2:=a2 + b2) (a3:=a3 + b3) (a4:=a4 + b4) (by omega) (by omega) (by omega) (by omega) (by omega);rw [add_lv,fof_add,pv,rv] at hE;generalize crd (a0 + b0) (a1 + b1) (a2 + b2) (a3 + b3) (a4 + b4) = r at *;have hz : (Us [a0 + b0,a1 + b1,a2 + b2,a3 + b3,a4 + b4]).toArray.size = 5:=rfl;generalize (Us [a0 + b0,a1 + b1,a2 + b2,a3 + b3,a4 + b4]).toArray = cs at *;have HK:=Lib.hid (And.intro h2 hbel);clear h1 h2 hbel ha hb p0 p1 p2 p3 p4 pv r0 r1 r2 r3 r4 rv e5;have hzr:=len_us hE.len
   go_wp2_with (refine wpList_load_row rfl 77 _ rfl w.heap.size rfl 77 cs (0,0) _ h0 Tryd.underlying77 rfl (size_el _ hz) ?_)
   refine (HC _).out.mono ?_
   rintro e w1 ⟨rfl,hw1⟩
   obtain ⟨h2,hbel⟩:=HK.out;have hb2:=hbel.trans (hw1.mono hbel.size);have h4:=h2.below hw1 h2.lt
   go_wp2_with (refine wpList_store_row rfl 77 _ _ rfl (w.heap.size + 1 + 1) rfl (Us r).toArray rfl 77 _ h4 (size_el _ hzr) (by rw [hzr]; rfl) (Us_one _) ?_)
   refine bodyPost_ret (results_cell_row rfl _ _ (w.heap.size + 1 + 1) 77 (Us r).toArray (0,0) _ rfl (h4.row _) Tryd.underlying77 rfl (size_el _ hzr)) rfl ⟨r,hE,rfl,?_⟩;exact below_setRow hb2 (by omega) _
end Go.Proofs.YtminmeljonbogaaDoor
/-
  THE FIELD'S NUMBERS: Sub, which reads the table of 2p; Small.
-/
namespace Go.Proofs.YtminmeljonbogaaDoor
open Go.RowKit Go.IntWalk Nums

def twl : List Nat:=[4503599627370458,4503599627370494,4503599627370494,4503599627370494,4503599627370494]
theorem twl_get {k : Nat} (h : k < 5) : 4503599627370458 ≤ twl[k]! ∧ twl[k]! ≤ 4503599627370494:=by
 have h5 : k = 0 ∨ k = 1 ∨ k = 2 ∨ k = 3 ∨ k = 4:=by omega
 rcases h5 with rfl | rfl | rfl | rfl | rfl <;> decide

structure Tw (w : World) : Prop where
  cell : ∀ i,i < 5 → w.cell? ⟨1,i,none⟩ = some (.int .u64 (twl[i]! : Nat))
  lt : 1 < w.heap.size
theorem Tw.below {w w' : World}  (h : Tw w) (hb : Below w.heap.size w w') : Tw w' :=
 ⟨fun i hi=>(hb.cell (p:=⟨1,i,none⟩) h.lt).trans (h.cell i hi),Nat.lt_of_lt_of_le h.lt hb.size⟩
theorem Tw.drew {w : World} (h : Tw w) : Tw w.drew:=⟨h.cell,h.lt⟩
theorem Tw.at {w : World} (h : Tw w) {k : Nat} (hk : k < 5) : w.cell? ⟨1,k,none⟩ = some (.int .u64 (twl[k]! : Nat)):=h.cell k hk

set_option maxRecDepth 100000 in
set_option maxHeartbeats 1000000 in
theorem elsub_f {a b : List Nat} {x y : F} (ha : EB a x) (hb : EB b y) (w : World) (hT : Tw w) :
  Calls Tryd.prog 81 #[.agg (Us a).toArray,.agg (Us b).toArray] w fun e w'=>∃ r,EB r (x - y) ∧ e = .returned (.agg (Us r).toArray) ∧ Below w.heap.size w w':=by
 go_enter Tryd.func81,Tryd.ntmps81
 go_wp2
 go_loopw [6] (fun i wr=>∃ k : Nat,k ≤ 5 ∧ i = .int .i64 k ∧ Blk wr w.heap.size 77 (Us (mx (fun j=>a[j]! + (twl[j]! - b[j]!)) a k)).toArray ∧ Blk wr (w.heap.size + 1) 77 (Us b).toArray ∧ Blk wr (w.heap.size + 1 + 1) 77 z5 ∧ Below w.heap.size w wr) (fun i _=>5 - (intOf i).toNat)
 case atStart =>
  refine ⟨0,by omega,rfl,?_,blk3_1 w _ _ _ _,blk3_2 w _ _ _ _,(((Below.refl _ _).alloc (Nat.le_refl _) _).alloc (by simp) _).alloc (by simp; omega) _⟩;rw [mx_zero _ ha.len];exact blk3_0 w _ _ _ _
 case round =>
  obtain ⟨k,hk,rfl,h0,h1,h2,hbel⟩:=hrel
  by_cases hlt : k < 5
  ·have hN:=mx_set (fun j=>a[j]! + (twl[j]! - b[j]!)) a (k:=k)
   have hg:=mx_get (fun j=>a[j]! + (twl[j]! - b[j]!)) a hlt;have c0:=(h0.drew.cell k).trans (Us_at (by rw [mx_len]; exact hlt));rw [hg] at c0;have c1:=(h1.drew.cell k).trans (Us_at (by rw [hb.len]; exact hlt));have b0:=eb_get ha hlt;have b1:=eb_get hb hlt;have hf:=h0.drew.free k;have c2:=(hT.below hbel).drew.at hlt;have b2:=twl_get hlt;generalize a[k]! = u at *;generalize b[k]! = v at *;generalize twl[k]! = t at *
   have q0 : IntKind.u64.wrap ((t : Int) - (v : Int)) = ((t - v : Nat) : Int):=by rw [IntKind.wrap_u64]; omega
   have q1 : IntKind.u64.wrap ((u : Int) + ((t - v : Nat) : Int)) = ((u + (t - v) : Nat) : Int):=by rw [IntKind.wrap_u64]; omega
   have hle : v ≤ t:=by omega
   have q2 : (0 : Int) ≤ (k : Int):=by omega
   have HK:=Lib.hid (And.intro h0 (And.intro h1 (And.intro h2 (And.intro hbel hN))));clear h0 h1 h2 hbel hN hg
   go_wp2
   go_still_tail 15,(by kernel_rfl)
   go_wp2
   go_roundw
   case rel =>
    obtain ⟨h0,h1,h2,hbel,hN⟩:=HK.out;have h4:=h0.set k (.int .u64 ((u + (t - v) : Nat) : Int));rw [Us_set,hN] at h4;exact ⟨k + 1,by omega,by go_num,h4,h1.far (by simp) _,h2.far (by simp; omega) _,(hbel.setCell (by simp) _).drew⟩
   case measure=>simp [intOf]; omega
  ·obtain rfl : k = 5:=by omega
   obtain ⟨a0,a1,a2,a3,a4,rfl,p0,p1,p2,p3,p4,pv⟩:=ha.five;obtain ⟨b0,b1,b2,b3,b4,rfl,r0,r1,r2,r3,r4,rv⟩:=hb.five;have e5 : mx (fun j=>[a0,a1,a2,a3,a4][j]! + (twl[j]! - [b0,b1,b2,b3,b4][j]!)) [a0,a1,a2,a3,a4] 5 = [a0 + (4503599627370458 - b0),a1 + (4503599627370494 - b1),a2 + (4503599627370494 - b2),a3 + (4503599627370494 - b3),a4 + (4503599627370494 - b4)]:=rfl;rw [e5] at h0;have HC:=fun w1=>Lib.hid (carried_f (a0 + (4503599627370458 - b0)) (a1 + (4503599627370494 - b1)) (a2 + (4503599627370494 - b2)) (a3 + (4503599627370494 - b3)) (a4 + (4503599627370494 - b4)) (by omega) (by omega) (by omega) (by omega) (by omega) w1);have hE:=crd_eb (a0:=a0 + (4503599627370458 - b0)) (a1:=a1 + (4503599627370494 - b1)) (a2:=a2 + (4503599627370494 - b2)) (a3:=a3 + (4503599627370494 - b3)) (a4:=a4 + (4503599627370494 - b4)) (by omega) (by omega) (by omega) (by omega) (by omega);rw [sub_lv r0 r1 r2 r3 r4,pv,rv] at hE;generalize crd (a0 + (4503599627370458 - b0)) (a1 + (4503599627370494 - b1)) (a2 + (4503599627370494 - b2)) (a3 + (4503599627370494 - b3)) (a4 + (4503599627370494 - b4)) = r at *;have hz : (Us [a0 + (4503599627370458 - b0),a1 + (4503599627370494 - b1),a2 + (4503599627370494 - b2),a3 + (4503599627370494 - b3),a4 + (4503599627370494 - b4)]).toArray.size = 5:=rfl;generalize (Us [a0 + (4503599627370458 - b0),a1 + (4503599627370494 - b1),a2 + (4503599627370494 - b2),a3 + (4503599627370494 - b3),a4 + (4503599627370494 - b4)]).toArray = cs at *;have HK:=Lib.hid (And.intro h2 hbel);clear h1 h2 hbel ha hb p0 p1 p2 p3 p4 pv r0 r1 r2 r3 r4 rv e5;have hzr:=len_us hE.len
   go_wp2_with (refine wpList_load_row rfl 77 _ rfl w.heap.size rfl 77 cs (0,0) _ h0 Tryd.underlying77 rfl (size_el _ hz) ?_)
   refine (HC _).out.mono ?_
   rintro e w1 ⟨rfl,hw1⟩
   obtain ⟨h2,hbel⟩:=HK.out;have hb2:=hbel.trans (hw1.mono hbel.size);have h4:=h2.below hw1 h2.lt
   go_wp2_with (refine wpList_store_row rfl 77 _ _ rfl (w.heap.size + 1 + 1) rfl (Us r).toArray rfl 77 _ h4 (size_el _ hzr) (by rw [hzr]; rfl) (Us_one _) ?_)
   refine bodyPost_ret (results_cell_row rfl _ _ (w.heap.size + 1 + 1) 77 (Us r).toArray (0,0) _ rfl (h4.row _) Tryd.underlying77 rfl (size_el _ hzr)) rfl ⟨r,hE,rfl,?_⟩;exact below_setRow hb2 (by omega) _

set_option maxRecDepth 100000 in
theorem small_f (v : Nat) (hv : v < 18446744073709551616) (w : World) :
  Calls Tryd.prog 78 #[.int .u64 v] w fun e w'=>∃ r,EB r (fof v) ∧ e = .returned (.agg (Us r).toArray) ∧ Below w.heap.size w w':=by
 go_enter Tryd.func78,Tryd.ntmps78
 go_wp2
 rw [maskW v hv]
 have hE : EB [v % 2251799813685248,v / 2251799813685248,0,0,0] (fof v):=EB.mk5 (by omega) (by omega) (by omega) (by omega) (by omega) (by
  congr 1
  rw [lv5]
  omega)
 refine bodyPost_ret (results_cell_row rfl _ _ w.heap.size 77 _ (0,0) _ rfl (heap_alloc_new w _) Tryd.underlying77 rfl (size_el _ rfl)) rfl ⟨_,hE,rfl,?_⟩;exact (Below.refl _ _).alloc (Nat.le_refl _) _
end Go.Proofs.YtminmeljonbogaaDoor
/-
  THE FIELD'S NUMBERS: whole: the number below p.
-/
namespace Go.Proofs.YtminmeljonbogaaDoor
open Go.RowKit Go.IntWalk Nums

theorem whs_eq (l : List Nat) (u k : Nat) : whs l u k = mx (fun j=>(up2 l u j + l[j]!) % 2251799813685248) l k:=rfl
theorem up1_le {l : List Nat} {x : F} (h : EB l x) : ∀ k,k ≤ 5 → up1 l 19 k ≤ 19
 | 0,_=>Nat.le_refl _
 | k + 1,hk=>by
  have h1:=up1_le h k (by omega);have h2:=eb_get h (k:=k) (by omega)
  show (l[k]! + up1 l 19 k) / 2251799813685248 ≤ 19
  omega
theorem up2_le {l : List Nat} {x : F} (h : EB l x) {u : Nat} (hu : u ≤ 361) : ∀ k,k ≤ 5 → up2 l u k ≤ 361
 | 0,_=>hu
 | k + 1,hk=>by
  have h1:=up2_le h hu k (by omega);have h2:=eb_get h (k:=k) (by omega)
  show (up2 l u k + l[k]!) / 2251799813685248 ≤ 361
  omega

set_option maxRecDepth 100000 in
set_option maxHeartbeats 1000000 in
theorem whole_f {a : List Nat} {x : F} (ha : EB a x) (w : World) :
  Calls Tryd.prog 119 #[.agg (Us a).toArray] w fun e w'=>e = .returned (.agg (Us (whole a)).toArray) ∧ Below w.heap.size w w':=by
 have hW : whole a = whs a (up1 a 19 5 * 19) 5:=rfl;rw [hW];clear hW;generalize hq1 : up1 a 19 5 = q;generalize hu0 : q * 19 = u0
 go_enter Tryd.func119,Tryd.ntmps119
 go_wp2
 go_loopw [6,3] (fun i u wr=>∃ k : Nat,k ≤ 5 ∧ i = .int .i64 k ∧ u = .int .u64 (up1 a 19 k : Nat) ∧ Blk wr w.heap.size 77 (Us a).toArray ∧ Blk wr (w.heap.size + 1) 77 z5 ∧ Below w.heap.size w wr) (fun i _ _=>5 - (intOf i).toNat)
 case atStart =>
  exact ⟨0,by omega,rfl,rfl,heap_alloc2_old w _ _,heap_alloc2_new w _ _,((Below.refl _ _).alloc (Nat.le_refl _) _).alloc (by simp) _⟩
 case round =>
  obtain ⟨k,hk,rfl,rfl,h0,h1,hbel⟩:=hrel
  by_cases hlt : k < 5
  ·have hN : up1 a 19 (k + 1) = (a[k]! + up1 a 19 k) / 2251799813685248:=rfl
   have c0:=(h0.cell k).trans (Us_at (by rw [ha.len]; exact hlt));have b0:=eb_get ha hlt;have b1:=up1_le ha k (by omega);generalize a[k]! = u at *;generalize up1 a 19 k = v at *
   have q1 : IntKind.u64.wrap ((u : Int) + (v : Int)) = ((u + v : Nat) : Int):=by rw [IntKind.wrap_u64]; omega
   have q2 : (0 : Int) ≤ (k : Int):=by omega
   have HK:=Lib.hid (And.intro h0 (And.intro h1 (And.intro hbel hN)));clear h0 h1 hbel hN
   go_wp2
   go_roundw
   case rel =>
    obtain ⟨h0,h1,hbel,hN⟩:=HK.out;exact ⟨k + 1,by omega,by go_num,by rw [hN]; congr 1,h0,h1,hbel⟩
   case measure=>simp [intOf]; omega
  ·obtain rfl : k = 5:=by omega
   have b1:=up1_le ha 5 (by omega);rw [hq1] at b1 ⊢
   have hq : u0 ≤ 361:=by omega
   have q1 : IntKind.u64.wrap ((q : Int) * 19) = (u0 : Int):=by rw [IntKind.wrap_u64]; omega
   clear hq1 hu0
   have hW0 : whs a u0 0 = a:=by rw [whs_eq,mx_zero _ ha.len]
   have HK:=Lib.hid (And.intro h0 (And.intro h1 hbel));clear h0 h1 hbel
   go_wp2
   go_loopw [19,3] (fun i u wq=>∃ k : Nat,k ≤ 5 ∧ i = .int .i64 k ∧ u = .int .u64 (up2 a u0 k : Nat) ∧ Blk wq w.heap.size 77 (Us (whs a u0 k)).toArray ∧ Blk wq (w.heap.size + 1) 77 z5 ∧ Below w.heap.size w wq) (fun i _ _=>5 - (intOf i).toNat)
   case atStart =>
    obtain ⟨h0,h1,hbel⟩:=HK.out;exact ⟨0,by omega,rfl,rfl,by rw [hW0]; exact h0,h1,hbel⟩
   case round =>
    obtain ⟨k,hk,rfl,rfl,h0,h1,hbel⟩:=hrel;clear HK
    by_cases hlt : k < 5
    ·have hN : up2 a u0 (k + 1) = (up2 a u0 k + a[k]!) / 2251799813685248:=rfl
     have hS : (whs a u0 k).set k ((up2 a u0 k + a[k]!) % 2251799813685248) = whs a u0 (k + 1):=mx_set (fun j=>(up2 a u0 j + a[j]!) % 2251799813685248) a;have hg : (whs a u0 k)[k]! = a[k]!:=mx_get _ a hlt;have c0:=(h0.cell k).trans (Us_at (by rw [whs_eq,mx_len]; exact hlt));rw [hg] at c0;have hf:=h0.free k;have b0:=eb_get ha hlt;have b1:=up2_le ha hq k (by omega);generalize a[k]! = u at *;generalize up2 a u0 k = v at *
     have q2 : IntKind.u64.wrap ((v : Int) + (u : Int)) = ((v + u : Nat) : Int):=by rw [IntKind.wrap_u64]; omega
     have q3:=maskW (v + u) (by omega)
     have q4 : (0 : Int) ≤ (k : Int):=by omega
     have HK:=Lib.hid (And.intro h0 (And.intro h1 (And.intro hbel (And.intro hN hS))));clear h0 h1 hbel hN hS hg;generalize hs : v + u = s at *
     go_wp2
     go_roundw
     case rel =>
      obtain ⟨h0,h1,hbel,hN,hS⟩:=HK.out;have h4:=h0.set k (.int .u64 ((s % 2251799813685248 : Nat) : Int));rw [Us_set,hS] at h4;exact ⟨k + 1,by omega,by go_num,by rw [hN]; congr 1,h4,h1.far (by simp) _,hbel.setCell (by simp) _⟩
     case measure=>simp [intOf]; omega
    ·obtain rfl : k = 5:=by omega
     have hz : (Us (whs a u0 5)).toArray.size = 5:=len_us (by rw [whs_eq,mx_len])
     go_wp2_with (first
      | (refine wpList_load_row rfl 77 _ rfl w.heap.size rfl 77 (Us (whs a u0 5)).toArray (0,0) _ h0 Tryd.underlying77 rfl (size_el _ hz) ?_)
      | (refine wpList_store_row rfl 77 _ _ rfl (w.heap.size + 1) rfl (Us (whs a u0 5)).toArray rfl 77 _ h1 (size_el _ hz) (by rw [hz]; rfl) (Us_one _) ?_))
     refine bodyPost_ret (results_cell_row rfl _ _ (w.heap.size + 1) 77 (Us (whs a u0 5)).toArray (0,0) _ rfl (h1.row _) Tryd.underlying77 rfl (size_el _ hz)) rfl ⟨rfl,?_⟩;exact below_setRow hbel (by omega) _
end Go.Proofs.YtminmeljonbogaaDoor
/-
  THE FIELD'S NUMBERS: Mul's sums.
-/
namespace Go.Proofs.YtminmeljonbogaaDoor
open Go.RowKit Go.IntWalk Nums

def W2 (s : Nat) : Array Value:=(Us [s / 18446744073709551616,s % 18446744073709551616]).toArray
theorem W2_size (s : Nat) : (W2 s).size = 2:=rfl
theorem W2_one (s : Nat) : ∀ u ∈ (W2 s).toList,u.oneCell' = true:=Us_one _

theorem plus_f (s a b : Nat) (ha : a < 18446744073709551616) (hb : b < 18446744073709551616) (hs : s + a * b < 340282366920938463463374607431768211456) (w : World) :
  Calls Tryd.prog 113 #[.agg (W2 s),.int .u64 a,.int .u64 b] w fun e w'=>e = .returned (.agg (W2 (s + a * b))) ∧ Below w.heap.size w w':=by
 refine (plus_any (s / 18446744073709551616) (s % 18446744073709551616) a b (by omega) (by omega) ha hb w).mono ?_
 rintro e w' ⟨rfl,hw⟩
 refine ⟨?_,hw⟩
 unfold W2
 generalize a * b = m at *
 have e1 : (s / 18446744073709551616 + m / 18446744073709551616 + (s % 18446744073709551616 + m % 18446744073709551616) / 18446744073709551616) % 18446744073709551616 = (s + m) / 18446744073709551616:=by omega
 have e2 : (s % 18446744073709551616 + m % 18446744073709551616) % 18446744073709551616 = (s + m) % 18446744073709551616:=by omega
 rw [e1,e2]
theorem low_f (s : Nat) (w : World) :
  Calls Tryd.prog 114 #[.agg (W2 s)] w fun e w'=>e = .returned (.int .u64 ((s % 2251799813685248 : Nat) : Int)) ∧ Below w.heap.size w w':=by
 refine (low_any (s / 18446744073709551616) (s % 18446744073709551616) (by omega) w).mono ?_
 rintro e w' ⟨rfl,hw⟩
 refine ⟨?_,hw⟩
 have e1 : s % 18446744073709551616 % 2251799813685248 = s % 2251799813685248:=by omega
 rw [e1]
theorem high_f (s : Nat) (hs : s < 41538374868278621028243970633760768) (w : World) :
  Calls Tryd.prog 115 #[.agg (W2 s)] w fun e w'=>e = .returned (.int .u64 ((s / 2251799813685248 : Nat) : Int)) ∧ Below w.heap.size w w':=by
 refine (high_any (s / 18446744073709551616) (s % 18446744073709551616) (by omega) (by omega) w).mono ?_
 rintro e w' ⟨rfl,hw⟩
 refine ⟨?_,hw⟩
 have e1 : s / 18446744073709551616 * 8192 + s % 18446744073709551616 / 2251799813685248 = s / 2251799813685248:=by omega
 rw [e1]

theorem lv_take : ∀ (l : List Nat) {k : Nat},k < l.length → lv (l.take (k + 1)) = lv (l.take k) + 2251799813685248 ^ k * l[k]!
 | d :: ds,0,_=>by simp [lv]
 | d :: ds,k + 1,h=>by
  have ih:=lv_take ds (k:=k) (by simpa using h)
  show d + 2251799813685248 * lv (ds.take (k + 1)) = d + 2251799813685248 * lv (ds.take k) + 2251799813685248 ^ (k + 1) * ds[k]!
  rw [ih,Nat.pow_succ]
  grind only

structure MM (a : List Nat) (y : F) (k c0 c1 c2 c3 c4 s0 s1 s2 s3 s4 : Nat) : Prop where
  cv : fof (lv [c0,c1,c2,c3,c4]) = fof (2251799813685248 ^ k) * y
  sv : fof (lv [s0,s1,s2,s3,s4]) = fof (lv (a.take k)) * y
  c0b : c0 < 42784196465000448
  c1b : c1 < 42784196465000448
  c2b : c2 < 42784196465000448
  c3b : c3 < 42784196465000448
  c4b : c4 < 42784196465000448
  c0u : k ≤ 0 → c0 < 2251799813947392
  c1u : k ≤ 1 → c1 < 2251799813947392
  c2u : k ≤ 2 → c2 < 2251799813947392
  c3u : k ≤ 3 → c3 < 2251799813947392
  c4u : k ≤ 4 → c4 < 2251799813947392
  s0b : s0 ≤ k * 96341445640026967064998646153216
  s1b : s1 ≤ k * 96341445640026967064998646153216
  s2b : s2 ≤ k * 96341445640026967064998646153216
  s3b : s3 ≤ k * 96341445640026967064998646153216
  s4b : s4 ≤ k * 96341445640026967064998646153216

theorem prod_le {v c : Nat} (hv : v < 2251799813947392) (hc : c < 42784196465000448) : v * c ≤ 96341445640026967064998646153216 :=
 Nat.le_trans (Nat.mul_le_mul (Nat.le_of_lt hv) (Nat.le_of_lt hc)) (by decide)

theorem MM.next {a : List Nat} {x y : F} {k c0 c1 c2 c3 c4 s0 s1 s2 s3 s4 : Nat} (h : MM a y k c0 c1 c2 c3 c4 s0 s1 s2 s3 s4) (ha : EB a x) (hk : k < 5) :
  MM a y (k + 1) (19 * c4) c0 c1 c2 c3 (s0 + a[k]! * c0) (s1 + a[k]! * c1) (s2 + a[k]! * c2) (s3 + a[k]! * c3) (s4 + a[k]! * c4):=by
 obtain ⟨cv,sv,g0,g1,g2,g3,g4,u0,u1,u2,u3,u4,t0,t1,t2,t3,t4⟩:=h;have hv:=eb_get ha hk;have p0:=prod_le hv g0;have p1:=prod_le hv g1;have p2:=prod_le hv g2;have p3:=prod_le hv g3;have p4:=prod_le hv g4
 have hm : (k + 1) * 96341445640026967064998646153216 = k * 96341445640026967064998646153216 + 96341445640026967064998646153216:=by omega
 have:=u4 (by omega);refine ⟨?_,?_,by omega,g0,g1,g2,g3,by omega,by omega,by omega,by omega,by omega,by omega,by omega,by omega,by omega,by omega⟩
 ·rw [turn_lv,cv,Nat.pow_succ,fof_mul]
  generalize fof (2251799813685248 ^ k) = u;generalize fof 2251799813685248 = v
  grind only
 ·rw [more_lv,fof_add,sv,fof_mul,cv,lv_take a (by rw [ha.len]; exact hk),fof_add,fof_mul]
  generalize fof (lv (a.take k)) = u;generalize fof (2251799813685248 ^ k) = v;generalize fof (a[k]!) = z
  grind only

theorem MM.start {a : List Nat} {b0 b1 b2 b3 b4 : Nat} {y : F} (h0 : b0 < 2251799813947392) (h1 : b1 < 2251799813947392) (h2 : b2 < 2251799813947392) (h3 : b3 < 2251799813947392) (h4 : b4 < 2251799813947392) (hb : fof (lv [b0,b1,b2,b3,b4]) = y) :
  MM a y 0 b0 b1 b2 b3 b4 0 0 0 0 0:=by
 refine ⟨?_,?_,by omega,by omega,by omega,by omega,by omega,fun _=>h0,fun _=>h1,fun _=>h2,fun _=>h3,fun _=>h4,by omega,by omega,by omega,by omega,by omega⟩
 ·rw [hb,Nat.pow_zero,fof_one]
  grind only
 ·have e1 : fof (lv [0,0,0,0,0]) = 0:=fof_zero
  have e2 : fof (lv (a.take 0)) = 0:=fof_zero;rw [e1,e2]
  grind only

theorem MM.fin {a : List Nat} {x y : F} {c0 c1 c2 c3 c4 s0 s1 s2 s3 s4 : Nat} (h : MM a y 5 c0 c1 c2 c3 c4 s0 s1 s2 s3 s4) (ha : EB a x) :
  fof (lv (crd s0 s1 s2 s3 s4)) = x * y ∧ s0 < 41538374868278621028243970633760768 ∧ s1 < 41538374868278621028243970633760768 ∧ s2 < 41538374868278621028243970633760768 ∧ s3 < 41538374868278621028243970633760768 ∧ s4 < 41538374868278621028243970633760768 ∧
   s0 / 2251799813685248 < 400000000000000000 ∧ s1 / 2251799813685248 < 400000000000000000 ∧ s2 / 2251799813685248 < 400000000000000000 ∧ s3 / 2251799813685248 < 400000000000000000 ∧ s4 / 2251799813685248 < 400000000000000000:=by
 have e : a.take 5 = a:=List.take_of_length_le (by rw [ha.len]; omega);obtain ⟨cv,sv,g0,g1,g2,g3,g4,u0,u1,u2,u3,u4,t0,t1,t2,t3,t4⟩:=h;rw [e,ha.val] at sv;exact ⟨by rw [crd_lv,sv],by omega,by omega,by omega,by omega,by omega,by omega,by omega,by omega,by omega,by omega⟩

structure MSt (w wr : World) (a : List Nat) (s0 s1 s2 s3 s4 : Nat) : Prop where
  ba : Blk wr w.heap.size 77 (Us a).toArray
  br : Blk wr (w.heap.size + 1 + 1) 77 z5
  k0 : Blk wr (w.heap.size + 1 + 1 + 1) 158 (W2 s0)
  k1 : Blk wr (w.heap.size + 1 + 1 + 1 + 1) 158 (W2 s1)
  k2 : Blk wr (w.heap.size + 1 + 1 + 1 + 1 + 1) 158 (W2 s2)
  k3 : Blk wr (w.heap.size + 1 + 1 + 1 + 1 + 1 + 1) 158 (W2 s3)
  k4 : Blk wr (w.heap.size + 1 + 1 + 1 + 1 + 1 + 1 + 1) 158 (W2 s4)
  be : Below w.heap.size w wr

section
variable {w wr w1 : World} {a : List Nat} {s0 s1 s2 s3 s4 : Nat}
theorem MSt.step (h : MSt w wr a s0 s1 s2 s3 s4) (hw : Below wr.heap.size wr w1) : MSt w w1 a s0 s1 s2 s3 s4 :=
 ⟨h.ba.below hw h.ba.lt,h.br.below hw h.br.lt,h.k0.below hw h.k0.lt,h.k1.below hw h.k1.lt,h.k2.below hw h.k2.lt,h.k3.below hw h.k3.lt,h.k4.below hw h.k4.lt,h.be.trans (hw.mono h.be.size)⟩
theorem MSt.set0 (h : MSt w wr a s0 s1 s2 s3 s4) (s : Nat) : MSt w (wr.setRow (w.heap.size + 1 + 1 + 1) (W2 s)) a s s1 s2 s3 s4 :=
 ⟨h.ba.rowFar (by omega) _,h.br.rowFar (by omega) _,h.k0.row _,h.k1.rowFar (by omega) _,h.k2.rowFar (by omega) _,h.k3.rowFar (by omega) _,h.k4.rowFar (by omega) _,below_setRow h.be (by omega) _⟩
theorem MSt.set1 (h : MSt w wr a s0 s1 s2 s3 s4) (s : Nat) : MSt w (wr.setRow (w.heap.size + 1 + 1 + 1 + 1) (W2 s)) a s0 s s2 s3 s4 :=
 ⟨h.ba.rowFar (by omega) _,h.br.rowFar (by omega) _,h.k0.rowFar (by omega) _,h.k1.row _,h.k2.rowFar (by omega) _,h.k3.rowFar (by omega) _,h.k4.rowFar (by omega) _,below_setRow h.be (by omega) _⟩
theorem MSt.set2 (h : MSt w wr a s0 s1 s2 s3 s4) (s : Nat) : MSt w (wr.setRow (w.heap.size + 1 + 1 + 1 + 1 + 1) (W2 s)) a s0 s1 s s3 s4 :=
 ⟨h.ba.rowFar (by omega) _,h.br.rowFar (by omega) _,h.k0.rowFar (by omega) _,h.k1.rowFar (by omega) _,h.k2.row _,h.k3.rowFar (by omega) _,h.k4.rowFar (by omega) _,below_setRow h.be (by omega) _⟩
theorem MSt.set3 (h : MSt w wr a s0 s1 s2 s3 s4) (s : Nat) : MSt w (wr.setRow (w.heap.size + 1 + 1 + 1 + 1 + 1 + 1) (W2 s)) a s0 s1 s2 s s4 :=
 ⟨h.ba.rowFar (by omega) _,h.br.rowFar (by omega) _,h.k0.rowFar (by omega) _,h.k1.rowFar (by omega) _,h.k2.rowFar (by omega) _,h.k3.row _,h.k4.rowFar (by omega) _,below_setRow h.be (by omega) _⟩
theorem MSt.set4 (h : MSt w wr a s0 s1 s2 s3 s4) (s : Nat) : MSt w (wr.setRow (w.heap.size + 1 + 1 + 1 + 1 + 1 + 1 + 1) (W2 s)) a s0 s1 s2 s3 s :=
 ⟨h.ba.rowFar (by omega) _,h.br.rowFar (by omega) _,h.k0.rowFar (by omega) _,h.k1.rowFar (by omega) _,h.k2.rowFar (by omega) _,h.k3.rowFar (by omega) _,h.k4.row _,below_setRow h.be (by omega) _⟩
end

theorem mst_start (w : World) (a : List Nat) (o : Obj) :
  MSt w ((((((((w.alloc (.cells (Us a).toArray 77)).alloc o).alloc (.cells z5 77)).alloc (.cells (W2 0) 158)).alloc (.cells (W2 0) 158)).alloc (.cells (W2 0) 158)).alloc (.cells (W2 0) 158)).alloc (.cells (W2 0) 158)).drew a 0 0 0 0 0 where
 ba:=(((((((Blk.new w _ _).alloc _).alloc _).alloc _).alloc _).alloc _).alloc _).alloc _
 br:=by
  have h:=(((((Blk.new ((w.alloc (.cells (Us a).toArray 77)).alloc o) 77 z5).alloc (.cells (W2 0) 158)).alloc (.cells (W2 0) 158)).alloc (.cells (W2 0) 158)).alloc (.cells (W2 0) 158)).alloc (.cells (W2 0) 158);rw [World.size_alloc,World.size_alloc] at h;exact h
 k0:=by
  have h:=((((Blk.new (((w.alloc (.cells (Us a).toArray 77)).alloc o).alloc (.cells z5 77)) 158 (W2 0)).alloc (.cells (W2 0) 158)).alloc (.cells (W2 0) 158)).alloc (.cells (W2 0) 158)).alloc (.cells (W2 0) 158);rw [World.size_alloc,World.size_alloc,World.size_alloc] at h;exact h
 k1:=by
  have h:=(((Blk.new ((((w.alloc (.cells (Us a).toArray 77)).alloc o).alloc (.cells z5 77)).alloc (.cells (W2 0) 158)) 158 (W2 0)).alloc (.cells (W2 0) 158)).alloc (.cells (W2 0) 158)).alloc (.cells (W2 0) 158);rw [World.size_alloc,World.size_alloc,World.size_alloc,World.size_alloc] at h;exact h
 k2:=by
  have h:=((Blk.new (((((w.alloc (.cells (Us a).toArray 77)).alloc o).alloc (.cells z5 77)).alloc (.cells (W2 0) 158)).alloc (.cells (W2 0) 158)) 158 (W2 0)).alloc (.cells (W2 0) 158)).alloc (.cells (W2 0) 158);rw [World.size_alloc,World.size_alloc,World.size_alloc,World.size_alloc,World.size_alloc] at h;exact h
 k3:=by
  have h:=(Blk.new ((((((w.alloc (.cells (Us a).toArray 77)).alloc o).alloc (.cells z5 77)).alloc (.cells (W2 0) 158)).alloc (.cells (W2 0) 158)).alloc (.cells (W2 0) 158)) 158 (W2 0)).alloc (.cells (W2 0) 158);rw [World.size_alloc,World.size_alloc,World.size_alloc,World.size_alloc,World.size_alloc,World.size_alloc] at h;exact h
 k4:=by
  have h:=Blk.new (((((((w.alloc (.cells (Us a).toArray 77)).alloc o).alloc (.cells z5 77)).alloc (.cells (W2 0) 158)).alloc (.cells (W2 0) 158)).alloc (.cells (W2 0) 158)).alloc (.cells (W2 0) 158)) 158 (W2 0);rw [World.size_alloc,World.size_alloc,World.size_alloc,World.size_alloc,World.size_alloc,World.size_alloc,World.size_alloc] at h;exact h
 be:=(((((((((Below.refl _ _).alloc (Nat.le_refl _) _).alloc (by simp) _).alloc (by simp; omega) _).alloc (by simp; omega) _).alloc (by simp; omega) _).alloc (by simp; omega) _).alloc (by simp; omega) _).alloc (by simp; omega) _).drew
end Go.Proofs.YtminmeljonbogaaDoor
/-
  STEPS OF WALKS OVER WORDS AND THE FIELD'S NUMBERS, in regions that draw their order too.
-/
namespace Go.Proofs.YtminmeljonbogaaDoor
open Go.RowKit Go.IntWalk Nums

theorem own_low : Own 114:=fun _ _=>by go_simp
theorem own_high : Own 115:=fun _ _=>by go_simp
theorem own_carried : Own 116:=fun _ _=>by go_simp
theorem own_whole : Own 119:=fun _ _=>by go_simp
theorem own_elmul : Own 79:=fun _ _=>by go_simp
theorem own_eladd : Own 83:=fun _ _=>by go_simp
theorem own_elsub : Own 81:=fun _ _=>by go_simp
theorem own_hash : Own 87:=fun _ _=>by go_simp
theorem own_small : Own 78:=fun _ _=>by go_simp

section
variable {ops : Array Oper} {C0 : World → Prop} {Q : Act → Prop} {a : Act} {o : Oper} {rest : List Oper}
theorem b_mulu {x y : Operand} {t : TypeId} (p q : Nat) (hg : Region.wanted o (yielded ops a.tmps) = true) (ho : o.op = .binOp .mul 56 x y t) (hx : a.eval x = .int .u64 (p : Int)) (hy : a.eval y = .int .u64 (q : Int)) (hb : p * q < 18446744073709551616)
  (hk : wpB Tryd.prog ops C0 Q rest (a.put o.dst (.int .u64 ((p * q : Nat) : Int)))) : wpB Tryd.prog ops C0 Q (o :: rest) a :=
 b_val hg (fun w _=>by
  have e : IntKind.u64.wrap ((p : Int) * (q : Int)) = ((p * q : Nat) : Int):=by rw [IntKind.wrap_u64,← Int.natCast_mul]; omega
  unfold execOp
  simp only [ho,hx,hy]
  go_simp) hk
theorem b_addu {x y : Operand} {t : TypeId} (p q : Nat) (hg : Region.wanted o (yielded ops a.tmps) = true) (ho : o.op = .binOp .add 56 x y t) (hx : a.eval x = .int .u64 (p : Int)) (hy : a.eval y = .int .u64 (q : Int)) (hb : p + q < 18446744073709551616)
  (hk : wpB Tryd.prog ops C0 Q rest (a.put o.dst (.int .u64 ((p + q : Nat) : Int)))) : wpB Tryd.prog ops C0 Q (o :: rest) a :=
 b_val hg (fun w _=>by
  have e : IntKind.u64.wrap ((p : Int) + (q : Int)) = ((p + q : Nat) : Int):=by rw [IntKind.wrap_u64]; omega
  unfold execOp
  simp only [ho,hx,hy]
  go_simp) hk
theorem b_el {l : List Nat} (g : Nat) (hl : l.length = 5) (x : Operand) (hg : Region.wanted o (yielded ops a.tmps) = true) (ho : o.op = .load 77 x) (hx : a.eval x = .pointer (some ⟨g,0,none⟩))
  (hc : ∀ w,C0 w → Blk w g 77 (Us l).toArray) (hk : wpB Tryd.prog ops C0 Q rest (a.put o.dst (.agg (Us l).toArray))) : wpB Tryd.prog ops C0 Q (o :: rest) a :=
 b_mid hg 77 x ho g 0 hx (Us l) _ (fun w h=>(hc w h).range) Tryd.underlying77 rfl (size_el (Us l).toArray (by rw [List.size_toArray,Us_len,hl])) hk
theorem b_sum {s : Nat} (g : Nat) (x : Operand) (hg : Region.wanted o (yielded ops a.tmps) = true) (ho : o.op = .load 158 x) (hx : a.eval x = .pointer (some ⟨g,0,none⟩))
  (hc : ∀ w,C0 w → Blk w g 158 (W2 s)) (hk : wpB Tryd.prog ops C0 Q rest (a.put o.dst (.agg (W2 s)))) : wpB Tryd.prog ops C0 Q (o :: rest) a :=
 b_mid hg 158 x ho g 0 hx (Us [s / 18446744073709551616,s % 18446744073709551616]) _ (fun w h=>Blk.range (hc w h)) Tryd.underlying158 rfl (size_sum _ rfl) hk
theorem b_fe {f : FuncId} {xs : Array Operand} {ats : Array TypeId} {args : Array Value} {x : F} (hg : Region.wanted o (yielded ops a.tmps) = true)
  (hf : Own f) (hc : ∀ w,C0 w → Calls Tryd.prog f args w (fun e w'=>∃ r,EB r x ∧ e = .returned (.agg (Us r).toArray) ∧ Below w.heap.size w w'))
  (ho : o.op = .call { callee:=.value (.func f),args:=xs,argTypes:=ats }) (hx : xs.toList.map a.eval = args.toList) (hk : ∀ r,EB r x → wpB Tryd.prog ops C0 Q rest (a.put o.dst (.agg (Us r).toArray))) : wpB Tryd.prog ops C0 Q (o :: rest) a:=by
 refine b_call (f:=f) (args:=args) (fun v=>∃ r,EB r x ∧ v = .agg (Us r).toArray) hg (by rw [ho]; rfl) (fun w hw=>(hc w hw).mono ?_) (fun w=>by rw [run_call_fn hf ho,map_eval hx]) ?_
 ·rintro e w2 ⟨r,hr,rfl,hw2⟩
  exact ⟨_,rfl,⟨r,hr,rfl⟩,hw2⟩
 ·rintro _ ⟨r,hr,rfl⟩
  exact hk r hr
end

/-! ### Five words put together -/
theorem built_u5 (v0 v1 v2 v3 v4 : Int) : Tryd.prog.built 75 [(0,.int .u64 v0),(1,.int .u64 v1),(2,.int .u64 v2),(3,.int .u64 v3),(4,.int .u64 v4)] = some #[.int .u64 v0,.int .u64 v1,.int .u64 v2,.int .u64 v3,.int .u64 v4]:=by kernel_rfl
theorem built_el (v0 v1 v2 v3 v4 : Int) : Tryd.prog.built 77 [(0,.agg #[.int .u64 v0,.int .u64 v1,.int .u64 v2,.int .u64 v3,.int .u64 v4])] = some #[.int .u64 v0,.int .u64 v1,.int .u64 v2,.int .u64 v3,.int .u64 v4]:=by kernel_rfl
theorem built_zero : Tryd.prog.built 77 [] = some z5:=by kernel_rfl
end Go.Proofs.YtminmeljonbogaaDoor
/-
  THE FIELD'S NUMBERS: Mul.
-/
namespace Go.Proofs.YtminmeljonbogaaDoor
open Go.RowKit Go.IntWalk Nums

set_option maxRecDepth 100000 in
set_option maxHeartbeats 2000000 in
theorem elmul_f {a b : List Nat} {x y : F} (ha : EB a x) (hb : EB b y) (w : World) :
  Calls Tryd.prog 79 #[.agg (Us a).toArray,.agg (Us b).toArray] w fun e w'=>∃ r,EB r (x * y) ∧ e = .returned (.agg (Us r).toArray) ∧ Below w.heap.size w w':=by
 obtain ⟨b0,b1,b2,b3,b4,rfl,r0,r1,r2,r3,r4,rv⟩:=hb.five;have e0 : (Us [b0,b1,b2,b3,b4]).toArray = #[.int .u64 (b0 : Int),.int .u64 (b1 : Int),.int .u64 (b2 : Int),.int .u64 (b3 : Int),.int .u64 (b4 : Int)]:=rfl;rw [e0]
 go_enter Tryd.func79,Tryd.ntmps79
 go_wp2
 go_region
 go_wp2
 go_loopw [32,5,6,7,8,9] (fun i v5 v6 v7 v8 v9 wr=>∃ k : Nat,k ≤ 5 ∧ i = .int .i64 k ∧ ∃ c0 c1 c2 c3 c4 s0 s1 s2 s3 s4 : Nat,v5 = .int .u64 c0 ∧ v6 = .int .u64 c1 ∧ v7 = .int .u64 c2 ∧ v8 = .int .u64 c3 ∧ v9 = .int .u64 c4 ∧ MM a y k c0 c1 c2 c3 c4 s0 s1 s2 s3 s4 ∧ MSt w wr a s0 s1 s2 s3 s4) (fun i _ _ _ _ _ _=>5 - (intOf i).toNat)
 case atStart =>
  exact ⟨0,by omega,rfl,b0,b1,b2,b3,b4,0,0,0,0,0,rfl,rfl,rfl,rfl,rfl,MM.start r0 r1 r2 r3 r4 rv,mst_start w a _⟩
 case round =>
  obtain ⟨k,hk,rfl,c0,c1,c2,c3,c4,s0,s1,s2,s3,s4,rfl,rfl,rfl,rfl,rfl,hM,hS⟩:=hrel
  by_cases hlt : k < 5
  ·have hN:=hM.next ha hlt
   have hd:=(hS.ba.cell k).trans (Us_at (by rw [ha.len]; exact hlt));have hv:=eb_get ha hlt
   obtain ⟨g0,g1,g2,g3,g4,u4,t0,t1,t2,t3,t4⟩ : c0 < 42784196465000448 ∧ c1 < 42784196465000448 ∧ c2 < 42784196465000448 ∧ c3 < 42784196465000448 ∧ c4 < 42784196465000448 ∧ c4 < 2251799813947392 ∧ s0 < 41538374868278621028243970633760768 ∧ s1 < 41538374868278621028243970633760768 ∧ s2 < 41538374868278621028243970633760768 ∧ s3 < 41538374868278621028243970633760768 ∧ s4 < 41538374868278621028243970633760768:=by
    obtain ⟨_,_,g0,g1,g2,g3,g4,u0,u1,u2,u3,u4,t0,t1,t2,t3,t4⟩:=hM;exact ⟨g0,g1,g2,g3,g4,u4 (by omega),by omega,by omega,by omega,by omega,by omega⟩
   have p0:=prod_le hv g0;have p1:=prod_le hv g1;have p2:=prod_le hv g2;have p3:=prod_le hv g3;have p4:=prod_le hv g4;generalize a[k]! = v at *;have HP0:=fun w1=>Lib.hid (plus_f s0 v c0 (by omega) (by omega) (by omega) w1);have HP1:=fun w1=>Lib.hid (plus_f s1 v c1 (by omega) (by omega) (by omega) w1);have HP2:=fun w1=>Lib.hid (plus_f s2 v c2 (by omega) (by omega) (by omega) w1);have HP3:=fun w1=>Lib.hid (plus_f s3 v c3 (by omega) (by omega) (by omega) w1);have HP4:=fun w1=>Lib.hid (plus_f s4 v c4 (by omega) (by omega) (by omega) w1);have HN:=Lib.hid hN
   have q1 : IntKind.u64.wrap (19 * (c4 : Int)) = ((19 * c4 : Nat) : Int):=by rw [IntKind.wrap_u64]; omega
   have q2 : (0 : Int) ≤ (k : Int):=by omega
   clear hN hM p0 p1 p2 p3 p4 g0 g1 g2 g3 g4 u4 t0 t1 t2 t3 t4 hv rv r0 r1 r2 r3 r4 hb;generalize s0 + v * c0 = n0 at *;generalize s1 + v * c1 = n1 at *;generalize s2 + v * c2 = n2 at *;generalize s3 + v * c3 = n3 at *;generalize s4 + v * c4 = n4 at *;generalize 19 * c4 = d at *;have hk0:=hS.k0;have HS:=Lib.hid hS;clear hS
   go_wp2_with (refine wpList_load_row rfl 158 _ rfl (w.heap.size + 1 + 1 + 1) rfl 158 (W2 s0) (0,0) _ hk0 Tryd.underlying158 rfl (size_sum _ (W2_size _)) ?_)
   refine (HP0 _).out.mono ?_
   rintro e w1 ⟨rfl,hw⟩
   have hS:=HS.out.step hw;have hk:=hS.k0;have hS2:=hS.set0 n0;have hk2:=hS2.k1;clear HS hw hS;have HS:=Lib.hid hS2;clear hS2
   go_wp2_with (first
    | (refine wpList_store_row rfl 158 _ _ rfl (w.heap.size + 1 + 1 + 1) rfl (W2 n0) rfl 158 _ hk (size_sum _ (W2_size _)) rfl (W2_one _) ?_)
    | (refine wpList_load_row rfl 158 _ rfl (w.heap.size + 1 + 1 + 1 + 1) rfl 158 (W2 s1) (0,0) _ hk2 Tryd.underlying158 rfl (size_sum _ (W2_size _)) ?_))
   clear hk hk2;refine (HP1 _).out.mono ?_
   rintro e w2 ⟨rfl,hw⟩
   have hS:=HS.out.step hw;have hk:=hS.k1;have hS2:=hS.set1 n1;have hk2:=hS2.k2;clear HS hw hS;have HS:=Lib.hid hS2;clear hS2
   go_wp2_with (first
    | (refine wpList_store_row rfl 158 _ _ rfl (w.heap.size + 1 + 1 + 1 + 1) rfl (W2 n1) rfl 158 _ hk (size_sum _ (W2_size _)) rfl (W2_one _) ?_)
    | (refine wpList_load_row rfl 158 _ rfl (w.heap.size + 1 + 1 + 1 + 1 + 1) rfl 158 (W2 s2) (0,0) _ hk2 Tryd.underlying158 rfl (size_sum _ (W2_size _)) ?_))
   clear hk hk2;refine (HP2 _).out.mono ?_
   rintro e w3 ⟨rfl,hw⟩
   have hS:=HS.out.step hw;have hk:=hS.k2;have hS2:=hS.set2 n2;have hk2:=hS2.k3;clear HS hw hS;have HS:=Lib.hid hS2;clear hS2
   go_wp2_with (first
    | (refine wpList_store_row rfl 158 _ _ rfl (w.heap.size + 1 + 1 + 1 + 1 + 1) rfl (W2 n2) rfl 158 _ hk (size_sum _ (W2_size _)) rfl (W2_one _) ?_)
    | (refine wpList_load_row rfl 158 _ rfl (w.heap.size + 1 + 1 + 1 + 1 + 1 + 1) rfl 158 (W2 s3) (0,0) _ hk2 Tryd.underlying158 rfl (size_sum _ (W2_size _)) ?_))
   clear hk hk2;refine (HP3 _).out.mono ?_
   rintro e w4 ⟨rfl,hw⟩
   have hS:=HS.out.step hw;have hk:=hS.k3;have hS2:=hS.set3 n3;have hk2:=hS2.k4;clear HS hw hS;have HS:=Lib.hid hS2;clear hS2
   go_wp2_with (first
    | (refine wpList_store_row rfl 158 _ _ rfl (w.heap.size + 1 + 1 + 1 + 1 + 1 + 1) rfl (W2 n3) rfl 158 _ hk (size_sum _ (W2_size _)) rfl (W2_one _) ?_)
    | (refine wpList_load_row rfl 158 _ rfl (w.heap.size + 1 + 1 + 1 + 1 + 1 + 1 + 1) rfl 158 (W2 s4) (0,0) _ hk2 Tryd.underlying158 rfl (size_sum _ (W2_size _)) ?_))
   clear hk hk2;refine (HP4 _).out.mono ?_
   rintro e w5 ⟨rfl,hw⟩
   have hS:=HS.out.step hw;have hk:=hS.k4;have hS2:=hS.set4 n4;clear HS hw hS;have HS:=Lib.hid hS2;clear hS2
   go_wp2_with (refine wpList_store_row rfl 158 _ _ rfl (w.heap.size + 1 + 1 + 1 + 1 + 1 + 1 + 1) rfl (W2 n4) rfl 158 _ hk (size_sum _ (W2_size _)) rfl (W2_one _) ?_)
   clear hk
   go_roundw
   case rel =>
    exact ⟨k + 1,by omega,by go_num,d,c0,c1,c2,c3,n0,n1,n2,n3,n4,rfl,rfl,rfl,rfl,rfl,HN.out,HS.out⟩
   case measure=>simp [intOf]; omega
  ·obtain rfl : k = 5:=by omega
   obtain ⟨hv,m0,m1,m2,m3,m4,d0,d1,d2,d3,d4⟩:=hM.fin ha;obtain ⟨hba,hbr,k0,k1,k2,k3,k4,hbe⟩:=hS;have hE:=crd_eb (a0:=s0 % 2251799813685248 + 19 * (s4 / 2251799813685248)) (a1:=s1 % 2251799813685248 + s0 / 2251799813685248) (a2:=s2 % 2251799813685248 + s1 / 2251799813685248) (a3:=s3 % 2251799813685248 + s2 / 2251799813685248) (a4:=s4 % 2251799813685248 + s3 / 2251799813685248) (by omega) (by omega) (by omega) (by omega) (by omega)
   have hE2 : EB (crd (s0 % 2251799813685248 + 19 * (s4 / 2251799813685248)) (s1 % 2251799813685248 + s0 / 2251799813685248) (s2 % 2251799813685248 + s1 / 2251799813685248) (s3 % 2251799813685248 + s2 / 2251799813685248) (s4 % 2251799813685248 + s3 / 2251799813685248)) (x * y):=by
    have h : fof (lv (crd s0 s1 s2 s3 s4)) = x * y:=hv
    unfold crd at h
    rw [h] at hE;exact hE
   have HC:=fun w1=>carried_f (s0 % 2251799813685248 + 19 * (s4 / 2251799813685248)) (s1 % 2251799813685248 + s0 / 2251799813685248) (s2 % 2251799813685248 + s1 / 2251799813685248) (s3 % 2251799813685248 + s2 / 2251799813685248) (s4 % 2251799813685248 + s3 / 2251799813685248) (by omega) (by omega) (by omega) (by omega) (by omega) w1;generalize crd (s0 % 2251799813685248 + 19 * (s4 / 2251799813685248)) (s1 % 2251799813685248 + s0 / 2251799813685248) (s2 % 2251799813685248 + s1 / 2251799813685248) (s3 % 2251799813685248 + s2 / 2251799813685248) (s4 % 2251799813685248 + s3 / 2251799813685248) = r at *;clear hE hv hM hba rv r0 r1 r2 r3 r4 hb;have HC2:=Lib.hid HC;have HE:=Lib.hid hE2;clear HC hE2
   go_wp2
   refine reg_set 29 (.tmp 4) 77 (.tmp 94) rfl rfl rfl rfl (by kernel_rfl) (tail_ok (by kernel_rfl)) (fun _ _ d _ _ h=>by cases d <;> exact h) ?_;simp only [List.take_succ_cons,List.take_zero];refine b_sum (w.heap.size + 1 + 1 + 1) _ rfl rfl rfl (fun _ h=>h.blk k0) ?_; simp only [Act.put,List.setIfInBounds_toArray,List.set_cons_zero,List.set_cons_succ];refine b_one rfl own_low (fun w1=>low_f s0 w1) rfl rfl ?_; simp only [Act.put,List.setIfInBounds_toArray,List.set_cons_zero,List.set_cons_succ];refine b_sum (w.heap.size + 1 + 1 + 1 + 1 + 1 + 1 + 1) _ rfl rfl rfl (fun _ h=>h.blk k4) ?_; simp only [Act.put,List.setIfInBounds_toArray,List.set_cons_zero,List.set_cons_succ];refine b_one rfl own_high (fun w1=>high_f s4 m4 w1) rfl rfl ?_; simp only [Act.put,List.setIfInBounds_toArray,List.set_cons_zero,List.set_cons_succ];refine b_mulu 19 (s4 / 2251799813685248) rfl rfl rfl rfl (by omega) ?_; simp only [Act.put,List.setIfInBounds_toArray,List.set_cons_zero,List.set_cons_succ];refine b_addu (s0 % 2251799813685248) (19 * (s4 / 2251799813685248)) rfl rfl rfl rfl (by omega) ?_; simp only [Act.put,List.setIfInBounds_toArray,List.set_cons_zero,List.set_cons_succ];refine b_sum (w.heap.size + 1 + 1 + 1 + 1) _ rfl rfl rfl (fun _ h=>h.blk k1) ?_; simp only [Act.put,List.setIfInBounds_toArray,List.set_cons_zero,List.set_cons_succ];refine b_one rfl own_low (fun w1=>low_f s1 w1) rfl rfl ?_; simp only [Act.put,List.setIfInBounds_toArray,List.set_cons_zero,List.set_cons_succ];refine b_sum (w.heap.size + 1 + 1 + 1) _ rfl rfl rfl (fun _ h=>h.blk k0) ?_; simp only [Act.put,List.setIfInBounds_toArray,List.set_cons_zero,List.set_cons_succ];refine b_one rfl own_high (fun w1=>high_f s0 m0 w1) rfl rfl ?_; simp only [Act.put,List.setIfInBounds_toArray,List.set_cons_zero,List.set_cons_succ];refine b_addu (s1 % 2251799813685248) (s0 / 2251799813685248) rfl rfl rfl rfl (by omega) ?_; simp only [Act.put,List.setIfInBounds_toArray,List.set_cons_zero,List.set_cons_succ];refine b_sum (w.heap.size + 1 + 1 + 1 + 1 + 1) _ rfl rfl rfl (fun _ h=>h.blk k2) ?_; simp only [Act.put,List.setIfInBounds_toArray,List.set_cons_zero,List.set_cons_succ];refine b_one rfl own_low (fun w1=>low_f s2 w1) rfl rfl ?_; simp only [Act.put,List.setIfInBounds_toArray,List.set_cons_zero,List.set_cons_succ];refine b_sum (w.heap.size + 1 + 1 + 1 + 1) _ rfl rfl rfl (fun _ h=>h.blk k1) ?_; simp only [Act.put,List.setIfInBounds_toArray,List.set_cons_zero,List.set_cons_succ];refine b_one rfl own_high (fun w1=>high_f s1 m1 w1) rfl rfl ?_; simp only [Act.put,List.setIfInBounds_toArray,List.set_cons_zero,List.set_cons_succ];refine b_addu (s2 % 2251799813685248) (s1 / 2251799813685248) rfl rfl rfl rfl (by omega) ?_; simp only [Act.put,List.setIfInBounds_toArray,List.set_cons_zero,List.set_cons_succ];refine b_sum (w.heap.size + 1 + 1 + 1 + 1 + 1 + 1) _ rfl rfl rfl (fun _ h=>h.blk k3) ?_; simp only [Act.put,List.setIfInBounds_toArray,List.set_cons_zero,List.set_cons_succ]
   refine b_one rfl own_low (fun w1=>low_f s3 w1) rfl rfl ?_; simp only [Act.put,List.setIfInBounds_toArray,List.set_cons_zero,List.set_cons_succ];refine b_sum (w.heap.size + 1 + 1 + 1 + 1 + 1) _ rfl rfl rfl (fun _ h=>h.blk k2) ?_; simp only [Act.put,List.setIfInBounds_toArray,List.set_cons_zero,List.set_cons_succ];refine b_one rfl own_high (fun w1=>high_f s2 m2 w1) rfl rfl ?_; simp only [Act.put,List.setIfInBounds_toArray,List.set_cons_zero,List.set_cons_succ];refine b_addu (s3 % 2251799813685248) (s2 / 2251799813685248) rfl rfl rfl rfl (by omega) ?_; simp only [Act.put,List.setIfInBounds_toArray,List.set_cons_zero,List.set_cons_succ];refine b_sum (w.heap.size + 1 + 1 + 1 + 1 + 1 + 1 + 1) _ rfl rfl rfl (fun _ h=>h.blk k4) ?_; simp only [Act.put,List.setIfInBounds_toArray,List.set_cons_zero,List.set_cons_succ];refine b_one rfl own_low (fun w1=>low_f s4 w1) rfl rfl ?_; simp only [Act.put,List.setIfInBounds_toArray,List.set_cons_zero,List.set_cons_succ];refine b_sum (w.heap.size + 1 + 1 + 1 + 1 + 1 + 1) _ rfl rfl rfl (fun _ h=>h.blk k3) ?_; simp only [Act.put,List.setIfInBounds_toArray,List.set_cons_zero,List.set_cons_succ];refine b_one rfl own_high (fun w1=>high_f s3 m3 w1) rfl rfl ?_; simp only [Act.put,List.setIfInBounds_toArray,List.set_cons_zero,List.set_cons_succ];refine b_addu (s4 % 2251799813685248) (s3 / 2251799813685248) rfl rfl rfl rfl (by omega) ?_; simp only [Act.put,List.setIfInBounds_toArray,List.set_cons_zero,List.set_cons_succ];refine b_build _ _ rfl rfl rfl (built_u5 _ _ _ _ _) ?_; simp only [Act.put,List.setIfInBounds_toArray,List.set_cons_zero,List.set_cons_succ];refine b_build _ _ rfl rfl rfl (built_el _ _ _ _ _) ?_; simp only [Act.put,List.setIfInBounds_toArray,List.set_cons_zero,List.set_cons_succ];refine b_one rfl own_carried (fun w1=>HC2.out w1) rfl rfl ?_; simp only [Act.put,List.setIfInBounds_toArray,List.set_cons_zero,List.set_cons_succ];have hzr:=len_us HE.out.len;refine wpB_nil ⟨_,z5,(Us r).toArray,rfl,rfl,hbr,by rw [hzr]; rfl,size_el _ hzr,Us_one _,fun w1 hw1=>?_⟩;have hfin:=hw1.blk hbr;have hbe2:=below_up hbe hw1
   go_wp2
   refine bodyPost_ret (results_cell_row rfl _ _ (w.heap.size + 1 + 1) 77 (Us r).toArray (0,0) _ rfl (hfin.row _) Tryd.underlying77 rfl (size_el _ hzr)) rfl ⟨r,HE.out,rfl,?_⟩;exact below_setRow hbe2 (by omega) _
end Go.Proofs.YtminmeljonbogaaDoor
