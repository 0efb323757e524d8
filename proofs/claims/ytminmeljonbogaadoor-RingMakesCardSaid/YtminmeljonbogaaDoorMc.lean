/-
  SEVERAL TEXTS IN ONE: DigF, Digest, RLong, RegH, FrN, FrP, Copy, RegI, High.
-/
import Derived.Test.YtminmeljonbogaaDoorMb
import Derived.Laws.OwnMore
import Derived.Test.YtminmeljonbogaaDoorMa
import Derived.Great.BuildSlice
/-
  THE DOCUMENT'S OWN DIGESTS: Digest with words of 64 bits, whole.
-/
namespace Go.Proofs.YtminmeljonbogaaDoor
open Go.RowKit Go.IntWalk Nums


def RB (w : World) (A : Option Addr) (d : Nat) (l : List UInt8) : Prop:=(A = none ∧ l = [] ∧ d = 0) ∨ ∃ ad,A = some ad ∧ ∀ j v,(By l)[j]? = some v → w.cell? (ad.add j) = some v
section
variable {ops : Array Oper} {Q : Exit → Act → World → Prop} {N : Nat} {E : List (Nat × Value)} {w : World} {o : Oper} {rest : List Oper} {k : Nat}
theorem l_appR {s x : Operand} {base c d : Nat} {A X : Option Addr} {xs l : List UInt8} (hg : o.guard = none) (hd : o.dst = some k) (hk : Nat.blt k N = true) (ho : o.op = .call { callee:=.builtin .append,args:=#[s,x],argTypes:=#[23,23] })
  (hs : ev E s = some (.slice A (By xs).length c)) (hx : ev E x = some (.slice X l.length d)) (hown : GS w base 5 A c (By xs)) (hR : RB w X d l) (hbytes : xs.length + l.length ≤ 140737488355328) (hbase : base ≤ w.heap.size)
  (hn : ∀ A' c' w',GS w' base 5 A' c' (By (xs ++ l)) → w.grownBy w' (A.map (·.block)) → lF Tryd.prog ops Q rest N ((k,.slice A' (By (xs ++ l)).length c') :: E) w') :
  lF Tryd.prog ops Q (o :: rest) N E w:=by
 rcases hR with ⟨rfl,rfl,rfl⟩ | ⟨ad,rfl,h2⟩
 ·obtain ⟨i,hi0,hz,hs0,hb⟩:=info_parts info_byte
  have hr:=run_append_owned_none (P:=Tryd.prog) w base 23 o.type 5 i 1 Tryd.underlying23 hi0 _ (By xs).length (By xs) hown;have h1:=hn A c w (by rw [List.append_nil]; exact hown) (World.grownBy.refl _ _);rw [List.append_nil] at h1;refine l_val _ hg hd hk (fun a ha=>?_) h1;have h2:=ha.eval hs;have h3:=ha.eval hx
  unfold execOp
  simp only [ho,resolve,invoke,builtin,Sem.run_bind,Sem.run_pure,Result.andThen_ok,List.map_toArray,List.map_cons,List.map_nil,h2,h3,List.length_nil,hr]
 ·refine l_app (bytes:=1) (z:=.int .u8 0) (news:=By l) (base:=base) (e:=5) (xs:=By xs) (A:=A) (c:=c) (ad:=ad) (m:=l.length) (d:=d) hg hd hk ho hs hx Tryd.underlying23 info_byte rfl hown (By_len l) h2 (By_one _) (by rw [By_len]; omega) (by rw [By_len]; unfold maxLen; omega) hbase ?_
  intro A' c' w' h3 h4 _
  rw [← By_app] at h3 ⊢;exact hn A' c' w' h3 h4
end
end Go.Proofs.YtminmeljonbogaaDoor
/-
  THE DOCUMENT'S OWN DIGESTS: Digest with words of 64 bits is SHA-512.
-/
namespace Go.Proofs.YtminmeljonbogaaDoor
open Go.RowKit Go.IntWalk Nums

/-! ### The words as bytes -/

/-! ### The message's end -/
end Go.Proofs.YtminmeljonbogaaDoor
/-
  THE DOCUMENT'S OWN DIGESTS: Long: SHA-512 of parts.
-/
namespace Go.Proofs.YtminmeljonbogaaDoor
open Go.RowKit Go.IntWalk Nums

section
variable {ops : Array Oper} {Q : Exit → Act → World → Prop} {N : Nat} {E : List (Nat × Value)} {w : World} {o : Oper} {rest : List Oper} {k : Nat}
theorem ev_args {a : Act} (ha : Fr N E a) : ∀ (l : List Operand) (m : List Value),l.map (ev E) = m.map some → l.map a.eval = m:=by
 intro l
 induction l with
 | nil=>intro m h; cases m with
  | nil=>rfl
  | cons=>cases h
 | cons y l ih=>intro m h; cases m with
  | nil=>cases h
  | cons u m =>
   simp only [List.map_cons,List.cons.injEq] at h ⊢;exact ⟨ha.eval h.1,ih m h.2⟩
theorem l_call {f : FuncId} {xs : Array Operand} {ats : Array TypeId} (args : Array Value) {R : Ending → World → Prop} (hg : o.guard = none) (hd : o.dst = some k) (hk : Nat.blt k N = true)
  (hf : Own f) (hc : Calls Tryd.prog f args w R) (ho : o.op = .call { callee:=.value (.func f),args:=xs,argTypes:=ats }) (hx : xs.toList.map (ev E) = args.toList.map some)
  (hn : ∀ e w',R e w' → ∃ v,e = .returned v ∧ lF Tryd.prog ops Q rest N ((k,v) :: E) w') : lF Tryd.prog ops Q (o :: rest) N E w:=fun a ha=>by
 have hr:=run_call_fn (a:=a) hf ho w;rw [map_eval (ev_args ha _ _ hx)] at hr
 unfold wpList
 rw [if_pos (by simp [Region.wanted,hg])];refine .inl ?_
 unfold Oper.wp
 rw [hr];simp only [Oper.upon,hd]
 exact hc.mono fun e w' he=>by
  obtain ⟨v,rfl,h1⟩:=hn e w' he;exact h1 _ (ha.put hk v)
end

end Go.Proofs.YtminmeljonbogaaDoor
/-
  REGIONS THAT DRAW THEIR ORDER, AND MAKE MEMORY: from the walk in the text's order to every order; the check of a region; walks over frames by what is known of them.
-/
namespace Go.Proofs.YtminmeljonbogaaDoor
open Go.RowKit Go.IntWalk

/-! ### Who waits for whom -/
inductive Waits (ops : Array Oper) : Nat → Nat → Prop
  | edge {j i : Nat} {o : Oper} (hj : ops[j]? = some o) (h : edgeTo .any o i = true) : Waits ops j i
  | via {j m i : Nat} {o : Oper} (hj : ops[j]? = some o) (h : edgeTo .any o m = true) (hm : Waits ops m i) : Waits ops j i
theorem edgeTo_spec {o : Oper} {i : Nat} (h : edgeTo .any o i = true) : ∃ e ∈ o.after,Region.binds .any e = true ∧ e.on = i:=by
 unfold edgeTo at h
 obtain ⟨e,he,hb⟩:=Array.any_eq_true'.1 h;simp only [Bool.and_eq_true,beq_iff_eq] at hb;exact ⟨e,he,hb.1,hb.2⟩
theorem Closed.waits' {ops : Array Oper} {listed : Array Bool} (hc : Closed .any ops listed) {j i : Nat} (h : Waits ops j i) : ∀ o,ops[j]? = some o → (∀ e ∈ o.after,Region.binds .any e = true → listed.getD e.on false = true) → listed.getD i false = true:=by
 induction h with
 | edge hj h =>
  intro o ho hl
  obtain rfl:=Option.some.inj (hj.symm.trans ho);obtain ⟨e,he,hb,rfl⟩:=edgeTo_spec h;exact hl e he hb
 | @via j m i o' hj h hm ih =>
  intro o ho hl
  obtain rfl:=Option.some.inj (hj.symm.trans ho);obtain ⟨e,he,hb,rfl⟩:=edgeTo_spec h;have h1:=hl e he hb
  obtain ⟨om,hom⟩ : ∃ om,ops[e.on]? = some om:=by cases hm with
   | edge hj _=>exact ⟨_,hj⟩
   | via hj _ _=>exact ⟨_,hj⟩
  exact ih om hom (hc _ om hom h1)

def maskE (ms : List Nat) : List Edge → Nat
  | []=>0
  | e :: l=>if Region.binds .any e then (2 ^ e.on ||| ms.getD e.on 0) ||| maskE ms l else maskE ms l
def maskL : List Oper → List Nat → List Nat
  | [],ms=>ms
  | o :: l,ms=>maskL l (ms ++ [maskE ms o.after.toList])
theorem maskE_spec {ms : List Nat} {i : Nat} : ∀ {l : List Edge},(maskE ms l).testBit i = true → ∃ e ∈ l,Region.binds .any e = true ∧ (e.on = i ∨ ∃ b,ms[e.on]? = some b ∧ b.testBit i = true)
 | [],h=>by simp [maskE] at h
 | e :: l,h=>by
  unfold maskE at h
  split at h
  ·rename_i hb
   rw [Nat.testBit_or,Nat.testBit_or] at h;simp only [Bool.or_eq_true] at h
   rcases h with (h | h) | h
   ·refine ⟨e,by simp,hb,.inl ?_⟩
    rw [Nat.testBit_two_pow] at h
    simpa using h
   ·refine ⟨e,by simp,hb,.inr ?_⟩
    rw [List.getD_eq_getElem?_getD] at h
    cases hm : ms[e.on]? with
    | none=>rw [hm] at h; simp at h
    | some b=>rw [hm] at h; exact ⟨b,rfl,h⟩
   ·obtain ⟨e',he,h'⟩:=maskE_spec h
    exact ⟨e',List.mem_cons_of_mem _ he,h'⟩
  ·obtain ⟨e',he,h'⟩:=maskE_spec h
   exact ⟨e',List.mem_cons_of_mem _ he,h'⟩
def OkM (ops : Array Oper) (ms : List Nat) : Prop:=∀ j b i : Nat,ms[j]? = some b → b.testBit i = true → Waits ops j i
theorem maskL_ok {ops : Array Oper} : ∀ (l : List Oper) (ms : List Nat),(∀ j,j < l.length → l[j]? = ops[ms.length + j]?) → OkM ops ms → OkM ops (maskL l ms)
 | [],_,_,h=>h
 | o :: l,ms,hl,h=>by
  unfold maskL
  refine maskL_ok l _ (fun j hj=>?_) ?_
  ·have:=hl (j + 1) (by simpa using hj)
   simpa [Nat.add_assoc,Nat.add_comm 1 j] using this
  ·intro j b i hj hb
   rw [List.getElem?_append] at hj
   split at hj
   ·exact h j b i hj hb
   ·rename_i hlt
    have h0 : j - ms.length = 0:=by
     by_cases e : j - ms.length = 0
     ·exact e
     ·exfalso
      obtain ⟨k,hk⟩ : ∃ k,j - ms.length = k + 1:=⟨j - ms.length - 1,by omega⟩;rw [hk] at hj
      simp at hj
    obtain rfl : j = ms.length:=by omega
    rw [h0] at hj;simp only [List.getElem?_cons_zero,Option.some.injEq] at hj;subst hj
    have ho : ops[ms.length]? = some o:=by simpa using (hl 0 (by simp)).symm
    obtain ⟨e,he,hbd,h5⟩:=maskE_spec hb
    have he' : e ∈ o.after:=by simpa using he
    have hed : edgeTo .any o e.on = true:=by
     unfold edgeTo
     exact Array.any_eq_true'.2 ⟨e,he',by simp [hbd]⟩
    rcases h5 with rfl | ⟨b,hb1,hb2⟩
    ·exact .edge ho hed
    ·exact .via ho hed (h _ b i hb1 hb2)

/-! ### The check of a region -/
def othersH (ops : Array Oper) (o : Oper) (k : Nat) : List Oper → List Nat → Bool
  | [],_=>true
  | _ :: _,[]=>false
  | x :: l,m :: ms=>(m.testBit k || (o.apart ops x && (stillG x.op || !multiG o.op))) && othersH ops o k l ms
def headH (ops : Array Oper) : List Oper → List Nat → Nat → Bool
  | [],_,_=>true
  | _ :: _,[],_=>false
  | o :: l,_ :: ms,k=>o.after.all (fun e=>!Region.binds .any e || decide (e.on < k)) && othersH ops o k l ms && headH ops l ms (k + 1)
def tailH (ops : Array Oper) (n m : Nat) : Bool :=
  Region.noSelect ops && headH ops (ops.toList.take n) (maskL ops.toList []) 0 && (match (maskL ops.toList [])[n]? with | none=>true | some b=>(List.range n).all b.testBit) &&
    decide (ops.size = m + n) && forcedB .any ops m n (marks n 0 (Array.replicate ops.size false))
theorem others_ok {ops : Array Oper} {o : Oper} {k : Nat} : ∀ {l : List Oper} {ms : List Nat},othersH ops o k l ms = true → ∀ (j : Nat) (x : Oper),l[j]? = some x → ∃ m,ms[j]? = some m ∧ (m.testBit k = true ∨ (o.apart ops x = true ∧ (stillG x.op = true ∨ multiG o.op = false)))
 | [],_,_,j,x,hx=>by simp at hx
 | _ :: _,[],h,_,_,_=>by cases h
 | y :: l,m :: ms,h,0,x,hx=>by
  simp only [List.getElem?_cons_zero,Option.some.injEq] at hx;subst hx;simp only [othersH,Bool.and_eq_true,Bool.or_eq_true,Bool.not_eq_true'] at h;exact ⟨m,rfl,h.1⟩
 | y :: l,m :: ms,h,j + 1,x,hx=>by
  simp only [othersH,Bool.and_eq_true] at h;obtain ⟨m',h1,h2⟩:=others_ok h.2 j x (by simpa using hx);exact ⟨m',by simpa using h1,h2⟩
theorem head_ok {ops : Array Oper} : ∀ {l : List Oper} {ms : List Nat} {k : Nat},headH ops l ms k = true → ∀ (i j : Nat) (x y : Oper),i < j → l[i]? = some x → l[j]? = some y → ∃ m,ms[j]? = some m ∧ (m.testBit (k + i) = true ∨ (x.apart ops y = true ∧ (stillG y.op = true ∨ multiG x.op = false)))
 | [],_,_,_,i,_,x,_,_,hx,_=>by simp at hx
 | _ :: _,[],_,h,_,_,_,_,_,_,_=>by cases h
 | o :: l,m :: ms,k,h,0,0,x,y,hij,_,_=>absurd hij (by omega)
 | o :: l,m :: ms,k,h,0,j + 1,x,y,_,hx,hy=>by
  simp only [headH,Bool.and_eq_true] at h;simp only [List.getElem?_cons_zero,Option.some.injEq] at hx;subst hx;obtain ⟨m',h1,h2⟩:=others_ok h.1.2 j y (by simpa using hy);exact ⟨m',by simpa using h1,h2⟩
 | o :: l,m :: ms,k,h,i + 1,0,x,y,hij,_,_=>absurd hij (by omega)
 | o :: l,m :: ms,k,h,i + 1,j + 1,x,y,hij,hx,hy=>by
  simp only [headH,Bool.and_eq_true] at h;obtain ⟨m',h1,h2⟩:=head_ok h.2 i j x y (by omega) (by simpa using hx) (by simpa using hy);exact ⟨m',by simpa using h1,by rwa [show k + (i + 1) = k + 1 + i by omega]⟩
theorem head_low {ops : Array Oper} : ∀ {l : List Oper} {ms : List Nat} {k : Nat},headH ops l ms k = true → ∀ (i : Nat) (x : Oper),l[i]? = some x → ∀ e ∈ x.after,Region.binds .any e = true → e.on < k + i
 | [],_,_,_,i,x,hx=>by simp at hx
 | _ :: _,[],_,h,_,_,_=>by cases h
 | o :: l,m :: ms,k,h,0,x,hx=>fun e he hb=>by
  simp only [headH,Bool.and_eq_true] at h;simp only [List.getElem?_cons_zero,Option.some.injEq] at hx;subst hx;have h5:=Array.all_eq_true'.1 h.1.1 e he
  simpa [hb] using h5
 | o :: l,m :: ms,k,h,i + 1,x,hx=>fun e he hb=>by
  simp only [headH,Bool.and_eq_true] at h;have:=head_low h.2 i x (by simpa using hx) e he hb
  omega

/-! ### Every order -/
structure Pend (ops : Array Oper) (n : Nat) (l : List (Nat × Oper)) (listed : Array Bool) : Prop where
  size : listed.size = ops.size
  mem : ∀ x ∈ l,ops[x.1]? = some x.2 ∧ x.1 < n ∧ listed.getD x.1 true = false
  out : ∀ j o,j < n → ops[j]? = some o → listed.getD j true = false → (j,o) ∈ l
  tail : ∀ j,n ≤ j → j < ops.size → listed.getD j true = false
  sort : l.Pairwise fun x y=>x.1 < y.1
  closed : Closed .any ops listed
theorem getD_in {listed : Array Bool} {j : Nat} (h : j < listed.size) : listed.getD j true = listed.getD j false:=by
 simp only [Array.getD_eq_getD_getElem?];rw [Array.getElem?_eq_getElem h]
 rfl
theorem Pend.step {ops : Array Oper} {n i : Nat} {o : Oper} {l1 l2 : List (Nat × Oper)} {listed : Array Bool} (h : Pend ops n (l1 ++ (i,o) :: l2) listed) (hr : i ∈ Region.ready .any ops listed) : Pend ops n (l1 ++ l2) (listed.setIfInBounds i true):=by
 have hs:=h.sort;rw [List.pairwise_append,List.pairwise_cons] at hs;have hm:=h.mem (i,o) (by simp)
 have hil : i < listed.size:=by rw [h.size]; exact (Array.getElem?_eq_some_iff.1 hm.1).1
 refine ⟨by rw [Array.size_setIfInBounds,h.size],fun x hx=>?_,fun j o' hj ho hl=>?_,fun j hj hjs=>?_,?_,h.closed.set hr⟩
 ·have hne : i ≠ x.1:=by
   rcases List.mem_append.1 hx with h1 | h1
   ·have:=hs.2.2 x h1 (i,o) (by simp)
    dsimp only at this
    omega
   ·have:=hs.2.1.1 x h1
    dsimp only at this
    omega
  obtain ⟨h1,h2,h3⟩:=h.mem x (by
   rcases List.mem_append.1 hx with h1 | h1
   ·exact List.mem_append_left _ h1
   ·exact List.mem_append_right _ (List.mem_cons_of_mem _ h1))
  exact ⟨h1,h2,by rw [getD_set_ne true hne]; exact h3⟩
 ·by_cases e : i = j
  ·subst e
   simp [hil] at hl
  ·rw [getD_set_ne true e] at hl
   have h1:=h.out j o' hj ho hl
   rcases List.mem_append.1 h1 with h2 | h2
   ·exact List.mem_append_left _ h2
   ·rcases List.mem_cons.1 h2 with h3 | h3
    ·injection h3 with h4 h5
     exact absurd h4.symm e
    ·exact List.mem_append_right _ h3
 ·rw [getD_set_ne true (by have:=hm.2.1; dsimp only at this; omega)]
  exact h.tail j hj hjs
 ·exact h.sort.sublist (List.Sublist.append (List.Sublist.refl _) (List.sublist_cons_self _ _))

def endG (P : Program) (ops : Array Oper) (Q : Exit → Act → World → Prop) (C0 : World → Prop) (T : List Oper) (F : Facts) (a : Act) : Prop:=∀ w,C0 w → (∀ k,F k w) → wpList P ops Q T a w
theorem endG_mono {P : Program} {ops : Array Oper} {Q : Exit → Act → World → Prop} {C0 : World → Prop} {T : List Oper} : ∀ (F F' : Facts) (a : Act),(∀ k w,F' k w → F k w) → endG P ops Q C0 T F a → endG P ops Q C0 T F' a :=
 fun _ _ _ h hh w hw hF=>hh w hw fun k=>h k w (hF k)

section
variable {P : Program} {Rel : World → World → Prop} {ops : Array Oper} {Q : Exit → Act → World → Prop} {C0 : World → Prop}
theorem reg_any (hcl : ∀ w w',C0 w → Rel w w' → C0 w') {n : Nat} {T : List Oper} (hB : tailH ops n T.length = true) (hT : ∀ j,j < T.length → T[j]? = ops[n + j]?) :
  ∀ (N : Nat) (l : List (Nat × Oper)) (listed : Array Bool) (F : Facts) (a : Act) (w : World),l.length = N → Pend ops n l listed → GoodF Rel C0 F w → Unl l F →
   wpG P Rel ops C0 (endG P ops Q C0 T) l F a → wpAny P .any ops Q (T.length + N) listed a w:=by
 simp only [tailH,Bool.and_eq_true,decide_eq_true_eq] at hB;obtain ⟨⟨⟨⟨hsel,hh⟩,hsk⟩,hsz⟩,hf⟩:=hB;have hM : OkM ops (maskL ops.toList []):=maskL_ok ops.toList [] (fun j _=>by simp) (fun j b i hj=>by simp at hj)
 have htk : ∀ (j : Nat) (o : Oper),j < n → ops[j]? = some o → (ops.toList.take n)[j]? = some o:=fun j o hj ho=>by
  rw [List.getElem?_take,if_pos hj]
  simpa using ho
 have hI : Inv ops n (marks n 0 (Array.replicate ops.size false)):=by
  have:=Inv.marks (listed:=#[]) n (Inv.start (ops:=ops))
  rwa [Nat.zero_add] at this
 intro N
 induction N with
 | zero =>
  intro l listed F a w hl hP hG hU h
  obtain rfl:=List.eq_nil_of_length_eq_zero hl
  have e : listed = marks n 0 (Array.replicate ops.size false):=by
   have hms : ∀ (k m : Nat) (x : Array Bool),(marks k m x).size = x.size:=by
    intro k
    induction k with
    | zero=>intro m x; rfl
    | succ k ih=>intro m x; rw [marks,ih,Array.size_setIfInBounds]
   refine Array.ext (by rw [hms,hP.size,Array.size_replicate]) fun j h1 h2=>?_
   have hj : j < ops.size:=by rw [← hP.size]; exact h1
   have h3:=hI j hj;rw [Array.getElem?_eq_getElem h2] at h3
   injection h3 with h3
   rw [h3]
   have h4 : listed.getD j true = listed[j]:=by
    simp only [Array.getD_eq_getD_getElem?];rw [Array.getElem?_eq_getElem h1]
    rfl
   by_cases hjn : j < n
   ·rw [decide_eq_true hjn]
    cases hv : listed[j] with
    | true=>rfl
    | false =>
     have h5:=hP.out j ops[j] hjn (Array.getElem?_eq_getElem hj) (h4.trans hv)
     simp at h5
   ·rw [decide_eq_false hjn,← h4]
    exact hP.tail j (by omega) hj
  exact wpAny_forced T n listed a w hT (by rw [e]; exact hf) (h w hG.cls hG.all)
 | succ N ih =>
  intro l listed F a w hl hP hG hU h
  obtain ⟨x0,l0,rfl⟩ : ∃ x l',l = x :: l':=by cases l with
   | nil=>simp at hl
   | cons x l=>exact ⟨x,l,rfl⟩
  have hm0:=hP.mem x0 (by simp);have hs0:=List.pairwise_cons.1 hP.sort
  have hx0 : x0.1 ∈ Region.ready .any ops listed:=by
   refine mem_ready.2 ⟨hm0.2.2,x0.2,hm0.1,fun e he hb=>?_⟩;have hlow:=head_low hh x0.1 x0.2 (htk _ _ hm0.2.1 hm0.1) e he hb;rw [Nat.zero_add] at hlow;have hes : e.on < ops.size:=Nat.lt_trans hlow (Array.getElem?_eq_some_iff.1 hm0.1).1
   cases hv : listed.getD e.on false with
   | true=>rfl
   | false =>
    rw [← getD_in (by rw [hP.size]; exact hes)] at hv;have h5:=hP.out e.on ops[e.on] (by omega) (Array.getElem?_eq_getElem hes) hv
    rcases List.mem_cons.1 h5 with h6 | h6
    ·rw [← h6] at hlow
     exact absurd hlow (by simp)
    ·have:=hs0.1 _ h6
     dsimp only at this
     omega
  refine ⟨fun h0=>(by rw [h0] at hx0; cases hx0),fun i hi=>?_⟩;obtain ⟨hiu,o,hio,hall⟩:=mem_ready.1 hi;have his:=(Array.getElem?_eq_some_iff.1 hio).1
  have hin : i < n:=by
   by_cases hin : i < n
   ·exact hin
   ·exfalso
    have hr : i ∈ Region.ready .any ops (marks n 0 (Array.replicate ops.size false)):=mem_ready.2 ⟨hI.out his (by omega) true,o,hio,fun e he hb=>by
     have h5:=hall e he hb
     have hes : e.on < ops.size:=by
      rcases Nat.lt_or_ge e.on listed.size with h6 | h6
      ·rw [← hP.size]; exact h6
      ·simp [Array.getElem?_eq_none h6] at h5
     by_cases hen : e.on < n
     ·exact hI.in_ hes hen false
     ·have h6:=hP.tail e.on (by omega) hes
      rw [getD_in (by rw [hP.size]; exact hes),h5] at h6
      cases h6⟩
    have hw : Waits ops i x0.1:=by
     cases hTl : T.length with
     | zero =>
      rw [hTl] at hf;simp only [forcedB,List.isEmpty_iff] at hf;rw [hf] at hr
      cases hr
     | succ m =>
      rw [hTl] at hf;simp only [forcedB,Bool.and_eq_true,decide_eq_true_eq] at hf;rw [hf.1,List.mem_singleton] at hr;subst hr
      cases hms : (maskL ops.toList [])[i]? with
      | none =>
       exfalso
       have hlen : ∀ (l : List Oper) (ms : List Nat),(maskL l ms).length = l.length + ms.length:=by
        intro l
        induction l with
        | nil=>intro ms; simp [maskL]
        | cons o l ih=>intro ms; rw [maskL,ih]; simp; omega
       rw [List.getElem?_eq_none_iff,hlen] at hms
       simp at hms
       omega
      | some b =>
       rw [hms] at hsk;simp only [List.all_eq_true,List.mem_range] at hsk;exact hM i b x0.1 hms (hsk x0.1 hm0.2.1)
    have h7:=hP.closed.waits' hw o hio hall;have h8:=getD_ready hx0;rw [h7] at h8
    cases h8
  have hil : (i,o) ∈ x0 :: l0:=hP.out i o hin hio hiu;generalize x0 :: l0 = l at *;clear hm0 hs0 hx0;obtain ⟨l1,l2,rfl⟩:=List.append_of_mem hil;have hs:=hP.sort;have hs':=hs;rw [List.pairwise_append,List.pairwise_cons] at hs';have hnd : ((l1 ++ (i,o) :: l2).map (·.1)).Nodup:=List.Pairwise.map _ (fun _ _ h=>Nat.ne_of_lt h) hs
  have hp : ∀ x ∈ l1,PairG ops x (i,o):=fun x hx=>by
   have hlt:=hs'.2.2 x hx (i,o) (by simp)
   dsimp only at hlt
   have hm:=hP.mem x (List.mem_append_left _ hx);have hxu:=hm.2.2
   have hxs : x.1 < listed.size:=by rw [hP.size]; exact (Array.getElem?_eq_some_iff.1 hm.1).1
   rw [getD_in hxs] at hxu;obtain ⟨m,h1,h2⟩:=head_ok hh x.1 i x.2 o hlt (htk _ _ hm.2.1 hm.1) (htk _ _ hin hio);rw [Nat.zero_add] at h2
   have h3 : x.2.apart ops o = true ∧ (stillG o.op = true ∨ multiG x.2.op = false):=by
    rcases h2 with h2 | h2
    ·have h7:=hP.closed.waits' (hM i m x.1 h1 h2) o hio hall
     rw [h7] at hxu
     cases hxu
    ·exact h2
   refine ⟨Nat.ne_of_lt hlt,h3.1,fun e he hb hon=>?_,fun e he hb hon=>?_,h3.2,fun cs b=>Region.noSelect_spec hsel x.1 x.2 cs b hm.1,fun cs b=>Region.noSelect_spec hsel i o cs b hio⟩
   ·have h7:=hall e he hb
    rw [hon,hxu] at h7
    cases h7
   ·have h7:=head_low hh x.1 x.2 (htk _ _ hm.2.1 hm.1) e he hb
    dsimp only at hon
    omega
  have h9:=frontG hcl endG_mono (i,o) l2 l1 F a w hp hnd hG hU h;have hP':=hP.step hi
  have hU' : Unl (l1 ++ l2) F:=fun x hx=>hU x (by
   rcases List.mem_append.1 hx with h1 | h1
   ·exact List.mem_append_left _ h1
   ·exact List.mem_append_right _ (List.mem_cons_of_mem _ h1))
  have hi' : i ∉ (l1 ++ l2).map (·.1):=fun hmem=>by
   obtain ⟨x,hx,hxi⟩:=List.mem_map.1 hmem
   rcases List.mem_append.1 hx with h1 | h1
   ·have:=hs'.2.2 x h1 (i,o) (by simp)
    dsimp only at this hxi
    omega
   ·have:=hs'.2.1.1 x h1
    dsimp only at this hxi
    omega
  have hlen : (l1 ++ l2).length = N:=by
   simp only [List.length_append,List.length_cons] at hl ⊢
   omega
  unfold wpOp
  simp only [hio]
  unfold wpG at h9
  dsimp only at h9
  split
  ·rename_i hw
   rw [if_pos hw] at h9;obtain ⟨V,hpv,_,hy,hn⟩:=h9;refine .inl ?_;have h3:=hy w hG.cls (fun e _ _=>hG.all e.on)
   have fin : ∀ u w',Rel w w' → V u w' → wpAny P .any ops Q (T.length + N) (listed.setIfInBounds i true) (a.put o.dst u) w':=fun u w' hb hV=>by
    have hC:=hcl _ _ hG.cls hb;have hF : ∀ k,F k w':=fun k=>hG.pers k _ _ (hG.all k) hb;exact ih (l1 ++ l2) _ _ _ w' hlen hP' (hG.up (hpv u) hC hF hV) (hU'.up hi') (hn u w' hC hF hV)
   unfold Oper.wp
   generalize (execOp a.eval o).run P w = r at *
   cases r with
   | ok n w' =>
    cases n <;> simp only [uponG] at h3 <;> simp only [Oper.upon]
    case value u=>exact fin u w' h3.1 h3.2
    case skip=>exact fin _ w' h3.1 h3.2
    case enter f args =>
     obtain ⟨e1,hc⟩:=h3;rw [e1]
     exact hc.mono fun e w'' ⟨v,he,hb,hV⟩=>by subst he; exact fin v w'' hb hV
   | halt x w'=>simp only [uponG] at h3
  ·rename_i hw
   rw [if_neg hw] at h9;exact ih (l1 ++ l2) _ _ _ w hlen hP' (hG.up (fun _ _ _ _=>trivial) hG.cls hG.all trivial) (hU'.up hi') h9

theorem reg_text (hcl : ∀ w w',C0 w → Rel w w' → C0 w') {T : List Oper} : ∀ (l : List (Nat × Oper)) (F : Facts) (a : Act) (w : World),GoodF Rel C0 F w → wpG P Rel ops C0 (endG P ops Q C0 T) l F a → wpList P ops Q (l.map (·.2) ++ T) a w
 | [],F,a,w,hG,h=>h w hG.cls hG.all
 | x :: l,F,a,w,hG,h=>by
  rw [List.map_cons,List.cons_append]
  unfold wpList
  unfold wpG at h
  split
  ·rename_i hw
   rw [if_pos hw] at h;obtain ⟨V,hpv,_,hy,hn⟩:=h;refine .inl ?_;have h3:=hy w hG.cls (fun e _ _=>hG.all e.on)
   have fin : ∀ u w',Rel w w' → V u w' → wpList P ops Q (l.map (·.2) ++ T) (a.put x.2.dst u) w':=fun u w' hb hV=>by
    have hC:=hcl _ _ hG.cls hb;have hF : ∀ k,F k w':=fun k=>hG.pers k _ _ (hG.all k) hb;exact reg_text hcl l _ _ w' (hG.up (hpv u) hC hF hV) (hn u w' hC hF hV)
   unfold Oper.wp
   generalize (execOp a.eval x.2).run P w = r at *
   cases r with
   | ok n w' =>
    cases n <;> simp only [uponG] at h3 <;> simp only [Oper.upon]
    case value u=>exact fin u w' h3.1 h3.2
    case skip=>exact fin _ w' h3.1 h3.2
    case enter f args =>
     obtain ⟨e1,hc⟩:=h3;rw [e1]
     exact hc.mono fun e w'' ⟨v,he,hb,hV⟩=>by subst he; exact fin v w'' hb hV
   | halt x w'=>simp only [uponG] at h3
  ·rename_i hw
   rw [if_neg hw] at h;exact reg_text hcl l _ _ w (hG.up (fun _ _ _ _=>trivial) hG.cls hG.all trivial) h
end

/-! ### Over frames by what is known of them -/
def idx : Nat → List Oper → List (Nat × Oper)
  | _,[]=>[]
  | k,o :: l=>(k,o) :: idx (k + 1) l
theorem idx_map : ∀ (k : Nat) (l : List Oper),(idx k l).map (·.2) = l
 | _,[]=>rfl
 | k,o :: l=>by rw [idx,List.map_cons,idx_map]
theorem idx_len : ∀ (k : Nat) (l : List Oper),(idx k l).length = l.length
 | _,[]=>rfl
 | k,o :: l=>by rw [idx,List.length_cons,idx_len,List.length_cons]
theorem idx_mem : ∀ {k : Nat} {l : List Oper} {x : Nat × Oper},x ∈ idx k l → k ≤ x.1 ∧ l[x.1 - k]? = some x.2
 | _,[],_,h=>by simp [idx] at h
 | k,o :: l,x,h=>by
  rcases List.mem_cons.1 h with rfl | h
  ·exact ⟨Nat.le_refl _,by simp⟩
  ·obtain ⟨h1,h2⟩:=idx_mem h
   refine ⟨by omega,?_⟩;rw [show x.1 - k = x.1 - (k + 1) + 1 by omega]
   simpa using h2
theorem mem_idx : ∀ {k : Nat} {l : List Oper} {j : Nat} {o : Oper},l[j]? = some o → (k + j,o) ∈ idx k l
 | _,[],_,_,h=>by simp at h
 | k,x :: l,0,o,h=>by
  simp only [List.getElem?_cons_zero,Option.some.injEq] at h;subst h;exact List.mem_cons_self
 | k,x :: l,j + 1,o,h=>by
  have h1:=mem_idx (k:=k + 1) (l:=l) (j:=j) (o:=o) (by simpa using h);rw [show k + (j + 1) = k + 1 + j by omega];exact List.mem_cons_of_mem _ h1
theorem idx_sort : ∀ (k : Nat) (l : List Oper),(idx k l).Pairwise fun x y=>x.1 < y.1
 | _,[]=>List.Pairwise.nil
 | k,o :: l=>List.Pairwise.cons (fun x hx=>by have:=(idx_mem hx).1; dsimp only; omega) (idx_sort (k + 1) l)

abbrev Told:=List (Nat × (World → Prop))
def lookP : Told → Nat → Option (World → Prop)
  | [],_=>none
  | (k,p) :: r,j=>match Nat.beq k j with
    | true=>some p
    | false=>lookP r j
def farP (i : Nat) (Fa : Told) : Bool:=Fa.all fun x=>!Nat.beq x.1 i
def Tell (Fa : Told) (F : Facts) : Prop:=∀ x ∈ Fa,∀ w,F x.1 w → x.2 w
theorem lookP_mem : ∀ {Fa : Told} {j : Nat} {p : World → Prop},lookP Fa j = some p → (j,p) ∈ Fa
 | [],_,_,h=>by cases h
 | (k,q) :: r,j,p,h=>by
  unfold lookP at h
  split at h
  ·rename_i e
   obtain rfl:=Nat.eq_of_beq_eq_true e
   cases h
   exact List.mem_cons_self
  ·exact List.mem_cons_of_mem _ (lookP_mem h)
theorem Tell.up {Fa : Told} {F : Facts} {i : Nat} {p : World → Prop} (h : Tell Fa F) (hf : farP i Fa = true) : Tell Fa (upF F i p):=fun x hx w hw=>by
 have h1:=List.all_eq_true.1 hf x hx
 have e : x.1 ≠ i:=by
  rintro rfl
  simp at h1
 rw [upF_ne e] at hw;exact h x hx w hw
theorem Tell.more {Fa : Told} {F : Facts} {i : Nat} {p : World → Prop} (h : Tell Fa F) (hf : farP i Fa = true) : Tell ((i,p) :: Fa) (upF F i p):=fun x hx w hw=>by
 rcases List.mem_cons.1 hx with rfl | hx
 ·rwa [upF_same] at hw
 ·exact h.up hf x hx w hw

def gF (P : Program) (Rel : World → World → Prop) (ops : Array Oper) (C0 : World → Prop) (Q : Facts → Act → Prop) (l : List (Nat × Oper)) (N : Nat) (E : List (Nat × Value)) (Fa : Told) : Prop :=
  ∀ a F,Fr N E a → Tell Fa F → wpG P Rel ops C0 Q l F a
def Uses (o : Oper) (Fa : Told) (w : World) : Prop:=∀ j p,lookP Fa j = some p → edgeTo .any o j = true → p w

section
variable {P : Program} {Rel : World → World → Prop} {C0 : World → Prop} {Q : Exit → Act → World → Prop} {N : Nat} {E : List (Nat × Value)} {w : World} {id : Nat} {l : List Oper}
theorem c_gR (n : Nat) (hcl : ∀ w w',C0 w → Rel w w' → C0 w') (h0 : C0 w.drew) (hn : n ≤ l.length) (hm : P.follows .mixedOrders = true) (hB : tailH l.toArray n (l.drop n).length = true)
  (h : gF P Rel l.toArray C0 (endG P l.toArray Q C0 (l.drop n)) (idx 0 (l.take n)) N E []) : cF P (.region id l.toArray true) Q N E w:=fun a ha=>by
 refine wp_region_any hm ?_
 have hL : (l.take n).length = n:=by rw [List.length_take]; omega
 have hG : GoodF Rel C0 (fun _ _=>True) w.drew:=⟨fun _ _ _ _ _=>trivial,h0,fun _=>trivial⟩
 have hP : Pend l.toArray n (idx 0 (l.take n)) (Array.replicate l.toArray.size false):=by
  refine ⟨by simp,fun x hx=>?_,fun j o hj ho _=>?_,fun j _ hj=>by
   have hj' : j < l.length:=by simpa using hj
   simp [hj'],idx_sort _ _,Closed.none _⟩
  ·obtain ⟨_,h2⟩:=idx_mem hx
   rw [Nat.sub_zero,List.getElem?_take] at h2
   split at h2
   ·rename_i hlt
    have h3 : x.1 < l.length:=(List.getElem?_eq_some_iff.1 h2).1;exact ⟨by simpa using h2,hlt,by simp [h3]⟩
   ·cases h2
  ·have h1:=mem_idx (k:=0) (l:=l.take n) (j:=j) (o:=o) (by rw [List.getElem?_take,if_pos hj]; simpa using ho)
   rwa [Nat.zero_add] at h1
 have h2:=reg_any (Q:=Q) hcl hB (fun j _=>by simp) n (idx 0 (l.take n)) _ _ a w.drew (by rw [idx_len,hL]) hP hG (fun _ _ _=>trivial) (h a _ ha (fun x hx=>by cases hx))
 have e : (l.drop n).length + n = l.toArray.size:=by simp; omega
 rw [e] at h2;exact h2
theorem c_gRF (n : Nat) (hcl : ∀ w w',C0 w → Rel w w' → C0 w') (h0 : C0 w) (h : gF P Rel l.toArray C0 (endG P l.toArray Q C0 (l.drop n)) (idx 0 (l.take n)) N E []) : cF P (.region id l.toArray false) Q N E w:=fun a ha=>by
 refine wp_region_lit ?_;have hG : GoodF Rel C0 (fun _ _=>True) w:=⟨fun _ _ _ _ _=>trivial,h0,fun _=>trivial⟩;have h2:=reg_text (Q:=Q) hcl (idx 0 (l.take n)) _ a w hG (h a _ ha (fun x hx=>by cases hx));rw [idx_map,List.take_append_drop] at h2;exact h2
end
section
variable {P : Program} {Q : Exit → Act → World → Prop} {N : Nat} {E : List (Nat × Value)} {w : World} {id : Nat} {l : List Oper}
theorem c_g (n : Nat) (hn : n ≤ l.length) (hm : P.follows .mixedOrders = true) (hB : tailH l.toArray n (l.drop n).length = true)
  (h : gF P Bel l.toArray (Up w) (endG P l.toArray Q (Up w) (l.drop n)) (idx 0 (l.take n)) N E []) : cF P (.region id l.toArray true) Q N E w:=c_gR (Rel:=Bel) (C0:=Up w) n (fun _ _ h k=>Up.step h k) (Up.drew w) hn hm hB h
theorem c_gF (n : Nat) (h : gF P Bel l.toArray (Up w) (endG P l.toArray Q (Up w) (l.drop n)) (idx 0 (l.take n)) N E []) : cF P (.region id l.toArray false) Q N E w:=c_gRF (Rel:=Bel) (C0:=Up w) n (fun _ _ h k=>Up.step h k) (Up.refl w) h
end

section
variable {P : Program} {Rel : World → World → Prop} {ops : Array Oper} {C0 : World → Prop} {Q : Facts → Act → Prop} {N : Nat} {E : List (Nat × Value)} {Fa : Told} {o : Oper} {rest : List (Nat × Oper)} {i k : Nat}
theorem g_mem (V : Value → World → Prop) (hg : o.guard = none) (hd : o.dst = some k) (hk : Nat.blt k N = true) (hf : farP i Fa = true) (hm : multiG o.op = true) (hp : ∀ v,Pers Rel (V v))
  (h : ∀ a,Fr N E a → ∀ w,C0 w → Uses o Fa w → uponG P Rel w V ((execOp a.eval o).run P w)) (hn : ∀ v w,C0 w → V v w → gF P Rel ops C0 Q rest N ((k,v) :: E) ((i,V v) :: Fa)) : gF P Rel ops C0 Q ((i,o) :: rest) N E Fa:=fun a F ha hF=>by
 unfold wpG
 rw [if_pos (by simp [Region.wanted,hg])];refine ⟨V,hp,.inr hm,fun w hw he=>h a ha w hw fun j p hj hed=>?_,fun v w hw _ hV=>hn v w hw hV _ _ (by dsimp only; rw [hd]; exact ha.put hk v) (hF.more hf)⟩;obtain ⟨e,h1,h2,rfl⟩:=edgeTo_spec hed;exact hF _ (lookP_mem hj) w (he e h1 h2)
theorem g_op [hR : RelOk Rel] (hf : farP i Fa = true) (h : bF P ops (fun w=>C0 w ∧ Uses o Fa w) (fun a'=>∀ F,Tell Fa F → wpG P Rel ops C0 Q rest F a') [o] N E) : gF P Rel ops C0 Q ((i,o) :: rest) N E Fa:=fun a F ha hF=>by
 have h1:=h a ha
 unfold wpB at h1
 unfold wpG
 split
 ·rename_i hw
  rw [if_pos hw] at h1
  have huse : ∀ w,(∀ e ∈ o.after,Region.binds .any e = true → F e.on w) → Uses o Fa w:=fun w he j p hj hed=>by
   obtain ⟨e,h1,h2,rfl⟩:=edgeTo_spec hed;exact hF _ (lookP_mem hj) w (he e h1 h2)
  have hup : ∀ (V : Value → Prop) (w : World) (r : Result Next),uponB P w V r → uponG P Rel w (fun u _=>V u) r:=fun V w r hr=>by
   cases r with
   | ok n w' =>
    cases n <;> simp only [uponB] at hr <;> simp only [uponG]
    case value u=>obtain ⟨rfl,h⟩:=hr; exact ⟨hR.below _ _ (Below.refl _ _),h⟩
    case skip=>obtain ⟨rfl,h⟩:=hr; exact ⟨hR.below _ _ (Below.refl _ _),h⟩
    case enter f args =>
     obtain ⟨rfl,h⟩:=hr;exact ⟨rfl,h.mono fun e w'' ⟨v,h1,h2,h3⟩=>⟨v,h1,hR.below _ _ h3,h2⟩⟩
   | halt x w'=>simp only [uponB] at hr
  rcases h1 with ⟨v,h2,h3⟩ | ⟨hp,V,h2,h3⟩
  ·exact ⟨fun u _=>u = v,fun _ _ _ h _=>h,.inl ⟨v,fun _ _ h=>h⟩,fun w hw he=>hup (· = v) _ _ (h2 w ⟨hw,huse w he⟩),fun u w _ _ hu=>by
    rw [hu]
    exact h3 _ (hF.up hf)⟩
  ·refine ⟨fun u _=>V u,fun _ _ _ h _=>h,.inr ?_,fun w hw he=>hup V _ _ (h2 w ⟨hw,huse w he⟩),fun u w _ _ hu=>h3 u hu _ (hF.up hf)⟩
   unfold multiG
   split <;> first | rfl | (rw [hp]; rfl)
 ·rename_i hw
  rw [if_neg hw] at h1;exact h1 _ (hF.up hf)
theorem g_go (h : gF P Rel ops C0 Q rest N E Fa) : bF P ops (fun w=>C0 w ∧ Uses o Fa w) (fun a'=>∀ F,Tell Fa F → wpG P Rel ops C0 Q rest F a') [] N E:=fun a ha=>wpB_nil fun F hF=>h a F ha hF
theorem g_end {Q : Exit → Act → World → Prop} {T : List Oper} (h : ∀ w,C0 w → (∀ j p,lookP Fa j = some p → p w) → lF P ops Q T N E w) : gF P Rel ops C0 (endG P ops Q C0 T) [] N E Fa:=fun a _ ha hF w hw hFw =>
 h w hw (fun j _ hj=>hF _ (lookP_mem hj) w (hFw j)) a ha
end
end Go.Proofs.YtminmeljonbogaaDoor
/-
  NEW VARIABLES OVER FRAMES BY WHAT IS KNOWN OF THEM: 'x, y, .. := .., ..', as many as there are, in whatever order they come.
-/
namespace Go.Proofs.YtminmeljonbogaaDoor
open Go.RowKit Go.IntWalk

structure NV where
  t : Nat
  ty : TypeId
  zs : Array Value

section
variable {P : Program} {N : Nat}
def nvOne (P : Program) (N : Nat) (o : Oper) (v : NV) : Prop:=o.guard = none ∧ o.dst = some v.t ∧ Nat.blt v.t N = true ∧ o.op = .alloc v.ty ∧ (P.info? v.ty).bind (fun i=>i.zero.map (·.cells)) = some v.zs
def nvOk (P : Program) (N : Nat) : List Oper → List NV → Prop
  | _,[]=>True
  | [],_ :: _=>False
  | o :: l,v :: vs=>nvOne P N o v ∧ nvOk P N l vs
theorem nvOk_get : ∀ {l : List Oper} {vs : List NV},nvOk P N l vs → ∀ (j : Nat) (v : NV),vs[j]? = some v → ∃ o : Oper,l[j]? = some o ∧ nvOne P N o v
 | _,[],_,j,v,hv=>by simp at hv
 | [],_ :: _,h,_,_,_=>h.elim
 | o :: l,v0 :: vs,h,0,v,hv=>by
  simp only [List.getElem?_cons_zero,Option.some.injEq] at hv;subst hv;exact ⟨o,rfl,h.1⟩
 | o :: l,v0 :: vs,h,j + 1,v,hv=>by
  simp only [List.getElem?_cons_succ] at hv;obtain ⟨o',h1,h2⟩:=nvOk_get h.2 j v hv;exact ⟨o',by simpa using h1,h2⟩
end

def ptrs : List NV → Nat → (Nat → Nat) → List (Nat × Value) → List (Nat × Value)
  | [],_,_,E=>E
  | v :: vs,j,gs,E=>(v.t,.pointer (some ⟨gs j,0,none⟩)) :: ptrs vs (j + 1) gs E
def far (E : List (Nat × Value)) : List NV → Prop
  | []=>True
  | v :: vs=>look E v.t = none ∧ far E vs
theorem far_cons {E : List (Nat × Value)} {k : Nat} {x : Value} : ∀ {vs : List NV},(∀ v ∈ vs,k ≠ v.t) → far E vs → far ((k,x) :: E) vs
 | [],_,_=>trivial
 | v :: vs,h,hE=>⟨by rw [look_cons,if_neg (h v (by simp))]; exact hE.1,far_cons (fun u hu=>h u (by simp [hu])) hE.2⟩
theorem far_mem {E : List (Nat × Value)} : ∀ {vs : List NV},far E vs → ∀ (j : Nat) (v : NV),vs[j]? = some v → look E v.t = none
 | [],_,j,v,hv=>by simp at hv
 | v0 :: vs,h,0,v,hv=>by
  simp only [List.getElem?_cons_zero,Option.some.injEq] at hv;subst hv;exact h.1
 | v0 :: vs,h,j + 1,v,hv=>far_mem h.2 j v (by simpa using hv)

section
variable {N : Nat} {E : List (Nat × Value)} {a : Act}
theorem Fr.putFar (h : Fr N E a) {k : Nat} (hk : look E k = none) (v : Value) : Fr N E (a.put (some k) v):=by
 refine ⟨by simp [Act.put,h.size],h.defers,fun j u hj=>?_⟩
 have e : k ≠ j:=by
  rintro rfl
  rw [hk] at hj
  cases hj
 have h1:=h.get j u hj;simp only [Act.put,Act.eval,Array.getD_eq_getD_getElem?] at h1 ⊢;rw [Array.getElem?_setIfInBounds_ne (by omega)];exact h1
theorem Fr.more (h : Fr N E a) {k : Nat} {v : Value} (hv : a.eval (.tmp k) = v) : Fr N ((k,v) :: E) a:=by
 refine ⟨h.size,h.defers,fun j u hj=>?_⟩;rw [look_cons] at hj
 by_cases e : k = j
 ·subst e
  rw [if_pos rfl] at hj
  cases hj
  exact hv
 ·rw [if_neg e] at hj
  exact h.get j u hj
theorem Fr.tail {k : Nat} {v : Value} (h : Fr N ((k,v) :: E) a) (hk : look E k = none) : Fr N E a:=by
 refine ⟨h.size,h.defers,fun j u hj=>h.get j u ?_⟩;rw [look_cons,if_neg]
 ·exact hj
 ·rintro rfl
  rw [hk] at hj
  cases hj
theorem eval_put_same (h : Fr N E a) {k : Nat} (hk : Nat.blt k N = true) (v : Value) : (a.put (some k) v).eval (.tmp k) = v:=(h.put hk v).get k v (by rw [look_cons,if_pos rfl])
theorem eval_put_ne {k j : Nat} (hk : k ≠ j) (v : Value) : (a.put (some k) v).eval (.tmp j) = a.eval (.tmp j):=by
 simp only [Act.put,Act.eval,Array.getD_eq_getD_getElem?];rw [Array.getElem?_setIfInBounds_ne (by omega)]
theorem Fr.ptrs (h : Fr N E a) (gs : Nat → Nat) : ∀ (vs : List NV) (j0 : Nat),(∀ (j : Nat) (v : NV),vs[j]? = some v → a.eval (.tmp v.t) = .pointer (some ⟨gs (j0 + j),0,none⟩)) → Fr N (ptrs vs j0 gs E) a
 | [],_,_=>h
 | v :: vs,j0,hv=>by
  refine Fr.more (Fr.ptrs h gs vs (j0 + 1) fun j u hu=>?_) (hv 0 v rfl);have:=hv (j + 1) u (by simpa using hu)
  rwa [← Nat.add_assoc,Nat.add_right_comm] at this
end

def newC (ops : Array Oper) (n : Nat) (lend : Array Bool) : Nat → List Nat → Array Bool → Bool
  | 0,_,listed=>decide (listed = lend)
  | f + 1,rem,listed=>decide (Region.ready .any ops listed = rem.map (n + ·)) && rem.all fun j=>newC ops n lend f (rem.erase j) (listed.setIfInBounds (n + j) true)

def tsApart : List NV → Bool
  | []=>true
  | v :: vs=>(vs.all fun u=>!(v.t == u.t)) && tsApart vs
theorem tsApart_lt : ∀ {vs : List NV},tsApart vs = true → ∀ (i j : Nat) (vi vj : NV),i < j → vs[i]? = some vi → vs[j]? = some vj → vi.t ≠ vj.t
 | [],_,i,j,vi,vj,_,hi,_=>by simp at hi
 | v :: vs,h,0,j + 1,vi,vj,_,hi,hj=>by
  simp only [tsApart,Bool.and_eq_true,List.all_eq_true] at h;simp only [List.getElem?_cons_zero,Option.some.injEq,List.getElem?_cons_succ] at hi hj;subst hi;have:=h.1 vj (List.mem_of_getElem? hj)
  simpa using this
 | v :: vs,h,i + 1,j + 1,vi,vj,hij,hi,hj=>by
  simp only [tsApart,Bool.and_eq_true] at h;exact tsApart_lt h.2 i j vi vj (by omega) (by simpa using hi) (by simpa using hj)
theorem tsApart_ne {vs : List NV} (h : tsApart vs = true) {i j : Nat} {vi vj : NV} (hij : i ≠ j) (hi : vs[i]? = some vi) (hj : vs[j]? = some vj) : vi.t ≠ vj.t:=by
 rcases Nat.lt_or_gt_of_ne hij with h1 | h1
 ·exact tsApart_lt h i j vi vj h1 hi hj
 ·exact (tsApart_lt h j i vj vi h1 hj hi).symm

section
variable {P : Program} {Q : Exit → Act → World → Prop} {N : Nat} {E : List (Nat × Value)} {w : World}
def newEnd (P : Program) (ops : Array Oper) (Q : Exit → Act → World → Prop) (w : World) (vs : List NV) (T : List Oper) (N : Nat) (E : List (Nat × Value)) : Prop :=
  ∀ gs w',(∀ j,j < vs.length → w.heap.size ≤ gs j) → (∀ i j,i < vs.length → j < vs.length → i ≠ j → gs i ≠ gs j) → Up w w' → (∀ (j : Nat) (v : NV),vs[j]? = some v → Blk w' (gs j) v.ty v.zs) → lF P ops Q T N (ptrs vs 0 gs E) w'
def newPost (P : Program) (ops : Array Oper) (Q : Exit → Act → World → Prop) (w : World) (vs : List NV) (T : List Oper) (N : Nat) (a' : Act) : Prop :=
  ∃ E',Fr N E' a' ∧ far E' vs ∧ newEnd P ops Q w vs T N E'

theorem news_any {ops : Array Oper} {n m M : Nat} {lend : Array Bool} (vs : List NV) (hap : tsApart vs = true) (hnv : ∀ j v,vs[j]? = some v → ∃ o,ops[n + j]? = some o ∧ nvOne P N o v) (hE : far E vs)
  (fin : ∀ gs w0 a,Up w w0 → Fr N (ptrs vs 0 gs E) a → (∀ j,j < vs.length → w.heap.size ≤ gs j) → (∀ i j,i < vs.length → j < vs.length → i ≠ j → gs i ≠ gs j) → (∀ (j : Nat) (v : NV),vs[j]? = some v → Blk w0 (gs j) v.ty v.zs) →
   wpAnyU P .any ops (Up w) Q M m 0 w0 lend a) :
  ∀ (f : Nat) (rem : List Nat) (listed : Array Bool) (w0 : World) (a : Act) (gs : Nat → Nat),newC ops n lend f rem listed = true → rem.Nodup → f = rem.length → (∀ j ∈ rem,j < vs.length) → Up w w0 → Fr N E a →
   (∀ (j : Nat) (v : NV),j ∉ rem → vs[j]? = some v → w.heap.size ≤ gs j ∧ Blk w0 (gs j) v.ty v.zs ∧ a.eval (.tmp v.t) = .pointer (some ⟨gs j,0,none⟩)) →
   (∀ i j,i < vs.length → j < vs.length → i ∉ rem → j ∉ rem → i ≠ j → gs i ≠ gs j) → wpAnyU P .any ops (Up w) Q M m f w0 listed a
 | 0,rem,listed,w0,a,gs,hc,_,hf,_,hU,hF,hd,hg=>by
  obtain rfl : rem = []:=List.eq_nil_of_length_eq_zero hf.symm;simp only [newC,decide_eq_true_eq] at hc;subst hc;refine fin gs w0 a hU (hF.ptrs gs vs 0 fun j v hv=>?_) (fun j hj=>?_) (fun i j hi hj hij=>hg i j hi hj (by simp) (by simp) hij) (fun j v hv=>(hd j v (by simp) hv).2.1)
  ·rw [Nat.zero_add]
   exact (hd j v (by simp) hv).2.2
  ·exact (hd j vs[j] (by simp) (List.getElem?_eq_getElem hj)).1
 | f + 1,rem,listed,w0,a,gs,hc,hnd,hf,hlt,hU,hF,hd,hg=>by
  simp only [newC,Bool.and_eq_true,decide_eq_true_eq,List.all_eq_true] at hc;obtain ⟨hr,hc⟩:=hc;refine ⟨?_,fun i hi=>?_⟩
  ·rw [hr]
   cases rem with
   | nil=>cases hf
   | cons j rem=>exact List.cons_ne_nil _ _
  ·rw [hr] at hi
   obtain ⟨j,hj,rfl⟩:=List.mem_map.1 hi;have hjl:=hlt j hj;have hv : vs[j]? = some vs[j]:=List.getElem?_eq_getElem hjl;generalize vs[j] = v at hv;obtain ⟨o,ho,hgd,hds,hb,hop,hz⟩:=hnv j v hv;refine wpAnyU_new (base:=w.heap.size) ho hgd (exec_alloc hop hz) (fun _ _ h k=>h.step k) (fun _ h=>h.size) hU fun w1 hw1 hC1 hp=>?_;rw [hds];have hfar:=far_mem hE j v hv;have hal:=(Below.refl w1.heap.size w1).alloc (Nat.le_refl _) (.cells v.zs v.ty)
   have hem : ∀ i,i ∉ rem.erase j → i = j ∨ i ∉ rem:=fun i hi=>by
    by_cases e : i = j
    ·exact .inl e
    ·exact .inr fun hm=>hi ((List.mem_erase_of_ne e).2 hm)
   refine news_any vs hap hnv hE fin f (rem.erase j) _ _ _ (fun i=>if i = j then w1.heap.size else gs i) (hc j hj) (hnd.erase j) (by rw [List.length_erase_of_mem hj]; omega) (fun i hi=>hlt i (List.mem_of_mem_erase hi)) (hC1.step hal) (hF.putFar hfar _) ?_ ?_
   ·intro i u hi hu
    by_cases e : i = j
    ·subst e
     obtain rfl : u = v:=Option.some.inj (hu.symm.trans hv);rw [if_pos rfl];exact ⟨hp,Blk.new w1 _ _,eval_put_same hF hb _⟩
    ·rw [if_neg e]
     obtain ⟨h1,h2,h3⟩:=hd i u ((hem i hi).resolve_left e) hu;exact ⟨h1,(h2.later hw1).later hal,by rw [eval_put_ne (tsApart_ne hap (Ne.symm e) hv hu)]; exact h3⟩
   ·intro i k hi hk hir hkr hik
    have hlt1 : ∀ i,i < vs.length → i ∉ rem → gs i < w1.heap.size:=fun i hi hir=>((hd i vs[i] hir (List.getElem?_eq_getElem hi)).2.1.later hw1).lt
    by_cases e : i = j
    ·rw [if_pos e,if_neg (fun h=>hik (e.trans h.symm))]
     have:=hlt1 k hk ((hem k hkr).resolve_left (fun h=>hik (e.trans h.symm)))
     omega
    ·rw [if_neg e]
     by_cases e2 : k = j
     ·rw [if_pos e2]
      have:=hlt1 i hi ((hem i hir).resolve_left e)
      omega
     ·rw [if_neg e2]
      exact hg i k hi hk ((hem i hir).resolve_left e) ((hem k hkr).resolve_left e2) hik

theorem c_new {id : Nat} {l : List Oper} (n : Nat) (vs : List NV) (hn : n + vs.length ≤ l.length) (hap : tsApart vs = true) (hnv : nvOk P N (l.drop n) vs) (hm : P.follows .mixedOrders = true)
  (hB : tailB l.toArray n vs.length (l.drop (n + vs.length)).length = true)
  (hC : newC l.toArray n (marks vs.length n (marks n 0 (Array.replicate l.toArray.size false))) vs.length (List.range vs.length) (marks n 0 (Array.replicate l.toArray.size false)) = true)
  (hQ : ∀ c a d v w,Q (.panic c) (a.put d v) w → Q (.panic c) a w)
  (h : bF P l.toArray (Up w) (newPost P l.toArray Q w vs (l.drop (n + vs.length)) N) (l.take n) N E) : cF P (.region id l.toArray true) Q N E w:=fun a ha=>by
 simp only [tailB,Bool.and_eq_true,decide_eq_true_eq] at hB;obtain ⟨⟨⟨⟨hs,hh⟩,hz⟩,hsk⟩,hf⟩:=hB
 have hL : (l.take n).length = n:=by rw [List.length_take]; omega
 refine wp_region_any hm ?_
 have hT : ∀ j,j < (l.drop (n + vs.length)).length → (l.drop (n + vs.length))[j]? = l.toArray[vs.length + n + j]?:=fun j _=>by
  simp only [List.getElem?_drop,List.getElem?_toArray]
  congr 1
  omega
 have hG : wpAnyU P .any l.toArray (Up w) Q (vs.length + n) (l.drop (n + vs.length)).length (vs.length + (l.take n).length) w.drew (Array.replicate l.toArray.size false) a:=by
  refine wpAnyU_head (fun _ _ h k=>h.step k) hs hQ vs.length w.drew (Up.drew w) (l.take n) 0 _ a (Closed.none _) (by omega) (fun j hj=>?_) (by rw [hL]; exact hh) ?_
  ·rw [hL] at hj
   simp [hj]
  rw [hL];refine wpB_mono (fun a' h'=>?_) _ a (h a ha);obtain ⟨E',hF,hE,hk⟩:=h';refine news_any (E:=E') (w:=w) vs hap (fun j v hv=>?_) hE (fun gs w0 a hU hF hb hd hB=>⟨fun j hj i hi=>?_,fun w' hw'=>?_⟩) vs.length (List.range vs.length) _ w.drew a' (fun _=>0) hC List.nodup_range (by simp) (fun j hj=>by simpa using hj) (Up.drew w) hF ?_ ?_
  ·obtain ⟨o,h1,h2⟩:=nvOk_get hnv j v hv
   exact ⟨o,by simpa using h1,h2⟩
  ·have h1:=List.all_eq_true.1 hsk j hj
   exact List.all_eq_true.1 h1 i (List.mem_range.2 hi)
  ·exact wpAny_forced _ (vs.length + n) _ _ w' hT hf (hk gs w' hb hd (hU.step hw') (fun j v hv=>(hB j v hv).later hw') a hF)
  ·intro j v hj hv
   exact absurd (List.mem_range.2 (List.getElem?_eq_some_iff.1 hv).1) hj
  ·intro i j hi hj h1
   exact absurd (List.mem_range.2 hi) h1
 have h2:=wpAny_of_U (vs.length + (l.take n).length) _ a w.drew hG;rw [hL] at h2
 have e : l.toArray.size = (l.drop (n + vs.length)).length + (vs.length + n):=by rw [hz,Nat.add_assoc]
 rw [← e] at h2;exact h2

theorem l_news {ops : Array Oper} {T : List Oper} : ∀ (vs : List NV) (l : List Oper) (j0 : Nat) (gs : Nat → Nat) (w : World) (E : List (Nat × Value)),nvOk P N l vs → l.drop vs.length = T →
  (∀ (gs' : Nat → Nat) (w' : World),(∀ j,j < j0 → gs' j = gs j) → (∀ j,j < vs.length → w.heap.size ≤ gs' (j0 + j)) → (∀ i j,i < vs.length → j < vs.length → i ≠ j → gs' (j0 + i) ≠ gs' (j0 + j)) → Up w w' → (∀ (j : Nat) (v : NV),vs[j]? = some v → Blk w' (gs' (j0 + j)) v.ty v.zs) →
   ∀ a,Fr N E a → (∀ (j : Nat) (v : NV),vs[j]? = some v → a.eval (.tmp v.t) = .pointer (some ⟨gs' (j0 + j),0,none⟩)) → wpList P ops Q T a w') →
  far E vs → tsApart vs = true → ∀ a,Fr N E a → wpList P ops Q l a w
 | [],l,j0,gs,w,E,_,hT,h,_,_,a,ha=>by
  obtain rfl : l = T:=by simpa using hT
  exact h gs w (fun _ _=>rfl) (fun _ h=>absurd h (by simp)) (fun _ _ h=>absurd h (by simp)) (Up.refl w) (fun _ _ h=>by simp at h) a ha (fun _ _ h=>by simp at h)
 | _ :: _,[],_,_,_,_,hnv,_,_,_,_,_,_=>hnv.elim
 | v :: vs,o :: l,j0,gs,w,E,hnv,hT,h,hE,hap,a,ha=>by
  obtain ⟨⟨hgd,hds,hb,hop,hz⟩,hnv⟩:=hnv
  have hap' : tsApart vs = true:=by
   simp only [tsApart,Bool.and_eq_true] at hap;exact hap.2
  refine wpl_alloc hgd hop hz ?_;rw [hds];have hF:=ha.putFar hE.1 (.pointer (some ⟨w.heap.size,0,none⟩));have hal:=(Below.refl w.heap.size w).alloc (Nat.le_refl _) (.cells v.zs v.ty);refine l_news (T:=T) vs l (j0 + 1) (fun j=>if j = j0 then w.heap.size else gs j) _ ((v.t,.pointer (some ⟨w.heap.size,0,none⟩)) :: E) hnv (by simpa using hT) (fun gs' w' hg hge hd hU hB a' ha' hp=>?_) ?_ hap' _ (ha.put hb _)
  ·have hsz : (w.alloc (.cells v.zs v.ty)).heap.size = w.heap.size + 1:=World.size_alloc _ _
   rw [hsz] at hge
   have e0 : gs' j0 = w.heap.size:=by rw [hg j0 (by omega),if_pos rfl]
   refine h gs' w' (fun j hj=>by rw [hg j (by omega),if_neg (by omega)]) (fun j hj=>?_) (fun i j hi hj hij=>?_) ((Up.refl w).alloc _ |>.step hU) (fun j u hu=>?_) a' (ha'.tail hE.1) (fun j u hu=>?_)
   ·cases j with
    | zero=>rw [Nat.add_zero,e0]; exact Nat.le_refl _
    | succ j =>
     have:=hge j (by simpa using hj);rw [Nat.add_right_comm] at this;rw [← Nat.add_assoc]
     omega
   ·have hge' : ∀ j,j < vs.length → w.heap.size + 1 ≤ gs' (j0 + (j + 1)):=fun j hj=>by
     have:=hge j hj;rw [Nat.add_right_comm,Nat.add_assoc] at this;exact this
    cases i with
    | zero =>
     cases j with
     | zero=>exact absurd rfl hij
     | succ j =>
      have:=hge' j (by simpa using hj)
      have e1 : gs' (j0 + 0) = w.heap.size:=by rw [Nat.add_zero,e0]
      rw [e1]
      omega
    | succ i =>
     cases j with
     | zero =>
      have:=hge' i (by simpa using hi)
      have e1 : gs' (j0 + 0) = w.heap.size:=by rw [Nat.add_zero,e0]
      rw [e1]
      omega
     | succ j =>
      have:=hd i j (by simpa using hi) (by simpa using hj) (by omega)
      rwa [Nat.add_right_comm,Nat.add_right_comm j0 1 j] at this
   ·cases j with
    | zero =>
     simp only [List.getElem?_cons_zero,Option.some.injEq] at hu;subst hu;rw [Nat.add_zero,e0];exact (Blk.new w _ _).later hU
    | succ j =>
     have:=hB j u (by simpa using hu)
     rwa [Nat.add_right_comm] at this
   ·cases j with
    | zero =>
     simp only [List.getElem?_cons_zero,Option.some.injEq] at hu;subst hu;rw [Nat.add_zero,e0];exact ha'.get _ _ (by rw [look_cons,if_pos rfl])
    | succ j =>
     have:=hp j u (by simpa using hu)
     rwa [Nat.add_right_comm] at this
  ·refine far_cons (fun u hu=>?_) hE.2
   simp only [tsApart,Bool.and_eq_true,List.all_eq_true] at hap;have:=hap.1 u hu
   simpa using this
theorem c_newF {id : Nat} {l : List Oper} (n : Nat) (vs : List NV) (hap : tsApart vs = true) (hnv : nvOk P N (l.drop n) vs)
  (h : bF P l.toArray (Up w) (newPost P l.toArray Q w vs (l.drop (n + vs.length)) N) (l.take n) N E) : cF P (.region id l.toArray false) Q N E w:=fun a ha=>by
 refine reg_tailF n (wpB_mono (fun a' h' w' hw'=>?_) _ _ (h a ha));obtain ⟨E',hF,hE,hk⟩:=h';refine l_news vs (l.drop n) 0 (fun _=>0) w' E' hnv (by rw [List.drop_drop]) (fun gs w2 _ hge hd hU hB a2 ha2 hp=>?_) hE hap a' hF;simp only [Nat.zero_add] at hge hd hB hp;exact hk gs w2 (fun j hj=>Nat.le_trans hw'.size (hge j hj)) hd (hw'.step hU) hB a2 (ha2.ptrs gs vs 0 (by simpa using hp))

/-! ### What they hold at first -/
def stOk : List NV → List Operand → List Oper → List Oper → Prop
  | [],[],T,T'=>T = T'
  | v :: vs,x :: xs,o :: T,T'=>(o.guard = none ∧ o.dst = none ∧ o.op = .store v.ty (.tmp v.t) x) ∧ stOk vs xs T T'
  | _,_,_,_=>False
def valOk (P : Program) (E : List (Nat × Value)) : List NV → List Operand → List (Array Value) → Prop
  | [],[],[]=>True
  | v :: vs,x :: xs,c :: cs=>(ev E x = some (.agg c) ∧ v.zs.size = c.size ∧ (P.info? v.ty).map (·.size) = some c.size ∧ ∀ u ∈ c.toList,u.oneCell' = true) ∧ valOk P E vs xs cs
  | _,_,_=>False
def blks (w : World) : List NV → List (Array Value) → Nat → (Nat → Nat) → Prop
  | v :: vs,c :: cs,j,gs=>Blk w (gs j) v.ty c ∧ blks w vs cs (j + 1) gs
  | _,_,_,_=>True
theorem l_stores {ops : Array Oper} {T' : List Oper} {W : World} {gs : Nat → Nat} : ∀ (vs : List NV) (xs : List Operand) (cs : List (Array Value)) (T : List Oper) (j0 : Nat) (w : World),stOk vs xs T T' → valOk P E vs xs cs →
  (∀ (j : Nat) (v : NV),vs[j]? = some v → look E v.t = some (.pointer (some ⟨gs (j0 + j),0,none⟩))) → (∀ j,j < vs.length → W.heap.size ≤ gs (j0 + j)) → (∀ i j,i < vs.length → j < vs.length → i ≠ j → gs (j0 + i) ≠ gs (j0 + j)) → Up W w → (∀ (j : Nat) (v : NV),vs[j]? = some v → Blk w (gs (j0 + j)) v.ty v.zs) →
  (∀ w',Up W w' → (∀ g t c,(∀ j,j < vs.length → gs (j0 + j) ≠ g) → Blk w g t c → Blk w' g t c) → blks w' vs cs j0 gs → lF P ops Q T' N E w') → lF P ops Q T N E w
 | [],xs,cs,T,j0,w,hst,hv,_,_,_,hU,_,h=>by
  cases xs with
  | cons=>exact hst.elim
  | nil =>
   obtain rfl : T = T':=hst;exact h w hU (fun _ _ _ _ h=>h) (by unfold blks; trivial)
 | v :: vs,xs,cs,T,j0,w,hst,hv,hl,hge,hd,hU,hB,h=>by
  cases xs with
  | nil=>exact hst.elim
  | cons x xs =>
   cases T with
   | nil=>exact hst.elim
   | cons o T =>
    cases cs with
    | nil=>exact hv.elim
    | cons c cs =>
     obtain ⟨⟨hgd,hds,hop⟩,hst⟩:=hst;obtain ⟨⟨hx,hz,hi,ho⟩,hv⟩:=hv
     intro a ha
     have h0:=hB 0 v rfl
     have hd0 : ∀ j,j < vs.length → gs (j0 + 1 + j) ≠ gs j0:=fun j hj=>by
      have:=hd (j + 1) 0 (by simpa using hj) (by simp) (by omega)
      rwa [← Nat.add_assoc,Nat.add_right_comm,Nat.add_zero] at this
     rw [Nat.add_zero] at h0;refine wpList_store_row hgd v.ty (.tmp v.t) x hop (gs j0) (ha.get _ _ (hl 0 v rfl)) c (ha.eval hx) v.ty v.zs h0 hi hz ho ?_;rw [hds];refine l_stores (gs:=gs) (W:=W) vs xs cs T (j0 + 1) (w.setRow (gs j0) c) hst hv (fun j u hu=>?_) (fun j hj=>?_) (fun i j hi hj hij=>?_) (up_row hU (hge 0 (by simp)) _) (fun j u hu=>?_) (fun w' hU' hK hb=>?_) a ha
     ·have:=hl (j + 1) u (by simpa using hu)
      rwa [← Nat.add_assoc,Nat.add_right_comm] at this
     ·have:=hge (j + 1) (by simpa using hj)
      rwa [← Nat.add_assoc,Nat.add_right_comm] at this
     ·have:=hd (i + 1) (j + 1) (by simpa using hi) (by simpa using hj) (by omega)
      rwa [← Nat.add_assoc,← Nat.add_assoc,Nat.add_right_comm,Nat.add_right_comm j0 j 1] at this
     ·have:=hB (j + 1) u (by simpa using hu)
      rw [← Nat.add_assoc,Nat.add_right_comm] at this;exact this.rowFar (hd0 j (List.getElem?_eq_some_iff.1 hu).1) _
     ·refine h w' hU' (fun g t c' hg hb'=>hK g t c' (fun j hj=>?_) (hb'.rowFar (Ne.symm (by have:=hg 0 (by simp); rwa [Nat.add_zero] at this)) _)) ⟨hK _ _ _ hd0 (h0.row _),hb⟩
      have:=hg (j + 1) (by simpa using hj)
      rwa [← Nat.add_assoc,Nat.add_right_comm] at this
theorem look_ptrs {gs : Nat → Nat} {E : List (Nat × Value)} {k : Nat} : ∀ (vs : List NV) (j0 : Nat),(∀ v ∈ vs,v.t ≠ k) → look (ptrs vs j0 gs E) k = look E k
 | [],_,_=>rfl
 | v :: vs,j0,h=>by
  rw [ptrs,look_cons,if_neg (h v (by simp))];exact look_ptrs vs (j0 + 1) fun u hu=>h u (by simp [hu])
theorem look_ptr {gs : Nat → Nat} {E : List (Nat × Value)} : ∀ (vs : List NV) (j0 : Nat),tsApart vs = true → ∀ (j : Nat) (v : NV),vs[j]? = some v → look (ptrs vs j0 gs E) v.t = some (.pointer (some ⟨gs (j0 + j),0,none⟩))
 | [],_,_,_,_,hv=>by simp at hv
 | v0 :: vs,j0,hap,0,v,hv=>by
  simp only [List.getElem?_cons_zero,Option.some.injEq] at hv;subst hv;rw [ptrs,look_cons,if_pos rfl,Nat.add_zero]
 | v0 :: vs,j0,hap,j + 1,v,hv=>by
  have hne : v0.t ≠ v.t:=tsApart_ne hap (i:=0) (j:=j + 1) (by omega) rfl hv;simp only [tsApart,Bool.and_eq_true] at hap;rw [ptrs,look_cons,if_neg hne,look_ptr vs (j0 + 1) hap.2 j v (by simpa using hv),← Nat.add_assoc,Nat.add_right_comm]
theorem ev_far {gs : Nat → Nat} {E : List (Nat × Value)} {vs : List NV} (hE : far E vs) {x : Operand} {v : Value} (hx : ev E x = some v) : ev (ptrs vs 0 gs E) x = some v:=by
 cases x with
 | tmp t =>
  show look (ptrs vs 0 gs E) t = some v
  rw [look_ptrs vs 0 fun u hu=>?_]
  ·exact hx
  ·rintro rfl
   obtain ⟨j,hj⟩:=List.getElem?_of_mem hu;have h1:=far_mem hE j u hj;have h2 : look E u.t = some v:=hx;rw [h1] at h2
   cases h2
 | const u=>exact hx
 | global g=>exact hx
 | func f=>exact hx
theorem valOk_far {gs : Nat → Nat} {E : List (Nat × Value)} {ws : List NV} (hE : far E ws) : ∀ (vs : List NV) (xs : List Operand) (cs : List (Array Value)),valOk P E vs xs cs → valOk P (ptrs ws 0 gs E) vs xs cs
 | [],[],[],_=>trivial
 | _ :: vs,_ :: xs,_ :: cs,h=>⟨⟨ev_far hE h.1.1,h.1.2⟩,valOk_far hE vs xs cs h.2⟩
 | [],[],_ :: _,h=>h.elim
 | [],_ :: _,_,h=>h.elim
 | _ :: _,[],_,h=>h.elim
 | _ :: _,_ :: _,[],h=>h.elim
theorem f_new {ops : Array Oper} {vs : List NV} {T T' : List Oper} (xs : List Operand) (cs : List (Array Value)) (hE : far E vs) (hap : tsApart vs = true) (hst : stOk vs xs T T') (hv : valOk P E vs xs cs)
  (h : ∀ gs w',(∀ j,j < vs.length → w.heap.size ≤ gs j) → (∀ i j,i < vs.length → j < vs.length → i ≠ j → gs i ≠ gs j) → Up w w' → blks w' vs cs 0 gs → lF P ops Q T' N (ptrs vs 0 gs E) w') :
  bF P ops (Up w) (newPost P ops Q w vs T N) [] N E:=fun a ha=>wpB_nil ⟨E,ha,hE,fun gs w' hge hd hU hB=>by
 refine l_stores (W:=w) (gs:=gs) vs xs cs T 0 w' hst (valOk_far hE _ _ _ hv) (fun j v hv=>look_ptr vs 0 hap j v hv) (by simpa using hge) (by simpa using hd) hU (by simpa using hB) fun w2 hU2 _ hb=>?_
 exact h gs w2 hge hd hU2 hb⟩
end
end Go.Proofs.YtminmeljonbogaaDoor
/-
  STEPS OVER FRAMES BY WHAT IS KNOWN OF THEM: fields, rows, calls that hand back one of a set, structs put together, new cells.
-/
namespace Go.Proofs.YtminmeljonbogaaDoor
open Go.RowKit Go.IntWalk

section
variable {N : Nat} {E : List (Nat × Value)} {a : Act}
theorem Fr.evals (ha : Fr N E a) : ∀ (l : List Operand) (m : List Value),l.map (ev E) = m.map some → l.map a.eval = m
 | [],[],_=>rfl
 | [],_ :: _,h=>by cases h
 | _ :: _,[],h=>by cases h
 | y :: l,u :: m,h=>by
  simp only [List.map_cons,List.cons.injEq] at h ⊢;exact ⟨ha.eval h.1,Fr.evals ha l m h.2⟩
theorem Fr.parts (ha : Fr N E a) : ∀ (l : List (Nat × Operand)) (m : List (Nat × Value)),l.map (fun p=>(p.1,ev E p.2)) = m.map (fun p=>(p.1,some p.2)) → (l.map fun (i,x)=>(i,a.eval x)) = m
 | [],[],_=>rfl
 | [],_ :: _,h=>by cases h
 | _ :: _,[],h=>by cases h
 | y :: l,u :: m,h=>by
  simp only [List.map_cons,List.cons.injEq,Prod.mk.injEq] at h ⊢;refine ⟨?_,Fr.parts ha l m h.2⟩;rw [ha.eval h.1.2,h.1.1]
end

section
variable {P : Program} {ops : Array Oper} {C0 : World → Prop} {Q : Act → Prop} {N : Nat} {E : List (Nat × Value)} {o : Oper} {rest : List Oper} {k : Nat}
theorem f_fld {s : TypeId} {x : Operand} {f : Nat} (b off off' : Nat) (hg : o.guard = none) (hd : o.dst = some k) (hk : Nat.blt k N = true) (ho : o.op = .fieldAddr s x f) (hx : ev E x = some (.pointer (some ⟨b,off,none⟩)))
  (hr : ∀ w,(Instr.fieldAt s (.pointer (some ⟨b,off,none⟩)) f).run P w = .ok (.pointer (some ⟨b,off',none⟩)) w) (hn : bF P ops C0 Q rest N ((k,.pointer (some ⟨b,off',none⟩)) :: E)) : bF P ops C0 Q (o :: rest) N E :=
 f_val _ hg hd hk (fun a ha w _=>by
  have h1:=ha.eval hx
  unfold execOp
  simp only [ho,h1,Sem.run_bind,hr,Result.andThen_ok,Sem.run_pure]) hn
theorem f_ix {t : TypeId} {x y : Operand} (p : Value) (i : Int) (q : Addr) (hg : o.guard = none) (hd : o.dst = some k) (hk : Nat.blt k N = true) (ho : o.op = .indexAddr t x y) (hx : ev E x = some p) (hy : ev E y = some (.int .i64 i))
  (hr : ∀ w,(Instr.indexAt t p (.int .i64 i)).run P w = .ok (.pointer (some q)) w) (hn : bF P ops C0 Q rest N ((k,.pointer (some q)) :: E)) : bF P ops C0 Q (o :: rest) N E :=
 f_val _ hg hd hk (fun a ha w _=>by
  have h1:=ha.eval hx;have h2:=ha.eval hy
  unfold execOp
  simp only [ho,h1,h2,Sem.run_bind,hr,Result.andThen_ok,Sem.run_pure]) hn
theorem f_row {ty : TypeId} {x : Operand} (b off : Nat) (cs : List Value) (d : TypeDesc) (hg : o.guard = none) (hd : o.dst = some k) (hk : Nat.blt k N = true) (ho : o.op = .load ty x) (hx : ev E x = some (.pointer (some ⟨b,off,none⟩)))
  (hc : ∀ w,C0 w → w.rangeAt b off cs) (hu : P.underlying ty = some d) (hr : d.isRow = true) (hi : (P.info? ty).map (·.size) = some cs.length)
  (hn : bF P ops C0 Q rest N ((k,.agg cs.toArray) :: E)) : bF P ops C0 Q (o :: rest) N E :=
 f_val _ hg hd hk (fun a ha w hw=>by
  have h1:=ha.eval hx
  unfold execOp
  simp only [ho,h1,Instr.loadAt,Instr.sureAddr,Sem.run_bind,Sem.run_pure,Result.andThen_ok,run_loadVar_mid w b off ty cs d (hc w hw) hu hr hi]) hn
theorem f_build {t : TypeId} {parts : Array (Nat × Operand)} (vs : List (Nat × Value)) (cells : Array Value) (hg : o.guard = none) (hd : o.dst = some k) (hk : Nat.blt k N = true) (ho : o.op = .build t parts)
  (hv : parts.toList.map (fun p=>(p.1,ev E p.2)) = vs.map (fun p=>(p.1,some p.2))) (hb : P.built t vs = some cells) (hn : bF P ops C0 Q rest N ((k,.agg cells) :: E)) : bF P ops C0 Q (o :: rest) N E :=
 f_val _ hg hd hk (fun a ha w _=>by
  have h1:=ha.parts _ _ hv
  unfold execOp
  simp only [ho,Sem.run_bind,run_build w t _ cells (by rw [Array.toList_map,h1]; exact hb),Result.andThen_ok,Sem.run_pure]) hn
theorem f_extract {x : Operand} {i : Nat} {vs : Array Value} (v : Value) (hg : o.guard = none) (hd : o.dst = some k) (hk : Nat.blt k N = true) (ho : o.op = .extract x i) (hx : ev E x = some (.tuple vs)) (hv : vs[i]? = some v)
  (hn : bF P ops C0 Q rest N ((k,v) :: E)) : bF P ops C0 Q (o :: rest) N E :=
 f_val _ hg hd hk (fun a ha w _=>by
  have h1:=ha.eval hx
  unfold execOp
  simp only [ho,h1]
  go_simp) hn
theorem f_eq {t t' : TypeId} {x y : Operand} {q : Bool} (xs ys : Array Value) (hg : o.guard = none) (hd : o.dst = some k) (hk : Nat.blt k N = true) (ho : o.op = .binOp .eql t x y t') (hx : ev E x = some (.agg xs)) (hy : ev E y = some (.agg ys))
  (ht : P.eqGuardType P.depth t = false) (he : ∀ w,(Op.equalIn 10000 t (.agg xs) (.agg ys)).run P w = .ok q w) (hn : bF P ops C0 Q rest N ((k,.bool q) :: E)) : bF P ops C0 Q (o :: rest) N E :=
 f_val _ hg hd hk (fun a ha w _=>by
  have h1:=ha.eval hx;have h2:=ha.eval hy
  unfold execOp
  simp only [ho,h1,h2,Sem.run_bind,run_eqGuard_agg (hm:=ht),Result.andThen_ok,binOp,Op.equal,Op.maxDepth,he,Sem.run_pure]) hn
end

section
variable {ops : Array Oper} {C0 : World → Prop} {Q : Act → Prop} {N : Nat} {E : List (Nat × Value)} {o : Oper} {rest : List Oper} {k : Nat}
theorem f_callV {f : FuncId} {xs : Array Operand} {ats : Array TypeId} (args : Array Value) (V : Value → Prop) (hg : o.guard = none) (hd : o.dst = some k) (hk : Nat.blt k N = true)
  (hf : Own f) (hc : ∀ w,C0 w → Calls Tryd.prog f args w (fun e w'=>∃ v,e = .returned v ∧ V v ∧ Below w.heap.size w w'))
  (ho : o.op = .call { callee:=.value (.func f),args:=xs,argTypes:=ats }) (hx : xs.toList.map (ev E) = args.toList.map some) (hn : ∀ v,V v → bF Tryd.prog ops C0 Q rest N ((k,v) :: E)) : bF Tryd.prog ops C0 Q (o :: rest) N E:=fun a ha=>by
 refine b_callV (f:=f) (args:=args) V (by simp [Region.wanted,hg]) hf hc ho (ha.evals _ _ hx) fun v hv=>?_;rw [hd];exact hn v hv _ (ha.put hk v)
end

section
variable {P : Program} {ops : Array Oper} {Q : Exit → Act → World → Prop} {N : Nat} {E : List (Nat × Value)} {w : World} {o : Oper} {rest : List Oper} {k : Nat}
theorem l_box {ty : TypeId} {x : Operand} (cs : Array Value) (hg : o.guard = none) (hd : o.dst = some k) (hk : Nat.blt k N = true) (ho : o.op = .box ty x) (hx : ev E x = some (.agg cs))
  (hn : lF P ops Q rest N ((k,.pointer (some ⟨w.heap.size,0,none⟩)) :: E) (w.alloc (.cells cs ty))) : lF P ops Q (o :: rest) N E w :=
 l_val _ hg hd hk (fun a ha=>by
  have h1:=ha.eval hx
  unfold execOp
  simp only [ho,h1,Sem.run_bind,run_box_agg,Result.andThen_ok,Sem.run_pure]) hn
theorem l_alloc {ty : TypeId} {zs : Array Value} (hg : o.guard = none) (hd : o.dst = some k) (hk : Nat.blt k N = true) (ho : o.op = .alloc ty) (hz : (P.info? ty).bind (fun i=>i.zero.map (·.cells)) = some zs)
  (hn : lF P ops Q rest N ((k,.pointer (some ⟨w.heap.size,0,none⟩)) :: E) (w.alloc (.cells zs ty))) : lF P ops Q (o :: rest) N E w :=
 l_val _ hg hd hk (fun _ _=>exec_alloc ho hz _ w) hn
theorem l_boxA {ty : TypeId} {x : Operand} (cs : Array Value) (hg : o.guard = none) (hd : o.dst = some k) (hk : Nat.blt k N = true) (ho : o.op = .box ty x) (hx : ev E x = some (.agg cs))
  (hn : ∀ W g,Up w W → g = w.heap.size → Blk W g ty cs → lF P ops Q rest N ((k,.pointer (some ⟨g,0,none⟩)) :: E) W) : lF P ops Q (o :: rest) N E w :=
 l_box cs hg hd hk ho hx (hn _ _ ((Up.refl w).alloc _) rfl (Blk.new w _ _))
theorem l_allocA {ty : TypeId} (zs : Array Value) (hg : o.guard = none) (hd : o.dst = some k) (hk : Nat.blt k N = true) (ho : o.op = .alloc ty) (hz : (P.info? ty).bind (fun i=>i.zero.map (·.cells)) = some zs)
  (hn : ∀ W g,Up w W → g = w.heap.size → Blk W g ty zs → lF P ops Q rest N ((k,.pointer (some ⟨g,0,none⟩)) :: E) W) : lF P ops Q (o :: rest) N E w :=
 l_alloc hg hd hk ho hz (hn _ _ ((Up.refl w).alloc _) rfl (Blk.new w _ _))
theorem l_set {ty t : TypeId} {p x : Operand} (g : Nat) (old cells : Array Value) (hg : o.guard = none) (hd : o.dst = none) (ho : o.op = .store ty p x) (hp : ev E p = some (.pointer (some ⟨g,0,none⟩))) (hx : ev E x = some (.agg cells))
  (hb : Blk w g t old) (hi : (P.info? ty).map (·.size) = some cells.size) (hz : old.size = cells.size) (h1 : ∀ v ∈ cells.toList,v.oneCell' = true) (hn : lF P ops Q rest N E (w.setRow g cells)) : lF P ops Q (o :: rest) N E w:=fun a ha=>by
 refine wpList_store_row hg ty p x ho g (ha.eval hp) cells (ha.eval hx) t old hb hi hz h1 ?_;rw [hd];exact hn a ha
theorem l_mid {ty : TypeId} {p x : Operand} (g off : Nat) (cells : Array Value) (hg : o.guard = none) (hd : o.dst = none) (ho : o.op = .store ty p x) (hp : ev E p = some (.pointer (some ⟨g,off,none⟩))) (hx : ev E x = some (.agg cells))
  (ht : w.there g off cells.size) (hi : (P.info? ty).map (·.size) = some cells.size) (h1 : cells.all (·.oneCell') = true) (hn : lF P ops Q rest N E (w.setCells g off cells.toList)) : lF P ops Q (o :: rest) N E w:=fun a ha=>by
 refine wpList_store_mid hg ty p x ho g off cells (ha.eval hp) (ha.eval hx) ht hi h1 ?_;rw [hd];exact hn a ha
end
theorem f_eqlI {ops : Array Oper} {C0 : World → Prop} {Q : Act → Prop} {N : Nat} {E : List (Nat × Value)} {o : Oper} {rest : List Oper} {k : Nat} {x y : Operand} {t : TypeId} (m n : Int) (q : Bool) (hg : o.guard = none) (hd : o.dst = some k) (hk : Nat.blt k N = true) (ho : o.op = .binOp .eql 3 x y t) (hx : ev E x = some (.int .i64 m)) (hy : ev E y = some (.int .i64 n))
  (hr : decide (m = n) = q) (hn : bF Tryd.prog ops C0 Q rest N ((k,.bool q) :: E)) : bF Tryd.prog ops C0 Q (o :: rest) N E :=
 f_val _ hg hd hk (fun a ha w _=>by
  have h1:=ha.eval hx;have h2:=ha.eval hy;subst hr
  unfold execOp
  simp only [ho,h1,h2]
  by_cases e : m = n <;> go_simp) hn
theorem addI (a b : Nat) (h : a + b < 9223372036854775808) : IntKind.i64.wrap ((a : Int) + (b : Int)) = ((a + b : Nat) : Int):=by rw [i64_left,wrap64_in _ (by omega)]; omega
theorem subI (a b : Nat) (h : b ≤ a) (h2 : a < 9223372036854775808) : IntKind.i64.wrap ((a : Int) - (b : Int)) = ((a - b : Nat) : Int):=by rw [i64_left,wrap64_in _ (by omega)]; omega
structure OnlyG (w w' : World) (g : Nat) : Prop where
  size : w'.heap.size = w.heap.size
  blk : ∀ g' t c,g' ≠ g → Blk w g' t c → Blk w' g' t c
  cell : ∀ p : Addr,p.block ≠ g → w'.cell? p = w.cell? p
  up : ∀ w0,w0.heap.size ≤ g → Up w0 w → Up w0 w'
theorem OnlyG.set {w w' : World} {g : Nat} (h : OnlyG w w' g) (k : Nat) (u : Value) : OnlyG w (w'.setCell ⟨g,k,none⟩ u) g where
 size:=by rw [← h.size]; simp [World.setCell]
 blk:=fun g' t c hg hb=>(h.blk g' t c hg hb).far hg u
 cell:=fun p hp=>by rw [World.cell?_setCell_other _ _ _ _ (fun e=>hp (by rw [← e])),h.cell p hp]
 up:=fun w0 hg hU=>(h.up w0 hg hU).setCell hg u
theorem OnlyG.refl (w : World) (g : Nat) : OnlyG w w g:=⟨rfl,fun _ _ _ _ h=>h,fun _ _=>rfl,fun _ _ h=>h⟩
theorem setCells_blk {w0 : World} {g t : Nat} : ∀ (U A V Z : List Value) (w : World),Blk w g t (A ++ (V ++ Z)).toArray → V.length = U.length → OnlyG w0 w g → Blk (w.setCells g A.length U) g t (A ++ (U ++ Z)).toArray ∧ OnlyG w0 (w.setCells g A.length U) g
 | [],A,V,Z,w,hb,hl,ho=>by
  obtain rfl : V = []:=List.eq_nil_of_length_eq_zero hl;exact ⟨hb,ho⟩
 | u :: U,A,[],Z,w,hb,hl,ho=>by simp at hl
 | u :: U,A,v :: V,Z,w,hb,hl,ho=>by
  have h1:=hb.set A.length u
  have e : (A ++ (v :: V ++ Z)).toArray.setIfInBounds A.length u = (A ++ [u] ++ (V ++ Z)).toArray:=by simp
  rw [e] at h1;have h2:=setCells_blk U (A ++ [u]) V Z _ h1 (by simpa using hl) (ho.set A.length u);simp only [List.length_append,List.length_cons,List.length_nil,Nat.zero_add,List.append_assoc,List.cons_append,List.nil_append] at h2
  simpa [World.setCells] using h2
theorem there_mid {w : World} {g t : Nat} {A V Z : List Value} (h : Blk w g t (A ++ (V ++ Z)).toArray) : w.there g A.length V.length:=fun j hj=>by
 refine ⟨?_,h.free _⟩;rw [h.cell];simp only [List.getElem?_toArray];rw [List.getElem?_append_right (by omega),Nat.add_sub_cancel_left,List.getElem?_append_left hj,List.getElem?_eq_getElem hj]
 rfl
section
variable {P : Program} {ops : Array Oper} {Q : Exit → Act → World → Prop} {N : Nat} {E : List (Nat × Value)} {w : World} {o : Oper} {rest : List Oper} {k : Nat}
theorem l_midA {ty t : TypeId} {p x : Operand} (g off : Nat) (A V Z U : List Value) (hg : o.guard = none) (hd : o.dst = none) (ho : o.op = .store ty p x) (hp : ev E p = some (.pointer (some ⟨g,off,none⟩))) (hx : ev E x = some (.agg U.toArray))
  (hb : Blk w g t (A ++ (V ++ Z)).toArray) (hoff : off = A.length) (hl : V.length = U.length) (hi : (P.info? ty).map (·.size) = some U.length) (h1 : ∀ v ∈ U,v.oneCell' = true)
  (hn : ∀ W',OnlyG w W' g → Blk W' g t (A ++ (U ++ Z)).toArray → lF P ops Q rest N E W') : lF P ops Q (o :: rest) N E w:=by
 subst hoff;have h2:=setCells_blk U A V Z w hb hl (OnlyG.refl w g);exact l_mid g A.length U.toArray hg hd ho hp hx (by have:=there_mid hb; rw [hl] at this; simpa using this) (by simpa using hi) (all_oneCell_toArray h1) (by simpa using hn _ h2.2 h2.1)
end
theorem k_then_ret {K : Act → World → Prop} {Q : Exit → Act → World → Prop} {N : Nat} {E : List (Nat × Value)} {w : World} (h : kF (Q .ret) N E w) : kF (Exit.then K Q .ret) N E w:=h
theorem f_set {P : Program} {ops : Array Oper} {Q : Exit → Act → World → Prop} {N : Nat} {E : List (Nat × Value)} {w : World} {o : Oper} {rest : List Oper} {ty t : TypeId} {p x : Operand} (g : Nat) (old cells : Array Value) (hg : o.guard = none) (hd : o.dst = none) (ho : o.op = .store ty p x) (hp : ev E p = some (.pointer (some ⟨g,0,none⟩))) (hx : ev E x = some (.agg cells))
  (hb : Blk w g t old) (hi : (P.info? ty).map (·.size) = some cells.size) (hz : old.size = cells.size) (h1 : ∀ v ∈ cells.toList,v.oneCell' = true) (hn : ∀ w',Up w w' → Blk (w'.setRow g cells) g t cells → lF P ops Q rest N E (w'.setRow g cells)) :
  bF P ops (Up w) (fun a'=>∀ w',Up w w' → wpList P ops Q (o :: rest) a' w') [] N E :=
 f_tail fun w' hw'=>l_set g old cells hg hd ho hp hx (hw'.blk hb) hi hz h1 (hn w' hw' ((hw'.blk hb).row _))
end Go.Proofs.YtminmeljonbogaaDoor
/-
  REGIONS: 'copy(a[..], b[..])', where the order of the two slices is drawn.
-/
namespace Go.Proofs.YtminmeljonbogaaDoor
open Go.RowKit Go.IntWalk

def cop (z : List UInt8) (off : Nat) (l : List UInt8) : List UInt8:=z.take off ++ (l ++ z.drop (off + l.length))
theorem cop_len {z l : List UInt8} {off : Nat} (h : off + l.length ≤ z.length) : (cop z off l).length = z.length:=by
 simp [cop]
 omega

def copyEnd (Q : Exit → Act → World → Prop) (w : World) (d s : Operand) (dst : Option Tmp) (a' : Act) : Prop :=
  ∃ (g off n c g2 c2 : Nat) (t t2 : TypeId) (z l : List UInt8),a'.eval d = .slice (some ⟨g,off,none⟩) n c ∧ a'.eval s = .slice (some ⟨g2,0,none⟩) l.length c2 ∧ Blk w g t (By z).toArray ∧ Blk w g2 t2 (By l).toArray ∧ l.length ≤ n ∧ off + l.length ≤ z.length ∧
    ∀ w',Up w w' → Q .normal (a'.put dst (goInt l.length)) (w'.setRow g (By (cop z off l)).toArray)
theorem size_u8 : (Tryd.prog.info? 5).map (·.size) = some 1:=by kernel_rfl
theorem reg_copy {Q : Exit → Act → World → Prop} {id : Nat} {a : Act} {w : World} {l : List Oper} {o : Oper} (n : Nat) (d s : Operand) (hos : l.drop n = [o]) (ho : o.op = .call { callee:=.builtin .copy,args:=#[d,s],argTypes:=#[23,23] }) (hg : o.guard = none)
  (hB : tailB l.toArray n 0 1 = true) (hQ : ∀ c a d v w,Q (.panic c) (a.put d v) w → Q (.panic c) a w) (hm : Tryd.prog.follows .mixedOrders = true)
  (h : wpB Tryd.prog l.toArray (Up w) (copyEnd Q w d s o.dst) (l.take n) a) : (Code.region id l.toArray true).wp Tryd.prog Q a w:=by
 have hn : n ≤ l.length:=by
  have h1:=congrArg List.length hos;simp only [List.length_drop,List.length_cons,List.length_nil] at h1
  omega
 refine region_B n (Up w) hn hm (by rw [hos]; exact hB) (fun _ _ h k=>h.step k) (Up.drew w) hQ ?_;rw [hos];refine wpB_mono (fun a' h' w' hw'=>?_) _ _ h;obtain ⟨g,off,n,c,g2,c2,t,t2,z,l,hd,hs,hz,hl,h1,h2,hk⟩:=h';have hb:=hw'.blk hz;have hb2:=hw'.blk hl;refine wpList_copy_own hg d s 23 23 ho 5 Tryd.underlying23 size_u8 g off n c ⟨g2,0,none⟩ l.length c2 hd hs (By z).toArray t hb (By l) (by rw [By_len]; exact (Nat.min_eq_left h1).symm) ?_ (by rw [By_len,List.size_toArray,By_len]; exact h2) (By_one l) ?_
 ·intro j v hv
  have hj : (Addr.mk g2 0 none).add j = ⟨g2,j,none⟩:=by
   unfold Addr.add
   by_cases h0 : j = 0
   ·subst h0; rfl
   ·simp [h0]
  rw [hj,hb2.cell j]
  simpa using hv
 ·have e : (By z).toArray.toList.take off ++ (By l ++ (By z).toArray.toList.drop (off + (By l).length)) = By (cop z off l):=by
   simp [cop,By]
  rw [e,By_len];exact hk w' hw'

theorem wpl_copy {ops : Array Oper} {rest : List Oper} {o : Oper} {a : Act} {w : World} {Q : Exit → Act → World → Prop} (d s : Operand) (hgd : o.guard = none) (ho : o.op = .call { callee:=.builtin .copy,args:=#[d,s],argTypes:=#[23,23] })
  (g off n c : Nat) (hd : a.eval d = .slice (some ⟨g,off,none⟩) n c) (P : Option Addr) (l : List UInt8) (c2 : Nat) (hs : a.eval s = .slice P l.length c2) (z : List UInt8) (t : Nat) (hz : Blk w g t (By z).toArray) (lo hi : Nat) (hl : BV w lo hi P l) (hn : off + n = z.length)
  (z' : List UInt8) (hz' : Go.RowKit.Hid (cop z off (l.take n) = z')) (m : Nat) (hm : Go.RowKit.Hid (min l.length n = m)) (h : wpList Tryd.prog ops Q rest (a.put o.dst (.int .i64 (m : Int))) (w.setRow g (By z').toArray)) : wpList Tryd.prog ops Q (o :: rest) a w:=by
 have e0:=hz'.out;have e1:=hm.out;subst e0;subst e1
 by_cases h0 : min l.length n = 0
 ·have ht : l.take n = []:=by
   rw [List.take_eq_nil_iff]
   rcases Nat.min_eq_zero_iff.1 h0 with h1 | h1
   ·exact .inr (List.eq_nil_of_length_eq_zero h1)
   ·exact .inl h1
  have e : cop z off (l.take n) = z:=by
   rw [ht]
   simp [cop]
  have e2 : w.setRow g (By z).toArray = w:=setRow_self w g _ t (0,0) hz;rw [e,e2,h0] at h;exact wpList_copy_nothing hgd d s 23 23 ho 5 Tryd.underlying23 size_u8 _ _ n c l.length c2 hd hs h0 h
 ·have hlp : 0 < l.length:=by omega
  obtain ⟨ad,rfl,_,_,hc⟩:=hl hlp
  have hlt : (By (l.take n)).length = Nat.min l.length n:=by
   rw [By_len,List.length_take];exact Nat.min_comm _ _
  refine wpList_copy_own hgd d s 23 23 ho 5 Tryd.underlying23 size_u8 g off n c ad l.length c2 hd hs (By z).toArray t hz (By (l.take n)) hlt ?_ (by rw [hlt,List.size_toArray,By_len,← hn]; exact Nat.add_le_add_left (Nat.min_le_right _ _) _) (By_one _) ?_
  ·intro j v hv
   obtain ⟨x,hx,rfl⟩:=By_at hv;refine hc j x ?_;rw [List.getElem?_take] at hx
   split at hx
   ·exact hx
   ·cases hx
  ·have e : (By z).toArray.toList.take off ++ (By (l.take n) ++ (By z).toArray.toList.drop (off + (By (l.take n)).length)) = By (cop z off (l.take n)):=by
    simp [cop,By]
   rw [e,hlt];exact h
end Go.Proofs.YtminmeljonbogaaDoor
/-
  STEPS THAT MAKE MEMORY, over frames by what is known of them: slices of slices, calls whose answers lie in new memory, new variables; copies into a variable from any bytes.
-/
namespace Go.Proofs.YtminmeljonbogaaDoor
open Go.RowKit Go.IntWalk

/-! ### Bytes that are read -/
def SB (w : World) (v : Value) (l : List UInt8) : Prop:=∃ A c,v = .slice A l.length c ∧ SL w 0 w.heap.size A l c
def PT (w : World) (A : Option Addr) (ls : List (List UInt8)) : Prop:=Parts w w.heap.size A ls
theorem SB.later {w w' : World} {v : Value} {l : List UInt8} (h : SB w v l) (hb : Below w.heap.size w w') : SB w' v l:=by
 obtain ⟨A,c,e,h1⟩:=h;exact ⟨A,c,e,(h1.below hb (Nat.le_refl _)).more (Nat.le_refl _) hb.size⟩
theorem PT.later {w w' : World} {A : Option Addr} {ls : List (List UInt8)} (h : PT w A ls) (hb : Below w.heap.size w w') : PT w' A ls:=fun hl=>by
 obtain ⟨ad,e,h1,h2⟩:=h.below hb (Nat.le_refl _) hl;refine ⟨ad,e,Nat.lt_of_lt_of_le h1 hb.size,fun i l hi=>?_⟩;obtain ⟨A',c,h3,h4⟩:=h2 i l hi;exact ⟨A',c,h3,h4.more (Nat.le_refl _) hb.size⟩
theorem SB.nil (w : World) : SB w (.slice none 0 0) []:=⟨none,0,rfl,SL.nil _ _ _⟩
theorem SB.arr {w : World} {g t off n c : Nat} {z l : List UInt8} (h : Blk w g t (By z).toArray) (hl : (z.drop off).take n = l) (hn : l.length = n) (hc : n ≤ c) (hc2 : c ≤ 9223372036854775807) : SB w (.slice (some ⟨g,off,none⟩) n c) l:=by
 refine ⟨some ⟨g,off,none⟩,c,by rw [hn],by rw [hn]; exact hc,hc2,fun h=>(by cases h),fun _=>⟨_,rfl,Nat.zero_le _,h.lt,fun j x hx=>?_⟩⟩;rw [← hl,List.getElem?_take] at hx
 split at hx
 ·rw [List.getElem?_drop] at hx
  rw [Addr.add_mid,h.cell]
  simp [By,hx]
 ·cases hx
theorem SB.all {w : World} {g t n : Nat} {l : List UInt8} (h : Blk w g t (By l).toArray) (hn : l.length = n) (hc2 : n ≤ 9223372036854775807) : SB w (.slice (some ⟨g,0,none⟩) n n) l :=
 SB.arr h (by rw [List.drop_zero,List.take_of_length_le (by omega)]) hn (Nat.le_refl _) hc2
theorem GS.sb {w : World} {base c : Nat} {A : Option Addr} {l : List UInt8} (h : GS w base 5 A c (By l)) : SB w (.slice A l.length c) l:=by
 have h2:=h.2;rw [By_len] at h2
 rcases h2 with ⟨h1,h3⟩ | ⟨g,cap,cur,hv,_,hg,hn,hc,_,htk⟩
 ·injection h1 with h4 h5 h6
  have:=List.eq_nil_of_length_eq_zero h3;subst h4 h6 this;exact SB.nil w
 ·injection hv with h4 h5 h6
  subst h4 h6;refine ⟨_,c,rfl,hn,by unfold maxLen at hc; omega,fun h=>(by cases h),fun _=>⟨_,rfl,Nat.zero_le _,Blk.lt hg,fun j x hx=>?_⟩⟩;have hB : Blk w g _ cur:=hg;rw [Addr.add_mid,hB.cell,Nat.zero_add]
  have h7 : (By l)[j]? = some (.int .u8 (x.toNat : Int)):=by simp [By,hx]
  rw [← htk,List.getElem?_take] at h7
  split at h7
  ·simpa using h7
  ·cases h7
/-! ### Steps -/
section
variable {ops : Array Oper} {Rel : World → World → Prop} [hR : RelOk Rel] {C0 : World → Prop} {Q : Facts → Act → Prop} {N : Nat} {E : List (Nat × Value)} {Fa : Told} {o : Oper} {rest : List (Nat × Oper)} {i k : Nat}
theorem g_call {f : FuncId} {xs : Array Operand} {ats : Array TypeId} (args : Array Value) (V : Value → World → Prop) (hg : o.guard = none) (hd : o.dst = some k) (hk : Nat.blt k N = true) (hf : farP i Fa = true) (hp : ∀ v,Pers Rel (V v)) (hown : Own f)
  (hc : ∀ w,C0 w → Uses o Fa w → Calls Tryd.prog f args w (fun e w'=>∃ v,e = .returned v ∧ V v w' ∧ Below w.heap.size w w'))
  (ho : o.op = .call { callee:=.value (.func f),args:=xs,argTypes:=ats }) (hx : xs.toList.map (ev E) = args.toList.map some)
  (hn : ∀ v w,C0 w → V v w → gF Tryd.prog Rel ops C0 Q rest N ((k,v) :: E) ((i,V v) :: Fa)) : gF Tryd.prog Rel ops C0 Q ((i,o) :: rest) N E Fa :=
 g_mem V hg hd hk hf (by rw [ho]; rfl) hp (fun a ha w hw hu=>by
  rw [run_call_fn hown ho,map_eval (ha.evals _ _ hx)]
  exact ⟨rfl,(hc w hw hu).mono fun e w' ⟨v,h1,h2,h3⟩=>⟨v,h1,hR.below _ _ h3,h2⟩⟩) hn
theorem g_alloc {ty : TypeId} (zs : Array Value) (base : Nat) (hg : o.guard = none) (hd : o.dst = some k) (hk : Nat.blt k N = true) (hf : farP i Fa = true) (ho : o.op = .alloc ty) (hz : (Tryd.prog.info? ty).bind (fun i=>i.zero.map (·.cells)) = some zs)
  (hb : ∀ w,C0 w → base ≤ w.heap.size) (hp : ∀ g,Pers Rel fun w=>base ≤ g ∧ Blk w g ty zs)
  (hn : ∀ g w,C0 w → base ≤ g → Blk w g ty zs → gF Tryd.prog Rel ops C0 Q rest N ((k,.pointer (some ⟨g,0,none⟩)) :: E) ((i,fun w=>base ≤ g ∧ Blk w g ty zs) :: Fa)) : gF Tryd.prog Rel ops C0 Q ((i,o) :: rest) N E Fa :=
 g_mem (fun v w=>∃ g,v = .pointer (some ⟨g,0,none⟩) ∧ base ≤ g ∧ Blk w g ty zs) hg hd hk hf (by rw [ho]; rfl) (fun v w w' ⟨g,e,h⟩ hr=>⟨g,e,hp g w w' h hr⟩) (fun a _ w hw _=>by
  rw [exec_alloc ho hz a w]
  exact ⟨hR.below _ _ ((Below.refl w.heap.size w).alloc (Nat.le_refl _) _),w.heap.size,rfl,hb w hw,Blk.new w _ _⟩) (fun v w hw ⟨g,e,h1,h2⟩=>by
  subst e
  intro a F ha hF
  refine hn g w hw h1 h2 a F ha fun x hx w hw=>?_
  rcases List.mem_cons.1 hx with rfl | hx
  ·obtain ⟨g',e,h⟩:=hF (i,fun w=>∃ g',Value.pointer (some ⟨g,0,none⟩) = .pointer (some ⟨g',0,none⟩) ∧ base ≤ g' ∧ Blk w g' ty zs) List.mem_cons_self w hw
   injection e with e
   injection e with e
   injection e with e
   subst e;exact h
  ·exact hF x (List.mem_cons_of_mem _ hx) w hw)
end

theorem cells_slices : (Tryd.prog.info? 23).map (fun i=>(i.zero,i.size,i.bytes)) = some (some (.slice none 0 0),1,24):=by kernel_rfl
theorem run_slices (vs : List Value) (n : Nat) (parts : Array (Nat × Value)) (hp : parts.toList = (vs.zipIdx 0).map fun x=>(x.2,x.1)) (hn : vs.length = n) (h0 : 0 < n) (h24 : n ≤ 16777216) (h1 : ∀ v ∈ vs,v.cells = #[v]) (w : World) :
  (Instr.buildSlice 63 n parts).run Tryd.prog w = .ok (.slice (some ⟨w.heap.size,0,none⟩) n n) (w.alloc (.cells vs.toArray 23)):=by
 obtain ⟨ie,h2,h3,h4,_⟩:=info_parts cells_slices;refine run_buildSlice w 63 23 n parts vs.toArray ie _ Tryd.underlying63 h2 h3 (by rw [h4]; omega) (by rw [h4]; omega) ?_;rw [hp,h4];exact Great.fill_flat _ _ h1 (by simp [hn])
def All2 (w : World) : List Value → List (List UInt8) → Prop
  | [],[]=>True
  | v :: vs,l :: ls=>SB w v l ∧ All2 w vs ls
  | _,_=>False
theorem All2.len {w : World} : ∀ {vs : List Value} {ls : List (List UInt8)},All2 w vs ls → vs.length = ls.length
 | [],[],_=>rfl
 | _ :: _,_ :: _,h=>by rw [List.length_cons,List.length_cons,All2.len h.2]
 | [],_ :: _,h=>h.elim
 | _ :: _,[],h=>h.elim
theorem All2.get {w : World} : ∀ {vs : List Value} {ls : List (List UInt8)},All2 w vs ls → ∀ (i : Nat) l,ls[i]? = some l → ∃ v,vs[i]? = some v ∧ SB w v l
 | [],[],_,i,l,h=>by simp at h
 | v :: vs,l0 :: ls,h,0,l,hi=>by
  simp only [List.getElem?_cons_zero,Option.some.injEq] at hi;subst hi;exact ⟨v,rfl,h.1⟩
 | v :: vs,l0 :: ls,h,i + 1,l,hi=>by
  obtain ⟨u,h1,h2⟩:=All2.get h.2 i l (by simpa using hi);exact ⟨u,by simpa using h1,h2⟩
 | [],_ :: _,h,_,_,_=>h.elim
 | _ :: _,[],h,_,_,_=>h.elim
theorem All2.one {w : World} : ∀ {vs : List Value} {ls : List (List UInt8)},All2 w vs ls → ∀ v ∈ vs,v.cells = #[v] ∧ v.oneCell' = true
 | [],_,_,v,hv=>by simp at hv
 | u :: vs,l :: ls,h,v,hv=>by
  rcases List.mem_cons.1 hv with rfl | hv
  ·obtain ⟨A,c,rfl,_⟩:=h.1
   exact ⟨rfl,rfl⟩
  ·exact All2.one h.2 v hv
 | _ :: _,[],h,_,_=>h.elim
theorem All2.later {w w' : World} (hb : Below w.heap.size w w') : ∀ {vs : List Value} {ls : List (List UInt8)},All2 w vs ls → All2 w' vs ls
 | [],[],_=>trivial
 | _ :: _,_ :: _,h=>⟨h.1.later hb,All2.later hb h.2⟩
 | [],_ :: _,h=>h.elim
 | _ :: _,[],h=>h.elim
structure NewS (base : Nat) (vs : List Value) (ls : List (List UInt8)) (g : Nat) (w : World) : Prop where
  ge : base ≤ g
  blk : Blk w g 23 vs.toArray
  all : All2 w vs ls
theorem NewS.later {base g : Nat} {vs : List Value} {ls : List (List UInt8)} {w w' : World} (h : NewS base vs ls g w) (hb : Below w.heap.size w w') : NewS base vs ls g w':=⟨h.ge,h.blk.later hb,All2.later hb h.all⟩
theorem pt_of {w : World} {g : Nat} {vs : List Value} {ls : List (List UInt8)} {cs : Array Value} {t : Nat} (hB : Blk w g t cs) (htk : ∀ (j : Nat) (v : Value),vs[j]? = some v → cs[j]? = some v) (h : All2 w vs ls) : PT w (some ⟨g,0,none⟩) ls:=fun _=>by
 refine ⟨_,rfl,hB.lt,fun i l hi=>?_⟩;obtain ⟨v,h1,A,c,rfl,h3⟩:=h.get i l hi;refine ⟨A,c,?_,h3⟩;rw [Addr.add_mid,hB.cell,Nat.zero_add];exact htk i _ h1
theorem NewS.pt {base g : Nat} {vs : List Value} {ls : List (List UInt8)} {w : World} (h : NewS base vs ls g w) : PT w (some ⟨g,0,none⟩) ls:=pt_of h.blk (fun j v hj=>by simpa using hj) h.all
section
variable {ops : Array Oper} {C0 : World → Prop} {Q : Facts → Act → Prop} {N : Nat} {E : List (Nat × Value)} {Fa : Told} {o : Oper} {rest : List (Nat × Oper)} {i k : Nat}
theorem g_slices {n : Nat} {parts : Array (Nat × Operand)} (vs : List Value) (ls : List (List UInt8)) (base : Nat) (hg : o.guard = none) (hd : o.dst = some k) (hk : Nat.blt k N = true) (hf : farP i Fa = true) (ho : o.op = .buildSlice 63 n parts)
  (hv : parts.toList.map (fun p=>(p.1,ev E p.2)) = (vs.zipIdx 0).map fun x=>(x.2,some x.1)) (hn : vs.length = n) (h0 : 0 < n) (h24 : n ≤ 16777216) (hb : ∀ w,C0 w → base ≤ w.heap.size) (h : ∀ w,C0 w → Uses o Fa w → All2 w vs ls)
  (hk2 : ∀ g w,C0 w → NewS base vs ls g w → gF Tryd.prog Bel ops C0 Q rest N ((k,.slice (some ⟨g,0,none⟩) n n) :: E) ((i,NewS base vs ls g) :: Fa)) : gF Tryd.prog Bel ops C0 Q ((i,o) :: rest) N E Fa :=
 g_mem (fun v w=>∃ g,v = .slice (some ⟨g,0,none⟩) n n ∧ NewS base vs ls g w) hg hd hk hf (by rw [ho]; rfl) (fun v w w' ⟨g,e,h⟩ hr=>⟨g,e,h.later hr⟩) (fun a ha w hw hu=>by
  have hA:=h w hw hu
  have hm : ∀ (l : List (Nat × Operand)) (m : List (Value × Nat)),l.map (fun p=>(p.1,ev E p.2)) = m.map (fun x=>(x.2,some x.1)) → l.map (fun (i,x)=>(i,a.eval x)) = m.map fun x=>(x.2,x.1):=by
   intro l
   induction l with
   | nil=>intro m h; cases m with
    | nil=>rfl
    | cons=>cases h
   | cons p l ih=>intro m h; cases m with
    | nil=>cases h
    | cons u m =>
     simp only [List.map_cons,List.cons.injEq,Prod.mk.injEq] at h ⊢;exact ⟨⟨h.1.1,ha.eval h.1.2⟩,ih m h.2⟩
  have hr:=run_slices vs n (parts.map fun (i,x)=>(i,a.eval x)) (by rw [Array.toList_map]; exact hm _ _ hv) hn h0 h24 (fun v hv=>(hA.one v hv).1) w;have hal:=(Below.refl w.heap.size w).alloc (Nat.le_refl _) (.cells vs.toArray 23)
  unfold execOp
  simp only [ho,Sem.run_bind,hr,Result.andThen_ok,Sem.run_pure]
  exact ⟨hal,w.heap.size,rfl,hb w hw,Blk.new w _ _,All2.later hal hA⟩) (fun v w hw ⟨g,e,h2⟩=>by
  subst e
  intro a F ha hF
  refine hk2 g w hw h2 a F ha fun x hx w hw=>?_
  rcases List.mem_cons.1 hx with rfl | hx
  ·obtain ⟨g',e,h⟩:=hF (i,fun w=>∃ g',Value.slice (some ⟨g,0,none⟩) n n = .slice (some ⟨g',0,none⟩) n n ∧ NewS base vs ls g' w) List.mem_cons_self w hw
   injection e with e
   injection e with e
   injection e with e
   subst e;exact h
  ·exact hF x (List.mem_cons_of_mem _ hx) w hw)
end

/-! ### Appends of slices -/
theorem All2.app {w : World} : ∀ {vs us : List Value} {ls ms : List (List UInt8)},All2 w vs ls → All2 w us ms → All2 w (vs ++ us) (ls ++ ms)
 | [],_,[],_,_,h=>h
 | _ :: _,_,_ :: _,_,h,h'=>⟨h.1,All2.app h.2 h'⟩
 | [],_,_ :: _,_,h,_=>h.elim
 | _ :: _,_,[],_,h,_=>h.elim
theorem pt_vals {w : World} {ad : Addr} : ∀ (ls : List (List UInt8)) (o : Nat),(∀ (i : Nat) l,ls[i]? = some l → ∃ v,w.cell? (ad.add (o + i)) = some v ∧ SB w v l) → ∃ vs,All2 w vs ls ∧ ∀ (j : Nat) u,vs[j]? = some u → w.cell? (ad.add (o + j)) = some u
 | [],_,_=>⟨[],trivial,fun j u h=>by simp at h⟩
 | l :: ls,o,h=>by
  obtain ⟨v,h1,h2⟩:=h 0 l rfl
  obtain ⟨vs,h3,h4⟩:=pt_vals ls (o + 1) fun i l' hi=>by
   obtain ⟨v',h5,h6⟩:=h (i + 1) l' (by simpa using hi);exact ⟨v',by rw [show o + 1 + i = o + (i + 1) by omega]; exact h5,h6⟩
  refine ⟨v :: vs,⟨h2,h3⟩,fun j u hj=>?_⟩
  cases j with
  | zero =>
   simp only [List.getElem?_cons_zero,Option.some.injEq] at hj;subst hj;exact h1
  | succ j =>
   have:=h4 j u (by simpa using hj)
   rwa [show o + 1 + j = o + (j + 1) by omega] at this
theorem GS.pt {w : World} {base c : Nat} {A : Option Addr} {vs : List Value} {ls : List (List UInt8)} (h : GS w base 23 A c vs) (hA : All2 w vs ls) : PT w A ls ∧ ls.length ≤ c ∧ c ≤ 9223372036854775807:=by
 have hlen:=hA.len
 rcases h.2 with ⟨h1,h3⟩ | ⟨g,cap,cur,hv,_,hg,hn,hc,_,htk⟩
 ·injection h1 with h4 h5 h6
  subst h6;exact ⟨fun h0=>absurd h0 (by omega),by omega,by omega⟩
 ·injection hv with h4 h5 h6
  subst h4 h6;refine ⟨pt_of (cs:=cur) hg (fun j v hj=>?_) hA,by omega,by unfold maxLen at hc; omega⟩;rw [← htk,List.getElem?_take] at hj
  split at hj
  ·simpa using hj
  ·cases hj
theorem NewS.gs {base n g : Nat} {vs : List Value} {ls : List (List UInt8)} {w : World} (h : NewS base vs ls g w) (hn : vs.length = n) (hm : n ≤ 9223372036854775807) : GS w base 23 (some ⟨g,0,none⟩) n vs:=by
 refine ⟨by simp,.inr ⟨g,n,vs.toArray,rfl,h.ge,h.blk,by omega,by unfold maxLen; omega,by simp [hn],by simp⟩⟩
section
variable {ops : Array Oper} {Q : Exit → Act → World → Prop} {N : Nat} {E : List (Nat × Value)} {w : World} {o : Oper} {rest : List Oper} {k : Nat}
theorem l_appS {s x : Operand} {base c d : Nat} {A X : Option Addr} {vs : List Value} {ls : List (List UInt8)} (hg : o.guard = none) (hd : o.dst = some k) (hk : Nat.blt k N = true) (ho : o.op = .call { callee:=.builtin .append,args:=#[s,x],argTypes:=#[63,63] })
  (hs : ev E s = some (.slice A vs.length c)) (hx : ev E x = some (.slice X ls.length d)) (hown : GS w base 23 A c vs) {W0 : World} (hW : Up W0 w) (hP : PT W0 X ls) (h0 : X = none → d = 0 ∧ ls = []) (hb : (vs.length + ls.length) * 24 ≤ 140737488355328) (hbase : base ≤ w.heap.size)
  (hn : ∀ A' c' w' us,All2 W0 us ls → GS w' base 23 A' c' (vs ++ us) → w.grownBy w' (A.map (·.block)) → lF Tryd.prog ops Q rest N ((k,.slice A' (vs ++ us).length c') :: E) w') : lF Tryd.prog ops Q (o :: rest) N E w:=by
 cases X with
 | none =>
  obtain ⟨rfl,rfl⟩:=h0 rfl;obtain ⟨i,hi0,hz,hs0,hb⟩:=info_parts cells_slices;have hr:=run_append_owned_none (P:=Tryd.prog) w base 63 o.type 23 i 1 Tryd.underlying63 hi0 _ vs.length vs hown;have h1:=hn A c w [] trivial (by rw [List.append_nil]; exact hown) (World.grownBy.refl _ _);rw [List.append_nil] at h1;refine l_val _ hg hd hk (fun a ha=>?_) h1;have h2:=ha.eval hs;have h3:=ha.eval hx
  unfold execOp
  simp only [ho,resolve,invoke,builtin,Sem.run_bind,Sem.run_pure,Result.andThen_ok,List.map_toArray,List.map_cons,List.map_nil,h2,h3,List.length_nil,hr]
 | some ad =>
  obtain ⟨us,h1,h2⟩:=pt_vals (w:=W0) (ad:=ad) ls 0 fun i l hi=>by
   obtain ⟨ad',e,_,h3⟩:=hP (by have:=(List.getElem?_eq_some_iff.1 hi).1; omega)
   injection e with e
   subst e;obtain ⟨A',c',h4,h5⟩:=h3 i l hi;exact ⟨_,by rw [Nat.zero_add]; exact h4,A',c',rfl,h5⟩
  have hl:=h1.len
  refine l_app (bytes:=24) (z:=.slice none 0 0) (news:=us) (base:=base) (e:=23) (xs:=vs) (A:=A) (c:=c) (ad:=ad) (m:=ls.length) (d:=d) hg hd hk ho hs hx Tryd.underlying63 cells_slices rfl hown hl (fun j u hj=>by
   have h5:=h2 j u hj;rw [Nat.zero_add] at h5
   exact (hW.cell (World.block_lt_of_cell? W0 _ h5)).trans h5) (fun u hu=>(h1.one u hu).2) hb (by unfold maxLen; omega) hbase ?_
  intro A' c' w' h3 h4 _
  exact hn A' c' w' us h1 h3 h4
end

/-! ### Copies -/
section
variable {ops : Array Oper} {Q : Exit → Act → World → Prop} {N : Nat} {E : List (Nat × Value)} {w : World} {o : Oper} {rest : List Oper} {k : Nat}
theorem l_copy {d s : Operand} (g off n c t : Nat) (z l : List UInt8) (v : Value) (hgd : o.guard = none) (hdst : o.dst = some k) (hE : look E k = none) (ho : o.op = .call { callee:=.builtin .copy,args:=#[d,s],argTypes:=#[23,23] })
  (hd : ev E d = some (.slice (some ⟨g,off,none⟩) n c)) (hs : ev E s = some v) (hz : Blk w g t (By z).toArray) (hl : SB w v l) (h0 : 0 < l.length) (h1 : l.length ≤ n) (h2 : off + l.length ≤ z.length)
  (hn : Blk (w.setRow g (By (cop z off l)).toArray) g t (By (cop z off l)).toArray → lF Tryd.prog ops Q rest N E (w.setRow g (By (cop z off l)).toArray)) : lF Tryd.prog ops Q (o :: rest) N E w:=fun a ha=>by
 obtain ⟨A,c2,rfl,hS⟩:=hl;obtain ⟨ad,rfl,_,_,hc⟩:=hS.2.2.2 h0;refine wpList_copy_own hgd d s 23 23 ho 5 Tryd.underlying23 size_u8 g off n c ad l.length c2 (ha.eval hd) (ha.eval hs) (By z).toArray t hz (By l) (by rw [By_len]; exact (Nat.min_eq_left h1).symm) ?_ (by rw [By_len,List.size_toArray,By_len]; exact h2) (By_one l) ?_
 ·intro j u hu
  obtain ⟨x,hx,rfl⟩:=By_at hu;exact hc j x hx
 ·have e : (By z).toArray.toList.take off ++ (By l ++ (By z).toArray.toList.drop (off + (By l).length)) = By (cop z off l):=by
   simp [cop,By]
  rw [e,hdst];exact hn (hz.row _) _ (ha.putFar hE _)
end
end Go.Proofs.YtminmeljonbogaaDoor
/-
PLAIN NUMBERS: the bytes of the curve's points: a point is told by its bytes; which bytes are points. No program is imported.
PLAIN NUMBERS: the lowest and the highest byte of 32. No program is imported.
-/
namespace Nums

theorem zz {n : Nat} [NeZero n] (d : Fin n) : 0 * 0 * d + 1 = 1:=by grind only
theorem neg_sq (a : F) : -a * -a = a * a:=by grind only

def evenOf (x : F) : F:=if x.val % 2 = 1 then -x else x
theorem evenOf_even (x : F) : (evenOf x).val % 2 = 0:=by
 unfold evenOf
 by_cases h : x.val % 2 = 1
 ·rw [if_pos h,neg_odd (by rintro rfl; exact absurd h (by decide)),h]
 ·rw [if_neg h]; omega
theorem evenOf_sq (x : F) : evenOf x * evenOf x = x * x:=by
 unfold evenOf
 by_cases h : x.val % 2 = 1
 ·rw [if_pos h]; grind only
 ·rw [if_neg h]

theorem root_one {a b : F} (h : a * a = b * b) (hp : a.val % 2 = b.val % 2) : a = b:=by
 rcases root_or prime_p h with h1 | h1
 ·exact h1
 ·by_cases h0 : b = 0
  ·rw [h1,h0]; grind only
  ·have:=neg_odd h0
   rw [← h1] at this
   omega

theorem vv_ne (y : F) : y * y * dd + 1 ≠ 0:=by
 intro h
 have hy : y ≠ 0:=by
  rintro rfl
  have e : (0 : F) * 0 * dd + 1 = 1:=zz dd;rw [e] at h;exact ne_one prime_p h.symm
 have h1:=mul_finv prime_p hy;refine good.d (im * finv y) ?_;have hi:=im_im;generalize finv y = z at *;generalize im = i at *;generalize dd = d at *
 have a : i * z * (i * z) = (i * i) * (z * z):=by grind only
 have b : d = -(1 : F) * (z * z):=by
  have c : d * (y * z) * (y * z) = (y * y * d) * (z * z):=by grind only
  have e : y * y * d = -1:=by grind only
  rw [h1,e] at c
  grind only
 rw [a,hi,b]

def ww (y : F) : F:=(y * y - 1) * finv (y * y * dd + 1)
theorem on_iff (x y : F) : Ed.On dd ⟨x,y⟩ ↔ x * x = ww y:=by
 have h:=mul_finv prime_p (vv_ne y)
 unfold ww
 show y * y - x * x = 1 + dd * x * x * y * y ↔ _
 have hv:=vv_ne y;generalize hV : y * y * dd + 1 = v at *;generalize finv v = u at *;generalize dd = d at *
 constructor
 ·intro h1
  have a : y * y - 1 = x * x * v:=by rw [← hV]; grind only
  have b : x * x * v * u = x * x * (v * u):=by grind only
  rw [a,b,h]
  grind only
 ·intro h1
  have a : x * x * v = y * y - 1:=by
   have b : (y * y - 1) * u * v = (y * y - 1) * (v * u):=by grind only
   rw [h1,b,h]
   grind only
  rw [← hV] at a
  grind only

def encN (P : Ed.Pt p) : Nat:=P.y.val + 57896044618658097711785492504343953926634992332820282019728792003956564819968 * (P.x.val % 2)
def encP (P : Ed.Pt p) : List UInt8:=bytes 32 (encN P)
theorem encP_len (P : Ed.Pt p) : (encP P).length = 32:=bytes_len _ _
theorem p_lt : p < 57896044618658097711785492504343953926634992332820282019728792003956564819968:=by decide
theorem le_encP (P : Ed.Pt p) : le (encP P) = encN P:=by
 unfold encP
 rw [le_bytes]
 apply Nat.mod_eq_of_lt
 have h:=P.y.isLt;have h2:=p_lt
 have h3 : 57896044618658097711785492504343953926634992332820282019728792003956564819968 * 2 = 256 ^ 32:=by decide
 unfold encN
 omega
theorem encN_inj {P Q : Ed.Pt p} (h : encN P = encN Q) : P.y = Q.y ∧ P.x.val % 2 = Q.x.val % 2:=by
 unfold encN at h
 have h1:=P.y.isLt;have h2:=Q.y.isLt;have h3:=p_lt;exact ⟨Fin.ext (by omega),by omega⟩

theorem encP_inj {P Q : Ed.Pt p} (hP : Ed.On dd P) (hQ : Ed.On dd Q) (h : encP P = encP Q) : P = Q:=by
 have h1 : encN P = encN Q:=by rw [← le_encP,← le_encP,h]
 obtain ⟨h2,h3⟩:=encN_inj h1;obtain ⟨x,y⟩:=P;obtain ⟨u,v⟩:=Q;simp only at h2 h3;subst h2;have a:=(on_iff x y).mp hP;have b:=(on_iff u y).mp hQ;rw [root_one (a.trans b.symm) h3]

end Nums

namespace Nums

theorem le_append : ∀ a b : List UInt8,le (a ++ b) = le a + 256 ^ a.length * le b
 | [],b=>by show le b = 0 + 1 * le b; omega
 | x :: a,b=>by
  show x.toNat + 256 * le (a ++ b) = x.toNat + 256 * le a + 256 ^ (a.length + 1) * le b
  rw [le_append a b,Nat.pow_succ,Nat.mul_add,Nat.mul_comm (256 ^ a.length) 256,Nat.mul_assoc]
  omega
theorem le_lt : ∀ a : List UInt8,le a < 256 ^ a.length
 | []=>by decide
 | x :: a=>by
  have h1:=le_lt a;have h2:=x.toNat_lt
  show x.toNat + 256 * le a < 256 ^ (a.length + 1)
  rw [Nat.pow_succ]
  omega
section
variable {b : List UInt8} (hb : b.length = 32)
include hb
theorem cut31 : b = b.take 31 ++ [b[31]!]:=by
 conv=>lhs; rw [← List.take_append_drop 31 b]
 rw [List.drop_eq_getElem_cons (by omega),List.drop_eq_nil_of_le (by omega),getElem!_pos b 31 (by omega)]
theorem le_top : le b = le (b.take 31) + 452312848583266388373324160190187140051835877600158453279131187530910662656 * (b[31]!).toNat:=by
 conv=>lhs; rw [cut31 hb]
 rw [le_append,List.length_take,hb]
 show _ + 256 ^ 31 * ((b[31]!).toNat + 256 * 0) = _
 rw [show (256 : Nat) ^ 31 = 452312848583266388373324160190187140051835877600158453279131187530910662656 by decide]
 omega
theorem le_rest : le (b.take 31) < 452312848583266388373324160190187140051835877600158453279131187530910662656:=by
 have h:=le_lt (b.take 31);rw [List.length_take,hb,show (256 : Nat) ^ min 31 32 = 452312848583266388373324160190187140051835877600158453279131187530910662656 by decide] at h;exact h
theorem set31 (x : UInt8) : le (b.set 31 x) = le (b.take 31) + 452312848583266388373324160190187140051835877600158453279131187530910662656 * x.toNat:=by
 have h : (b.set 31 x).length = 32:=by rw [List.length_set,hb]
 rw [le_top h,List.take_set_of_le (by omega),getElem!_pos _ 31 (by omega),List.getElem_set_self]
theorem top_iff : (b[31]!).toNat < 128 ↔ le b < 57896044618658097711785492504343953926634992332820282019728792003956564819968:=by
 have h1:=le_top hb;have h2:=le_rest hb
 omega
end

theorem encP_even {P : Ed.Pt p} (h : P.x.val % 2 ≠ 1) : encP P = enc P.y:=by
 apply le_inj (by rw [encP_len,enc_len])
 rw [le_encP,le_enc]
 unfold encN
 have : P.x.val % 2 = 0:=by omega
 rw [this]
 omega
theorem enc_top (y : F) : ((enc y)[31]!).toNat < 128:=by
 rw [top_iff (enc_len y),le_enc];exact Nat.lt_trans y.isLt p_lt
theorem encP_odd {P : Ed.Pt p} (h : P.x.val % 2 = 1) : encP P = (enc P.y).set 31 (UInt8.ofNat (((enc P.y)[31]!).toNat + 128)):=by
 apply le_inj (by rw [encP_len,List.length_set,enc_len])
 have h1:=enc_top P.y;have h2:=le_top (enc_len P.y);rw [le_encP,set31 (enc_len P.y),UInt8.toNat_ofNat_of_lt' (by show _ < 256; omega)];rw [le_enc] at h2
 unfold encN
 rw [h]
 omega
end Nums
