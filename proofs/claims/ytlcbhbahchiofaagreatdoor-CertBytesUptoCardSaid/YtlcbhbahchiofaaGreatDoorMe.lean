/-
  SEVERAL TEXTS IN ONE: Vi, RgS, Curve, Root, Pack, High, CpG, Word, Words, Limb, ElOps.
-/
import Derived.Test.YtlcbhbahchiofaaGreatDoorMd
import Derived.Test.YtlcbhbahchiofaaGreatDoorMc
import Derived.Laws.IdiomStrings
import Derived.Laws.BytesArg
import Derived.Test.YtlcbhbahchiofaaGreatDoorMb
import Derived.Lib.Mul64
import Derived.StillTailTactics
/-
  REGIONS THAT ARE RECKONED WHOLE; objects behind pointers; bytes, hashes, numbers as elements.
-/
namespace Go.Proofs.YtlcbhbahchiofaaGreatDoor
open Go.RowKit Go.IntWalk

/-! ### Whole regions -/
section
variable {P : Program} {b : Base} {T : List TyR} {Q : Exit → Act → World → Prop} {N : Nat} {E E' E2 : SE} {L L' L2 : List LV} {R : List Res} {F M : World → Prop}
theorem s_auto {id : Nat} {l : List Oper} {y : Code} (hT : OkT P T) (h : autoS T l.toArray N l E L = ([],E',L')) (hn : cS P b y Q N ⟨E',L',R,F,M⟩) : cS P b (.seq (.region id l.toArray false) y) Q N ⟨E,L,R,F,M⟩ :=
 s_reg fun _ hK=>l_autoS hT h (s_end (hK _ hn))
theorem s_autoE {id : Nat} {l : List Oper} (hT : OkT P T) (h : autoS T l.toArray N l E L = ([],E',L')) (hn : kS b (Q .normal) N ⟨E',L',R,F,M⟩) : cS P b (.region id l.toArray false) Q N ⟨E,L,R,F,M⟩ :=
 s_lit (l_autoS hT h (s_end hn))
theorem s_pure {c : Code} (φ : Prop) (h : ∀ w,F w → M w → φ) (hn : φ → cS P b c Q N ⟨E,L,R,F,M⟩) : cS P b c Q N ⟨E,L,R,F,M⟩:=fun a w hs=>by
 have hs':=hs;obtain ⟨G,S,h1,h2,h3⟩:=hs;exact hn (h w h3.all.now.1 h3.all.now.2) a w hs'
theorem l_pure {ops : Array Oper} {l : List Oper} (φ : Prop) (h : ∀ w,F w → M w → φ) (hn : φ → lS P b ops Q N l ⟨E,L,R,F,M⟩) : lS P b ops Q N l ⟨E,L,R,F,M⟩:=fun a w hs=>by
 have hs':=hs;obtain ⟨G,S,h1,h2,h3⟩:=hs;exact hn (h w h3.all.now.1 h3.all.now.2) a w hs'
theorem s_regA {id : Nat} {l l' : List Oper} {y : Code} (hT : OkT P T) (h : autoS T l.toArray N l E L = (l',E',L')) (hn : ∀ K : Act → World → Prop,(∀ e',cS P b y Q N e' → kS b K N e') → lS P b l.toArray (Exit.then K Q) N l' ⟨E',L',R,F,M⟩) : cS P b (.seq (.region id l.toArray false) y) Q N ⟨E,L,R,F,M⟩ :=
 s_reg fun K hK=>l_autoS hT h (hn K hK)
end

/-! ### Objects behind pointers -/
def ObjF (g : Nat) (t : TypeId) (ps : List Pt) (w : World) : Prop:=Blk w g t (catP ps) ∧ OkP ps
instance {g : Nat} {t : TypeId} {ps : List Pt} : Pst (ObjF g t ps):=⟨fun _ _ h hb=>⟨h.1.later hb,h.2⟩⟩
def ObjS (g : Nat) (t : TypeId) (ps : List Pt) : Res where
  holds w S:=ObjF g t ps w ∧ ∀ j,S j ↔ j = g
  keep:=fun ⟨h1,h2⟩ hk=>⟨⟨(hk g ((h2 g).2 rfl)).trans h1.1,h1.2⟩,h2⟩
  lt:=fun ⟨h1,h2⟩ j hj=>by rw [(h2 j).1 hj]; exact h1.1.lt
section
variable {P : Program} {b : Base} {T : List TyR} {ops : Array Oper} {Q : Exit → Act → World → Prop} {N : Nat} {E : SE} {L : List LV} {R : List Res} {F M : World → Prop} {o : Oper} {k g off : Nat} {t : TypeId} {x : Operand} {ty : TypeId} {ps : List Pt} {q : SQ}
theorem load_obj (hT : OkT P T) (ho : o.op = .load t x) (hx : evS E x = some (.v (.pointer (some ⟨g,off,none⟩)))) (hl : loadS T ps t off = some q) {G : Nat → Nat} {a : Act} {w : World} (ha : Fr N (denE G E) a) (h : ObjF g ty ps w) : q.Ok ∧ (execOp a.eval o).run P w = .ok (.value q.den) w:=by
 obtain ⟨h1,h2⟩:=loadS_ok hT h.2 hl;refine ⟨h1,?_⟩;have e:=ha.eval (evS_ok hx)
 unfold execOp
 simp only [ho,e,SV.den,SQ.den,SC.den,h2 h.1,Sem.run_bind,Sem.run_pure,Result.andThen_ok]
theorem l_ldO {rest : List Oper} (hT : OkT P T) (hg : o.guard = none) (hd : o.dst = some k) (hk : Nat.blt k N = true) (ho : o.op = .load t x) (hx : evS E x = some (.v (.pointer (some ⟨g,off,none⟩)))) (hl : loadS T ps t off = some q) (h : ∀ G S w,View G S L R F M w → ObjF g ty ps w)
  (hn : lS P b ops Q N rest ⟨(k,.q q) :: E,L,R,F,M⟩) : lS P b ops Q N (o :: rest) ⟨E,L,R,F,M⟩:=fun a w ⟨G,S,h1,h2,h3⟩=>by
 obtain ⟨h4,h5⟩:=load_obj hT ho hx hl h1 (h G S w h3.view);refine wpl_go (oneS hg) h5 ?_;rw [hd];exact hn _ w ⟨G,S,h1.put hk _,h2.cons h4,h3⟩
theorem g_ldO {T' : List Oper} {G : Nat → Nat} {S : Nat → Prop} {w0 : World} {rest : List (Nat × Oper)} {i : Nat} (hT : OkT P T) (hst : StW b G S L R F M w0) (hg : o.guard = none) (hd : o.dst = some k) (hk : Nat.blt k N = true) (ho : o.op = .load t x) (hx : evS E x = some (.v (.pointer (some ⟨g,off,none⟩)))) (hl : loadS T ps t off = some q) (h : ∀ G S w,View G S L R F M w → ObjF g ty ps w)
  (hn : gS P b ops Q N T' G w0 rest ((k,.q q) :: E)) : gS P b ops Q N T' G w0 ((i,o) :: rest) E:=fun hE =>
 g_op rfl (fun a ha=>b_val (v:=q.den) (by simp [Region.wanted,hg]) (fun w hw=>(load_obj hT ho hx hl ha (h G S w (hst.later hw.1).view)).2) (by
  rw [hd]
  exact g_go (o:=o) (hn (hE.cons (loadS_ok hT (h G S w0 hst.view).2 hl).1)) _ (ha.put hk _)))
end
theorem obj_own {g : Nat} {t : TypeId} {ps : List Pt} {L : List LV} {R : List Res} {F M : World → Prop} (i : Nat) (hi : R[i]? = some (ObjS g t ps)) : ∀ G S w,View G S L R F M w → ObjF g t ps w:=fun _ _ _ h=>by
 obtain ⟨S1,_,h1,_⟩:=h.res.at hi;exact h1.1
theorem obj_fact {g : Nat} {t : TypeId} {ps : List Pt} {L : List LV} {R : List Res} {F M : World → Prop} (h : ∀ w,F w → M w → ObjF g t ps w) : ∀ G S w,View G S L R F M w → ObjF g t ps w:=fun _ _ w hv=>h w hv.fact hv.fresh

/-! ### Elements -/
def eB (x : UInt8) : SQ:=.c (.v (.int .u8 (x.toNat : Int)))
def eI (i : Int) : SQ:=.c (.v (.int .i64 i))
def eY (n : Nat) (l : List UInt8) : SQ:=.p [.agg n (By l).toArray]
theorem eB_ok (x : UInt8) : OkP (eB x).parts1 ∧ (eB x).cl.length = 1:=⟨fun p hp=>by rw [List.mem_singleton.1 hp]; exact ⟨trivial,rfl,rfl⟩,rfl⟩
theorem eI_ok (i : Int) : OkP (eI i).parts1 ∧ (eI i).cl.length = 1:=⟨fun p hp=>by rw [List.mem_singleton.1 hp]; exact ⟨trivial,rfl,rfl⟩,rfl⟩
theorem eY_ok {n : Nat} {l : List UInt8} (h : l.length = n) : OkP (eY n l).parts1 ∧ (eY n l).cl.length = n:=by
 have h1 : (By l).toArray.size = n:=by rw [List.size_toArray,By_len,h]
 exact ⟨fun p hp=>by rw [List.mem_singleton.1 hp]; exact ⟨h1,By_one l⟩,by rw [SQ.cl,Array.length_toList]; exact h1⟩
theorem okF_B (l : List UInt8) : OkF 1 eB l:=fun x _=>eB_ok x
theorem okF_I (l : List Int) : OkF 1 eI l:=fun x _=>eI_ok x
theorem okF_Y {n : Nat} {ls : List (List UInt8)} (h : ∀ l ∈ ls,l.length = n) : OkF n (eY n) ls:=fun l hl=>eY_ok (h l hl)
theorem flat_B : ∀ l : List UInt8,flatF eB l = By l
 | []=>rfl
 | x :: l=>by
  have:=flat_B l;simp only [flatF,List.flatMap_cons] at this ⊢;rw [this]
  rfl
theorem Rd.sb {A : Option Addr} {c : Nat} {l : List UInt8} {w : World} (h : Rd 1 eB A c l w) : SB w (.slice A l.length c) l:=by
 obtain ⟨h1,h2,h3,_,h5⟩:=h;refine ⟨A,c,rfl,h1,h2,h3,fun hl=>?_⟩;obtain ⟨b,o,e,hb,hr⟩:=h5 hl;refine ⟨⟨b,o,none⟩,e,Nat.zero_le _,hb,fun j x hx=>?_⟩;have:=hr j x hx 0 (.int .u8 (x.toNat : Int)) rfl;rw [Addr.add_mid]
 simpa using this
theorem Rd.of_sb {A : Option Addr} {c n : Nat} {l : List UInt8} {w : World} (h : SB w (.slice A n c) l) : n = l.length ∧ Rd 1 eB A c l w:=by
 obtain ⟨A',c',e,h1,h2,h3,h4⟩:=h
 injection e with e1 e2 e3
 subst e1 e2 e3;refine ⟨rfl,h1,h2,h3,okF_B l,fun hl=>?_⟩;obtain ⟨ad,e,_,h6,h7⟩:=h4 hl;obtain ⟨b,o,sp⟩:=ad
 have hsp : sp = none:=by
  have h8:=h7 0 l[0] (List.getElem?_eq_getElem hl)
  cases sp with
  | none=>rfl
  | some s =>
   unfold World.cell? Addr.add at h8
   simp only [if_true] at h8
   split at h8
   ·simp at h8
   ·cases h8
 subst hsp;refine ⟨b,o,e,h6,fun i x hi j v hj=>?_⟩;have h8:=h7 i x hi;rw [Addr.add_mid] at h8
 cases j with
 | zero =>
  have e : v = .int .u8 (x.toNat : Int):=by
   have : (eB x).cl[0]? = some (.int .u8 (x.toNat : Int)):=rfl;rw [this] at hj;exact (Option.some.inj hj).symm
  rw [e,Nat.one_mul,Nat.add_zero];exact h8
 | succ j =>
  have : (eB x).cl[j + 1]? = none:=rfl;rw [this] at hj
  cases hj
/-! ### Numbers -/
theorem wrapI {m r : Int} (h : m = r) (h1 : -9223372036854775808 ≤ r) (h2 : r ≤ 9223372036854775807) : IntKind.i64.wrap m = r:=by
 rw [h,i64_left,wrap64_in _ ⟨h1,by omega⟩]
theorem wrapQ (n d : Nat) (h : n ≤ 9223372036854775807) : IntKind.i64.wrap ((n : Int).tdiv (d : Int)) = ((n / d : Nat) : Int):=by
 have h1 : (n : Int).tdiv (d : Int) = ((n / d : Nat) : Int):=by rw [Int.tdiv_eq_ediv_of_nonneg (by omega)]; rfl
 have h2 : n / d ≤ n:=Nat.div_le_self _ _;rw [h1];generalize n / d = q at *;exact wrapI rfl (by omega) (by omega)
theorem one_ok {v : SQ} (h : v.Ok) : ∀ u ∈ [v],u.Ok:=fun u hu=>by rw [List.mem_singleton.1 hu]; exact h
theorem two_ok {v v2 : SQ} (h : v.Ok) (h2 : v2.Ok) : ∀ u ∈ [v,v2],u.Ok:=fun u hu=>by
 rcases List.mem_cons.1 hu with rfl | hu
 ·exact h
 ·exact one_ok h2 u hu
theorem more_ok {v : SQ} {vs : List SQ} (h : v.Ok) (h2 : ∀ u ∈ vs,u.Ok) : ∀ u ∈ v :: vs,u.Ok:=fun u hu=>by
 rcases List.mem_cons.1 hu with rfl | hu
 ·exact h
 ·exact h2 u hu
end Go.Proofs.YtlcbhbahchiofaaGreatDoor
/-
  STEPS OF THE RING: slices of hashes, fields behind a pointer, nil pointers.
-/
namespace Go.Proofs.YtlcbhbahchiofaaGreatDoor
open Go.RowKit Go.IntWalk

def HV (w : World) (A : Option Addr) (ks : List (List UInt8)) : Prop :=
  0 < ks.length → ∃ b o,A = some ⟨b,o,none⟩ ∧ b < w.heap.size ∧ ∀ (i : Nat) l,ks[i]? = some l → l.length = 32 ∧ w.rangeAt b (o + 32 * i) (By l)
theorem rangeAt_later {w w' : World} {b o : Nat} {cs : List Value} (h : w.rangeAt b o cs) (hb : w'.heap[b]? = w.heap[b]?) : w'.rangeAt b o cs:=fun j v hj=>(World.cell?_of_block (w:=w) (w':=w') (a:=⟨b,o + j,none⟩) hb).trans (h j v hj)
theorem HV.keep {w w' : World} {A : Option Addr} {ks : List (List UInt8)} (h : HV w A ks) (hs : w.heap.size ≤ w'.heap.size) (hk : ∀ b o,A = some ⟨b,o,none⟩ → b < w.heap.size → w'.heap[b]? = w.heap[b]?) : HV w' A ks:=fun hl=>by
 obtain ⟨b,o,e,hb,hc⟩:=h hl;exact ⟨b,o,e,Nat.lt_of_lt_of_le hb hs,fun i l hi=>⟨(hc i l hi).1,rangeAt_later (hc i l hi).2 (hk b o e hb)⟩⟩
theorem HV.later {w w' : World} {A : Option Addr} {ks : List (List UInt8)} (h : HV w A ks) (hb : Below w.heap.size w w') : HV w' A ks:=h.keep hb.size fun b _ _ hlt=>hb.block b hlt
def HS (w : World) (v : Value) (ks : List (List UInt8)) : Prop:=∃ A c,v = .slice A ks.length c ∧ ks.length ≤ c ∧ c ≤ 9223372036854775807 ∧ HV w A ks
theorem HV.len {w : World} {A : Option Addr} {ks : List (List UInt8)} (h : HV w A ks) : ∀ l ∈ ks,l.length = 32:=fun l hl=>by
 obtain ⟨i,hi,rfl⟩:=List.getElem_of_mem hl;obtain ⟨b,o,_,_,hc⟩:=h (by omega);exact (hc i _ (List.getElem?_eq_getElem hi)).1
theorem HV.take {w : World} {A : Option Addr} {ks : List (List UInt8)} (h : HV w A ks) (n : Nat) : HV w A (ks.take n):=fun hl=>by
 obtain ⟨b,o,e,hb,hc⟩:=h (by simp at hl; omega);refine ⟨b,o,e,hb,fun i l hi=>hc i l ?_⟩;rw [List.getElem?_take] at hi
 split at hi
 ·exact hi
 ·cases hi
theorem ixHs (b o n c i : Nat) (h : i < n) (w : World) : (Instr.indexAt 38 (.slice (some ⟨b,o,none⟩) n c) (.int .i64 (i : Int))).run Tryz.prog w = .ok (.pointer (some ⟨b,o + 32 * i,none⟩)) w:=by
 have h3 : (i : Int) < (n : Int):=by omega
 have h4 : (0 : Int) ≤ i:=by omega
 go_simp
theorem rfld0 (g : Nat) (w : World) : (Instr.fieldAt 96 (.pointer (some ⟨g,0,none⟩)) 0).run Tryz.prog w = .ok (.pointer (some ⟨g,0,none⟩)) w:=by go_simp
theorem rfld1 (g : Nat) (w : World) : (Instr.fieldAt 96 (.pointer (some ⟨g,0,none⟩)) 1).run Tryz.prog w = .ok (.pointer (some ⟨g,1,none⟩)) w:=by go_simp
section
variable {ops : Array Oper} {C0 : World → Prop} {Q : Act → Prop} {N : Nat} {E : List (Nat × Value)} {o : Oper} {rest : List Oper} {k : Nat}
theorem f_lenH {x : Operand} (p : Option Addr) (n c : Nat) (hg : o.guard = none) (hd : o.dst = some k) (hk : Nat.blt k N = true) (ho : o.op = .call { callee:=.builtin .len,args:=#[x],argTypes:=#[38] }) (hx : ev E x = some (.slice p n c))
  (hn : bF Tryz.prog ops C0 Q rest N ((k,.int .i64 (n : Int)) :: E)) : bF Tryz.prog ops C0 Q (o :: rest) N E :=
 f_val _ hg hd hk (fun a ha w _=>by
  have h1:=ha.eval hx
  unfold execOp
  simp only [ho,resolve,invoke,builtin,Sem.run_bind,Sem.run_pure,Result.andThen_ok,List.map_toArray,List.map_cons,List.map_nil,h1]
  go_simp) hn
theorem f_loadV {x : Operand} {t : TypeId} (p : Addr) (v : Value) (ht : t = 38 ∨ t = 94) (hg : o.guard = none) (hd : o.dst = some k) (hk : Nat.blt k N = true) (ho : o.op = .load t x) (hx : ev E x = some (.pointer (some p)))
  (hc : ∀ w,C0 w → w.cell? p = some v) (hn : bF Tryz.prog ops C0 Q rest N ((k,v) :: E)) : bF Tryz.prog ops C0 Q (o :: rest) N E :=
 f_val _ hg hd hk (fun a ha w hw=>by
  have h1:=ha.eval hx;have h2:=hc w hw
  unfold execOp
  simp only [ho,h1]
  rcases ht with rfl | rfl <;> go_simp) hn
theorem f_nilc {x : Operand} (p : Addr) (hg : o.guard = none) (hd : o.dst = some k) (hk : Nat.blt k N = true) (ho : o.op = .nilCheck x) (hx : ev E x = some (.pointer (some p)))
  (hn : bF Tryz.prog ops C0 Q rest N ((k,.pointer (some p)) :: E)) : bF Tryz.prog ops C0 Q (o :: rest) N E :=
 f_val _ hg hd hk (fun a ha w _=>by
  have h1:=ha.eval hx
  unfold execOp
  simp only [ho,h1]
  go_simp) hn
theorem f_eqP {x y : Operand} {t : TypeId} (p : Option Addr) (q : Bool) (hg : o.guard = none) (hd : o.dst = some k) (hk : Nat.blt k N = true) (ho : o.op = .binOp .eql 37 x y t) (hx : ev E x = some (.pointer p)) (hy : ev E y = some (.pointer none))
  (hr : p.isNone = q) (hn : bF Tryz.prog ops C0 Q rest N ((k,.bool q) :: E)) : bF Tryz.prog ops C0 Q (o :: rest) N E :=
 f_val _ hg hd hk (fun a ha w _=>by
  have h1:=ha.eval hx;have h2:=ha.eval hy;subst hr
  unfold execOp
  simp only [ho,h1,h2]
  cases p <;> go_simp) hn
theorem f_leqI {x y : Operand} {t : TypeId} (m n : Int) (q : Bool) (hg : o.guard = none) (hd : o.dst = some k) (hk : Nat.blt k N = true) (ho : o.op = .binOp .leq 3 x y t) (hx : ev E x = some (.int .i64 m)) (hy : ev E y = some (.int .i64 n))
  (hr : decide (m ≤ n) = q) (hn : bF Tryz.prog ops C0 Q rest N ((k,.bool q) :: E)) : bF Tryz.prog ops C0 Q (o :: rest) N E :=
 f_val _ hg hd hk (fun a ha w _=>by
  have h1:=ha.eval hx;have h2:=ha.eval hy;subst hr
  unfold execOp
  simp only [ho,h1,h2]
  by_cases e : m ≤ n <;> go_simp) hn
theorem f_cutH {x y : Operand} (b' o' n c j : Nat) (hj : j ≤ n) (hc : n ≤ c) (hg : o.guard = none) (hd : o.dst = some k) (hk : Nat.blt k N = true) (ho : o.op = .slice 38 x none (some y) none) (hx : ev E x = some (.slice (some ⟨b',o',none⟩) n c)) (hy : ev E y = some (.int .i64 (j : Int)))
  (hn : bF Tryz.prog ops C0 Q rest N ((k,.slice (some ⟨b',o',none⟩) j c) :: E)) : bF Tryz.prog ops C0 Q (o :: rest) N E :=
 f_val _ hg hd hk (fun a ha w _=>by
  have h1:=ha.eval hx;have h2:=ha.eval hy
  have h3 : (j : Int) ≤ (c : Int):=by omega
  have h4 : (0 : Int) ≤ (j : Int):=by omega
  unfold execOp
  simp only [ho];generalize a.eval = ρ at *;simp only [Option.map,h1,h2]
  go_simp) hn
theorem f_strB {x : Operand} (v : Value) (l : List UInt8) (hg : o.guard = none) (hd : o.dst = some k) (hk : Nat.blt k N = true) (ho : o.op = .convert 22 9 x) (hx : ev E x = some v) (hs : ∀ w,C0 w → SB w v l)
  (hn : bF Tryz.prog ops C0 Q rest N ((k,.string ⟨l.toArray⟩) :: E)) : bF Tryz.prog ops C0 Q (o :: rest) N E :=
 f_val _ hg hd hk (fun a ha w hw=>by
  have h1:=ha.eval hx;obtain ⟨A,c,rfl,hS⟩:=hs w hw
  unfold execOp
  simp only [ho,h1]
  cases A with
  | none =>
   obtain ⟨h3,h4⟩:=hS.none_ rfl;obtain rfl:=List.eq_nil_of_length_eq_zero h3;have hr:=run_convert_bytes_nil (P:=Tryz.prog) w 22 5 Tryz.underlying22 Tryz.underlying5 0 c 9 Tryz.underlying9;simp only [Sem.run_bind,List.length_nil,hr,Result.andThen_ok,Sem.run_pure]
   rfl
  | some ad =>
   have hr:=run_convert_bytes_back (P:=Tryz.prog) w 22 9 5 ad c l Tryz.underlying22 Tryz.underlying5 Tryz.underlying9 (fun j hj=>hS.cells ad rfl j _ (by rw [By_at? hj,getElem!_pos l j hj]))
   simp only [Sem.run_bind,hr,Result.andThen_ok,Sem.run_pure]) hn
end
end Go.Proofs.YtlcbhbahchiofaaGreatDoor
/-
PLAIN NUMBERS: primes, Fermat's little theorem, Pocklington's criterion; p = 2^255 - 19 is prime. No program is imported.
PLAIN NUMBERS: the numbers modulo a prime as Fin n: no divisors of zero, powers, inverses, roots. No program is imported.
PLAIN NUMBERS: the curve -x² + y² = 1 + d x² y² modulo a prime, where -1 is a square and d is none: its sums are a group. No program is imported.
-/

namespace Nums

def Prime (p : Nat) : Prop:=1 < p ∧ ∀ m,m ∣ p → m = 1 ∨ m = p

theorem Prime.pos {p : Nat} (h : Prime p) : 0 < p:=by have:=h.1; omega

theorem Prime.coprime {p a : Nat} (h : Prime p) (ha : ¬ p ∣ a) : Nat.Coprime p a:=by
 have hd : Nat.gcd p a ∣ p:=Nat.gcd_dvd_left p a
 rcases h.2 _ hd with h1 | h1
 ·exact h1
 ·exact absurd (h1 ▸ Nat.gcd_dvd_right p a) ha

theorem Prime.dvd_mul {p a b : Nat} (h : Prime p) (hd : p ∣ a * b) : p ∣ a ∨ p ∣ b:=by
 by_cases ha : p ∣ a
 ·exact .inl ha
 ·exact .inr ((h.coprime ha).dvd_of_dvd_mul_left hd)

theorem exists_prime_dvd : ∀ (n : Nat),1 < n → ∃ r,Prime r ∧ r ∣ n:=by
 intro n
 induction n using Nat.strongRecOn with
 | ind n ih =>
  intro hn
  by_cases hp : ∃ m,m ∣ n ∧ m ≠ 1 ∧ m ≠ n
  ·obtain ⟨m,hm,h1,h2⟩:=hp
   have hle:=Nat.le_of_dvd (by omega) hm;have hpos:=Nat.pos_of_dvd_of_pos hm (by omega);obtain ⟨r,hr,hrm⟩:=ih m (by omega) (by omega);exact ⟨r,hr,Nat.dvd_trans hrm hm⟩
  ·refine ⟨n,⟨hn,fun m hm=>?_⟩,Nat.dvd_refl n⟩
   by_cases h1 : m = 1
   ·exact .inl h1
   ·by_cases h2 : m = n
    ·exact .inr h2
    ·exact absurd ⟨m,hm,h1,h2⟩ hp

theorem small_prime {n : Nat} (hn : 1 < n) (hp : ¬ Prime n) : ∃ r,Prime r ∧ r ∣ n ∧ r * r ≤ n:=by
 have : ∃ m,m ∣ n ∧ m ≠ 1 ∧ m ≠ n:=by
  by_cases h : ∃ m,m ∣ n ∧ m ≠ 1 ∧ m ≠ n
  ·exact h
  ·refine absurd ⟨hn,fun m hm=>?_⟩ hp
   by_cases h1 : m = 1
   ·exact .inl h1
   ·by_cases h2 : m = n
    ·exact .inr h2
    ·exact absurd ⟨m,hm,h1,h2⟩ h
 obtain ⟨m,⟨k,hk⟩,h1,h2⟩:=this
 have hm0 : 0 < m:=by
  rcases Nat.eq_zero_or_pos m with h | h
  ·subst h; simp at hk; omega
  ·exact h
 have hk0 : 0 < k:=by
  rcases Nat.eq_zero_or_pos k with h | h
  ·subst h; simp at hk; omega
  ·exact h
 have hk1 : k ≠ 1:=fun h=>by subst h; simp at hk; omega
 rcases Nat.le_total m k with hle | hle
 ·obtain ⟨r,hr,hrm⟩:=exists_prime_dvd m (by omega)
  have hrle:=Nat.le_of_dvd hm0 hrm;exact ⟨r,hr,Nat.dvd_trans hrm ⟨k,hk⟩,by rw [hk]; exact Nat.mul_le_mul hrle (Nat.le_trans hrle hle)⟩
 ·obtain ⟨r,hr,hrk⟩:=exists_prime_dvd k (by omega)
  have hrle:=Nat.le_of_dvd hk0 hrk;exact ⟨r,hr,Nat.dvd_trans hrk ⟨m,by rw [hk,Nat.mul_comm]⟩,by rw [hk]; exact Nat.mul_le_mul (Nat.le_trans hrle hle) hrle⟩

/-! Fermat. -/
def prod (l : List Nat) : Nat:=l.foldr (· * ·) 1
theorem prod_cons (a : Nat) (l : List Nat) : prod (a :: l) = a * prod l:=rfl
theorem prod_perm {l1 l2 : List Nat} (h : l1.Perm l2) : prod l1 = prod l2:=by
 induction h with
 | nil=>rfl
 | cons x _ ih=>rw [prod_cons,prod_cons,ih]
 | swap x y l=>rw [prod_cons,prod_cons,prod_cons,prod_cons,← Nat.mul_assoc,← Nat.mul_assoc,Nat.mul_comm x y]
 | trans _ _ ih1 ih2=>rw [ih1,ih2]

theorem perm_of : ∀ {l1 l2 : List Nat},l1.Nodup → (∀ x ∈ l1,x ∈ l2) → l2.length ≤ l1.length → l1.Perm l2
 | [],l2,_,_,hl=>by
  have : l2 = []:=List.eq_nil_of_length_eq_zero (by simpa using hl);subst this;exact List.Perm.refl _
 | x :: l1,l2,hn,hs,hl=>by
  have hx : x ∈ l2:=hs x (by simp);have hp:=List.perm_cons_erase hx;obtain ⟨hx1,hn1⟩:=List.nodup_cons.1 hn
  have h1 : l1.Perm (l2.erase x):=perm_of hn1 (fun y hy=>(List.mem_erase_of_ne (fun (e : y = x)=>hx1 (e ▸ hy))).2 (hs y (by simp [hy]))) (by
   rw [List.length_erase_of_mem hx]
   simp at hl
   omega)
  exact (List.Perm.cons x h1).trans hp.symm

theorem prod_map_mod (a r : Nat) : ∀ (l : List Nat),prod (l.map fun i=>a * i % r) % r = a ^ l.length * prod l % r
 | []=>by simp [prod]
 | i :: l=>by
  rw [List.map_cons,prod_cons,prod_cons,List.length_cons,Nat.mul_mod,prod_map_mod a r l,Nat.mod_mod,← Nat.mul_mod,Nat.pow_succ]
  congr 1
  rw [Nat.mul_assoc,Nat.mul_assoc];rw [Nat.mul_left_comm i,← Nat.mul_assoc a (a ^ l.length),Nat.mul_comm a (a ^ l.length),Nat.mul_assoc]

theorem coprime_prod {r : Nat} (hr : Prime r) : ∀ (l : List Nat),(∀ x ∈ l,¬ r ∣ x) → ¬ r ∣ prod l
 | [],_,h=>by
  have:=Nat.le_of_dvd (by simp [prod]) h
  simp [prod] at this
  have:=hr.1
  omega
 | x :: l,hl,h=>by
  rw [prod_cons] at h
  rcases hr.dvd_mul h with h1 | h1
  ·exact hl x (by simp) h1
  ·exact coprime_prod hr l (fun y hy=>hl y (by simp [hy])) h1

theorem mod_cancel {r a b c : Nat} (hr : Prime r) (hc : ¬ r ∣ c) (h : a * c % r = b * c % r) : a % r = b % r:=by
 have key : ∀ {x y : Nat},y ≤ x → x * c % r = y * c % r → x % r = y % r:=fun {x y} hle h=>by
  have h1 : r ∣ x * c - y * c:=Nat.dvd_of_mod_eq_zero (Nat.sub_mod_eq_zero_of_mod_eq h);rw [← Nat.sub_mul] at h1
  rcases hr.dvd_mul h1 with ⟨t,ht⟩ | h2
  ·have : x = y + r * t:=by omega
   rw [this,Nat.add_mul_mod_self_left]
  ·exact absurd h2 hc
 rcases Nat.le_total b a with hle | hle
 ·exact key hle h
 ·exact (key hle h.symm).symm

theorem nodup_map {f : Nat → Nat} : ∀ {l : List Nat},l.Nodup → (∀ x ∈ l,∀ y ∈ l,f x = f y → x = y) → (l.map f).Nodup
 | [],_,_=>by simp
 | a :: l,hn,hi=>by
  obtain ⟨h1,h2⟩:=List.nodup_cons.1 hn;rw [List.map_cons,List.nodup_cons];refine ⟨fun h=>?_,nodup_map h2 (fun x hx y hy=>hi x (by simp [hx]) y (by simp [hy]))⟩;obtain ⟨b,hb,e⟩:=List.mem_map.1 h;have:=hi b (by simp [hb]) a (by simp) e;subst this;exact h1 hb

theorem fermat {r a : Nat} (hr : Prime r) (ha : ¬ r ∣ a) : a ^ (r - 1) % r = 1:=by
 have hr1:=hr.1
 have hnd : ∀ i ∈ List.range' 1 (r - 1),¬ r ∣ i:=fun i hi hd=>by
  have hi':=List.mem_range'_1.1 hi;have:=Nat.le_of_dvd (by omega) hd
  omega
 have hperm : ((List.range' 1 (r - 1)).map fun i=>a * i % r).Perm (List.range' 1 (r - 1)):=by
  refine perm_of ?_ ?_ (by simp)
  ·refine nodup_map List.nodup_range' fun x hx y hy h=>?_
   have hx':=List.mem_range'_1.1 hx;have hy':=List.mem_range'_1.1 hy;rw [Nat.mul_comm a x,Nat.mul_comm a y] at h;have:=mod_cancel hr ha h
   rwa [Nat.mod_eq_of_lt (by omega),Nat.mod_eq_of_lt (by omega)] at this
  ·intro x hx
   obtain ⟨i,hi,rfl⟩:=List.mem_map.1 hx;have hlt : a * i % r < r:=Nat.mod_lt _ hr.pos
   have hne : a * i % r ≠ 0:=fun h0=>by
    rcases hr.dvd_mul (Nat.dvd_of_mod_eq_zero h0) with h1 | h1
    ·exact ha h1
    ·exact hnd i hi h1
   exact List.mem_range'_1.2 ⟨by omega,by omega⟩
 have h1:=prod_map_mod a r (List.range' 1 (r - 1));rw [prod_perm hperm,List.length_range'] at h1
 have h2 : 1 * prod (List.range' 1 (r - 1)) % r = a ^ (r - 1) * prod (List.range' 1 (r - 1)) % r:=by rw [Nat.one_mul]; exact h1
 have h3:=mod_cancel hr (coprime_prod hr _ hnd) h2;rw [← h3,Nat.mod_eq_of_lt hr1]

/-! Powers modulo a number, reckoned. -/
def pm (n a : Nat) : Nat → Nat → Nat
  | 0,_=>1 % n
  | k + 1,e=>if e % 2 = 1 then pm n a k (e / 2) * pm n a k (e / 2) % n * a % n else pm n a k (e / 2) * pm n a k (e / 2) % n

theorem pm_eq (n a : Nat) : ∀ (k e : Nat),e < 2 ^ k → pm n a k e = a ^ e % n
 | 0,e,h=>by
  have : e = 0:=by simpa using h
  subst this
  simp [pm]
 | k + 1,e,h=>by
  have h1 : e / 2 < 2 ^ k:=by rw [Nat.pow_succ] at h; omega
  have ih:=pm_eq n a k (e / 2) h1
  unfold pm
  rw [ih]
  have e2 : a ^ (e / 2) % n * (a ^ (e / 2) % n) % n = a ^ (2 * (e / 2)) % n:=by
   rw [← Nat.mul_mod,← Nat.pow_add]
   congr 2
   omega
  rw [e2]
  split
  ·rw [Nat.mod_mul_mod,← Nat.pow_succ]
   congr 2
   omega
  ·congr 2
   omega

theorem pow_gcd {r a : Nat} (hr : 1 < r) : ∀ (m n : Nat),a ^ m % r = 1 → a ^ n % r = 1 → a ^ Nat.gcd m n % r = 1:=by
 intro m n
 induction m,n using Nat.gcd.induction with
 | H0 n=>intro _ h; simpa using h
 | H1 m n hm ih =>
  intro h1 h2
  rw [Nat.gcd_rec];refine ih ?_ h1
  have e : a ^ n = (a ^ m) ^ (n / m) * a ^ (n % m):=by
   rw [← Nat.pow_mul,← Nat.pow_add,Nat.div_add_mod]
  have h3 : (a ^ m) ^ (n / m) % r = 1:=by
   rw [Nat.pow_mod,h1,Nat.one_pow,Nat.mod_eq_of_lt hr]
  rw [e,Nat.mul_mod,h3,Nat.one_mul,Nat.mod_mod] at h2;exact h2

theorem pock_one {n q a m r : Nat} (hq : Prime q) (hn : n - 1 = q * m) (hn1 : 1 < n) (h1 : a ^ (n - 1) % n = 1) (g1 : Nat.gcd (a ^ m % n + n - 1) n = 1) (hr : Prime r) (hrn : r ∣ n) : q ∣ r - 1:=by
 have hr1:=hr.1;have hmod : ∀ x,x % n % r = x % r:=fun x=>Nat.mod_mod_of_dvd x hrn
 have h1r : a ^ (n - 1) % r = 1:=by rw [← hmod,h1,Nat.mod_eq_of_lt hr1]
 have hra : ¬ r ∣ a:=fun hd=>by
  have h0 : a ^ (n - 1) % r = 0:=by
   refine Nat.mod_eq_zero_of_dvd (Nat.dvd_trans hd ?_);exact ⟨a ^ (n - 2),by rw [← Nat.pow_succ']; congr 1; omega⟩
  omega
 by_cases hqr : q ∣ r - 1
 ·exact hqr
 ·have hf:=fermat hr hra
  have hg:=pow_gcd hr1 (n - 1) (r - 1) h1r hf
  have hcop : Nat.Coprime (Nat.gcd (n - 1) (r - 1)) q:=by
   have:=hq.coprime (a:=Nat.gcd (n - 1) (r - 1)) (fun hd=>hqr (Nat.dvd_trans hd (Nat.gcd_dvd_right _ _)));exact this.symm
  have hdm : Nat.gcd (n - 1) (r - 1) ∣ m:=by
   have : Nat.gcd (n - 1) (r - 1) ∣ q * m:=hn ▸ Nat.gcd_dvd_left (n - 1) (r - 1);exact hcop.dvd_of_dvd_mul_left this
  obtain ⟨t,ht⟩:=hdm
  have hm : a ^ m % r = 1:=by
   rw [ht,Nat.pow_mul,Nat.pow_mod,hg,Nat.one_pow,Nat.mod_eq_of_lt hr1]
  exfalso
  have hlt : a ^ m % n < n:=Nat.mod_lt _ (by omega)
  have hd : r ∣ a ^ m % n + n - 1:=by
   have e1 : a ^ m % n % r = 1:=by rw [hmod]; exact hm
   have e2 : 1 ≤ a ^ m % n:=by
    rcases Nat.eq_zero_or_pos (a ^ m % n) with h0 | h0
    ·rw [h0] at e1; simp at e1
    ·exact h0
   have e3 : r ∣ a ^ m % n - 1:=Nat.dvd_of_mod_eq_zero (by
    have:=Nat.sub_mod_eq_zero_of_mod_eq (m:=a ^ m % n) (n:=1) (k:=r) (by rw [e1,Nat.mod_eq_of_lt hr1])
    exact this)
   have e4 : a ^ m % n + n - 1 = (a ^ m % n - 1) + n:=by omega
   rw [e4];exact Nat.dvd_add e3 hrn
  have:=Nat.dvd_gcd hd hrn;rw [g1] at this;have:=Nat.le_of_dvd (by omega) this
  omega

theorem pocklington {n q1 q2 m1 m2 a : Nat} (hq1 : Prime q1) (hq2 : Prime q2) (hne : q1 ≠ q2) (hn1 : 1 < n) (hm1 : n - 1 = q1 * m1) (hm2 : n - 1 = q2 * m2) (hsz : n < (q1 * q2 + 1) * (q1 * q2 + 1))
  (h1 : a ^ (n - 1) % n = 1) (g1 : Nat.gcd (a ^ m1 % n + n - 1) n = 1) (g2 : Nat.gcd (a ^ m2 % n + n - 1) n = 1) : Prime n:=by
 by_cases hp : Prime n
 ·exact hp
 ·exfalso
  obtain ⟨r,hr,hrn,hrr⟩:=small_prime hn1 hp;have d1:=pock_one hq1 hm1 hn1 h1 g1 hr hrn;have d2:=pock_one hq2 hm2 hn1 h1 g2 hr hrn
  have hcop : Nat.Coprime q1 q2:=hq1.coprime (fun hd=>by
   rcases hq2.2 _ hd with h | h
   ·have:=hq1.1; omega
   ·exact hne h)
  have hd : q1 * q2 ∣ r - 1:=hcop.mul_dvd_of_dvd_of_dvd d1 d2;have hr1:=hr.1;have hle:=Nat.le_of_dvd (by omega) hd
  have h2 : q1 * q2 + 1 ≤ r:=by omega
  have:=Nat.mul_le_mul h2 h2
  omega

def pockB (n q1 q2 a k : Nat) : Bool :=
  decide (1 < n) && decide (n - 1 = q1 * ((n - 1) / q1)) && decide (n - 1 = q2 * ((n - 1) / q2)) && decide (n < (q1 * q2 + 1) * (q1 * q2 + 1)) && decide (q1 ≠ q2) && decide (n < 2 ^ k) &&
  (pm n a k (n - 1) == 1) && (Nat.gcd (pm n a k ((n - 1) / q1) + n - 1) n == 1) && (Nat.gcd (pm n a k ((n - 1) / q2) + n - 1) n == 1)

theorem prime_of {n q1 q2 a k : Nat} (hq1 : Prime q1) (hq2 : Prime q2) (h : pockB n q1 q2 a k = true) : Prime n:=by
 simp only [pockB,Bool.and_eq_true,decide_eq_true_eq,beq_iff_eq] at h;obtain ⟨⟨⟨⟨⟨⟨⟨⟨h1,h2⟩,h3⟩,h4⟩,h5⟩,h6⟩,h7⟩,h8⟩,h9⟩:=h;have hd1 : (n - 1) / q1 ≤ n - 1:=Nat.div_le_self _ _;have hd2 : (n - 1) / q2 ≤ n - 1:=Nat.div_le_self _ _;rw [pm_eq n a k _ (by omega)] at h7 h8 h9;exact pocklington hq1 hq2 h5 h1 h2 h3 h4 h7 h8 h9

def trial (n : Nat) : Nat → Bool
  | 0=>true
  | k + 1=>trial n k && (decide (k < 2) || decide (n % k ≠ 0))
theorem trial_get {n : Nat} : ∀ {k m : Nat},trial n k = true → 2 ≤ m → m < k → ¬ m ∣ n
 | k + 1,m,h,h2,hm,hd=>by
  simp only [trial,Bool.and_eq_true,Bool.or_eq_true,decide_eq_true_eq] at h
  by_cases e : m = k
  ·subst e
   rcases h.2 with h3 | h3
   ·omega
   ·exact h3 (Nat.mod_eq_zero_of_dvd hd)
  ·exact trial_get h.1 h2 (by omega) hd
theorem prime_trial {n k : Nat} (hn : 1 < n) (hk : n < k * k) (h : trial n k = true) : Prime n:=by
 by_cases hp : Prime n
 ·exact hp
 ·exfalso
  obtain ⟨r,hr,hrn,hrr⟩:=small_prime hn hp;have hr1:=hr.1
  have : r < k:=by
   rcases Nat.lt_or_ge r k with h1 | h1
   ·exact h1
   ·have:=Nat.mul_le_mul h1 h1; omega
  exact trial_get h (by omega) this hrn

theorem prime_127 : Prime 127:=prime_trial (k:=12) (by decide) (by decide) (by decide +kernel)
theorem prime_8574133 : Prime 8574133:=prime_trial (k:=2929) (by decide) (by decide +kernel) (by decide +kernel)
theorem prime_75707 : Prime 75707:=prime_trial (k:=276) (by decide) (by decide +kernel) (by decide +kernel)
theorem prime_65147 : Prime 65147:=prime_trial (k:=256) (by decide) (by decide +kernel) (by decide +kernel)
theorem prime_1923133 : Prime 1923133:=prime_trial (k:=1387) (by decide) (by decide +kernel) (by decide +kernel)
theorem prime_a : Prime 1919519569386763:=prime_of (q1:=8574133) (q2:=127) (a:=2) (k:=51) prime_8574133 prime_127 (by decide +kernel)
theorem prime_b : Prime 75445702479781427272750846543864801:=prime_of (q1:=1919519569386763) (q2:=75707) (a:=7) (k:=116) prime_a prime_75707 (by decide +kernel)
theorem prime_c : Prime 74058212732561358302231226437062788676166966415465897661863160754340907:=prime_of (q1:=75445702479781427272750846543864801) (q2:=1923133) (a:=2) (k:=236) prime_b prime_1923133 (by decide +kernel)

def p : Nat:=57896044618658097711785492504343953926634992332820282019728792003956564819949
theorem prime_p : Prime p:=prime_of (q1:=74058212732561358302231226437062788676166966415465897661863160754340907) (q2:=65147) (a:=2) (k:=255) prime_c prime_65147 (by decide +kernel)

end Nums

namespace Nums
section
variable {n : Nat} [NeZero n]

omit [NeZero n] in
theorem val_mul (a b : Fin n) : (a * b).val = a.val * b.val % n:=rfl
theorem val_zero : ((0 : Fin n)).val = 0:=by simp
theorem val_one (hn : Prime n) : ((1 : Fin n)).val = 1:=by
 show 1 % n = 1
 exact Nat.mod_eq_of_lt hn.1

theorem ne_one (hn : Prime n) : (0 : Fin n) ≠ 1:=by
 intro h
 have:=congrArg Fin.val h;rw [val_one hn,val_zero] at this
 omega

theorem zero_or (hn : Prime n) {a b : Fin n} (h : a * b = 0) : a = 0 ∨ b = 0:=by
 have h1 : a.val * b.val % n = 0:=by rw [← val_mul,h]; exact val_zero
 have z : ∀ c : Fin n,n ∣ c.val → c = 0:=fun c hc=>by
  apply Fin.ext
  rw [val_zero];exact Nat.eq_zero_of_dvd_of_lt hc c.isLt
 rcases hn.dvd_mul (Nat.dvd_of_mod_eq_zero h1) with h2 | h2
 ·exact .inl (z a h2)
 ·exact .inr (z b h2)

theorem mul_ne (hn : Prime n) {a b : Fin n} (ha : a ≠ 0) (hb : b ≠ 0) : a * b ≠ 0:=fun h=>by
 rcases zero_or hn h with h | h
 ·exact ha h
 ·exact hb h

def fpow (a : Fin n) : Nat → Fin n
  | 0=>1
  | k + 1=>fpow a k * a

theorem fpow_zero (a : Fin n) : fpow a 0 = 1:=rfl
theorem fpow_succ (a : Fin n) (k : Nat) : fpow a (k + 1) = fpow a k * a:=rfl
theorem fpow_add (a : Fin n) (j k : Nat) : fpow a (j + k) = fpow a j * fpow a k:=by
 induction k with
 | zero=>rw [Nat.add_zero,fpow_zero]; grind
 | succ k ih=>rw [Nat.add_succ,fpow_succ,fpow_succ,ih]; grind
theorem fpow_one (a : Fin n) : fpow a 1 = a:=by rw [fpow_succ,fpow_zero]; grind
theorem one_fpow (k : Nat) : fpow (1 : Fin n) k = 1:=by
 induction k with
 | zero=>rfl
 | succ k ih=>rw [fpow_succ,ih]; grind
theorem fpow_mul (a : Fin n) (j k : Nat) : fpow a (j * k) = fpow (fpow a j) k:=by
 induction k with
 | zero=>rfl
 | succ k ih=>rw [Nat.mul_succ,fpow_add,fpow_succ,ih]
theorem mul_fpow (a b : Fin n) (k : Nat) : fpow (a * b) k = fpow a k * fpow b k:=by
 induction k with
 | zero=>rw [fpow_zero,fpow_zero,fpow_zero]; grind
 | succ k ih=>rw [fpow_succ,fpow_succ,fpow_succ,ih]; grind
theorem fpow_val (hn : Prime n) (a : Fin n) (k : Nat) : (fpow a k).val = a.val ^ k % n:=by
 induction k with
 | zero=>rw [fpow_zero,val_one hn,Nat.pow_zero,Nat.mod_eq_of_lt hn.1]
 | succ k ih=>rw [fpow_succ,val_mul,ih,Nat.pow_succ,Nat.mod_mul_mod]

theorem fpow_fermat (hn : Prime n) {a : Fin n} (ha : a ≠ 0) : fpow a (n - 1) = 1:=by
 apply Fin.ext
 rw [fpow_val hn,val_one hn]
 apply fermat hn
 intro hd
 apply ha
 apply Fin.ext
 rw [val_zero];exact Nat.eq_zero_of_dvd_of_lt hd a.isLt

def finv (a : Fin n) : Fin n:=fpow a (n - 2)

theorem mul_finv (hn : Prime n) {a : Fin n} (ha : a ≠ 0) : a * finv a = 1:=by
 have h:=fpow_fermat hn ha
 have h2 : n - 1 = (n - 2) + 1:=by have:=hn.1; omega
 rw [h2,fpow_succ] at h
 unfold finv
 rw [← h]; grind

theorem cancel (hn : Prime n) {a b c : Fin n} (hc : c ≠ 0) (h : a * c = b * c) : a = b:=by
 have h1:=mul_finv hn hc
 have : a * c * finv c = b * c * finv c:=by rw [h]
 grind

theorem finv_of (hn : Prime n) {a b : Fin n} (h : a * b = 1) : finv a = b:=by
 have ha : a ≠ 0:=by
  rintro rfl
  exact ne_one hn (by rw [← h]; grind)
 apply cancel hn ha
 have:=mul_finv hn ha
 grind

theorem root_or (hn : Prime n) {a b : Fin n} (h : a * a = b * b) : a = b ∨ a = -b:=by
 have : (a - b) * (a + b) = 0:=by grind
 rcases zero_or hn this with h | h
 ·left; grind
 ·right; grind

end
end Nums

namespace Nums

theorem Ed.closed {n : Nat} [NeZero n] (x1 y1 x2 y2 d : Fin n) (h1 : y1*y1 - x1*x1 = 1 + d*x1*x1*y1*y1) (h2 : y2*y2 - x2*x2 = 1 + d*x2*x2*y2*y2) :
  (y1*y2+x1*x2)*(y1*y2+x1*x2)*(1+d*x1*x2*y1*y2)*(1+d*x1*x2*y1*y2) - (x1*y2+y1*x2)*(x1*y2+y1*x2)*(1-d*x1*x2*y1*y2)*(1-d*x1*x2*y1*y2)
   = (1+d*x1*x2*y1*y2)*(1+d*x1*x2*y1*y2)*(1-d*x1*x2*y1*y2)*(1-d*x1*x2*y1*y2) + d*(y1*y2+x1*x2)*(y1*y2+x1*x2)*(x1*y2+y1*x2)*(x1*y2+y1*x2):=by grind

set_option maxHeartbeats 4000000 in
theorem Ed.assoc_x {n : Nat} [NeZero n] (x1 y1 x2 y2 x3 y3 d : Fin n) (h1 : y1*y1 - x1*x1 = 1 + d*x1*x1*y1*y1) (h2 : y2*y2 - x2*x2 = 1 + d*x2*x2*y2*y2) (h3 : y3*y3 - x3*x3 = 1 + d*x3*x3*y3*y3) :
 ((x1*y2+y1*x2)*(1-d*x1*x2*y1*y2)*y3 + (y1*y2+x1*x2)*(1+d*x1*x2*y1*y2)*x3) * ((1+d*x2*x3*y2*y3)*(1-d*x2*x3*y2*y3) + d*x1*y1*(x2*y3+y2*x3)*(y2*y3+x2*x3))
 = (x1*(y2*y3+x2*x3)*(1+d*x2*x3*y2*y3) + y1*(x2*y3+y2*x3)*(1-d*x2*x3*y2*y3)) * ((1+d*x1*x2*y1*y2)*(1-d*x1*x2*y1*y2) + d*(x1*y2+y1*x2)*(y1*y2+x1*x2)*x3*y3):=by grind

set_option maxHeartbeats 4000000 in
theorem Ed.assoc_y {n : Nat} [NeZero n] (x1 y1 x2 y2 x3 y3 d : Fin n) (h1 : y1*y1 - x1*x1 = 1 + d*x1*x1*y1*y1) (h2 : y2*y2 - x2*x2 = 1 + d*x2*x2*y2*y2) (h3 : y3*y3 - x3*x3 = 1 + d*x3*x3*y3*y3) :
 ((y1*y2+x1*x2)*(1+d*x1*x2*y1*y2)*y3 + (x1*y2+y1*x2)*(1-d*x1*x2*y1*y2)*x3) * ((1+d*x2*x3*y2*y3)*(1-d*x2*x3*y2*y3) - d*x1*y1*(x2*y3+y2*x3)*(y2*y3+x2*x3))
 = (y1*(y2*y3+x2*x3)*(1+d*x2*x3*y2*y3) + x1*(x2*y3+y2*x3)*(1-d*x2*x3*y2*y3)) * ((1+d*x1*x2*y1*y2)*(1-d*x1*x2*y1*y2) - d*(x1*y2+y1*x2)*(y1*y2+x1*x2)*x3*y3):=by grind

theorem Ed.key {n : Nat} [NeZero n] {X1 Y1 X2 Y2 D e s : Fin n} (h1 : X1*X1 + Y1*Y1 = 1 + D*X1*X1*Y1*Y1) (h2 : X2*X2 + Y2*Y2 = 1 + D*X2*X2*Y2*Y2) (h : D*X1*X2*Y1*Y2 = e) (he : e * e = 1) (hs : s * s = 1) :
  (X1 + s*e*Y1) * (X1 + s*e*Y1) = D * ((X1*Y1*(X2+s*Y2)) * (X1*Y1*(X2+s*Y2))):=by
 have l : (X1 + s*e*Y1) * (X1 + s*e*Y1) = X1*X1 + (s*s)*(e*e)*(Y1*Y1) + 2*s*e*X1*Y1:=by grind only
 have r : D * ((X1*Y1*(X2+s*Y2)) * (X1*Y1*(X2+s*Y2))) = D*X1*X1*Y1*Y1*(X2*X2 + (s*s)*(Y2*Y2)) + 2*s*(D*X1*X2*Y1*Y2)*X1*Y1:=by grind only
 rw [l,r,hs,he,h]
 have e1 : (1 : Fin n) * 1 * (Y1*Y1) = Y1 * Y1:=by grind only
 have e2 : (1 : Fin n) * (Y2*Y2) = Y2 * Y2:=by grind only
 have e3 : D*X1*X1*Y1*Y1*(1 + D*X2*X2*Y2*Y2) = D*X1*X1*Y1*Y1 + (D*X1*X2*Y1*Y2) * (D*X1*X2*Y1*Y2):=by grind only
 rw [e1,e2,h1,h2,e3,h,he]
 grind only

section
variable {n : Nat} [NeZero n]

structure Ed.Pt (n : Nat) where
  x : Fin n
  y : Fin n

structure Ed.Good (n : Nat) [NeZero n] (d : Fin n) : Prop where
  pr : Prime n
  two : (2 : Fin n) ≠ 0
  i : ∃ i : Fin n,i * i = -1
  d : ∀ t : Fin n,t * t ≠ d

namespace Ed
variable {d : Fin n}

def On (d : Fin n) (P : Pt n) : Prop:=P.y*P.y - P.x*P.x = 1 + d*P.x*P.x*P.y*P.y

theorem complete (g : Good n d) {x1 y1 x2 y2 e : Fin n} (h1 : y1*y1 - x1*x1 = 1 + d*x1*x1*y1*y1) (h2 : y2*y2 - x2*x2 = 1 + d*x2*x2*y2*y2) (he : e * e = 1) :
  d*x1*x2*y1*y2 ≠ e:=by
 intro h
 obtain ⟨i,hi⟩:=g.i
 have e0 : e ≠ 0:=by rintro rfl; exact ne_one g.pr (by grind only)
 have hx1 : x1 ≠ 0:=by rintro rfl; exact e0 (by grind only)
 have hy1 : y1 ≠ 0:=by rintro rfl; exact e0 (by grind only)
 have hx2 : x2 ≠ 0:=by rintro rfl; exact e0 (by grind only)
 have hi0 : i ≠ 0:=by
  rintro rfl
  exact ne_one g.pr (by grind only)
 have g1 : (i*x1)*(i*x1) + y1*y1 = 1 + (-d)*(i*x1)*(i*x1)*y1*y1:=by
  have a : (i*x1)*(i*x1) + y1*y1 = (i*i)*(x1*x1) + y1*y1:=by grind only
  have b : 1 + (-d)*(i*x1)*(i*x1)*y1*y1 = 1 + (-d)*(i*i)*(x1*x1)*y1*y1:=by grind only
  rw [a,b,hi]
  grind only
 have g2 : (i*x2)*(i*x2) + y2*y2 = 1 + (-d)*(i*x2)*(i*x2)*y2*y2:=by
  have a : (i*x2)*(i*x2) + y2*y2 = (i*i)*(x2*x2) + y2*y2:=by grind only
  have b : 1 + (-d)*(i*x2)*(i*x2)*y2*y2 = 1 + (-d)*(i*i)*(x2*x2)*y2*y2:=by grind only
  rw [a,b,hi]
  grind only
 have g3 : (-d)*(i*x1)*(i*x2)*y1*y2 = e:=by
  have a : (-d)*(i*x1)*(i*x2)*y1*y2 = (-d)*(i*i)*x1*x2*y1*y2:=by grind only
  rw [a,hi,← h]
  grind only
 have key : ∀ s : Fin n,s * s = 1 → i*x2 + s*y2 = 0:=by
  intro s hs
  by_cases hz : i*x2 + s*y2 = 0
  ·exact hz
  exfalso
  have hw : i*x1*y1*(i*x2+s*y2) ≠ 0:=mul_ne g.pr (mul_ne g.pr (mul_ne g.pr hi0 hx1) hy1) hz;have hm:=mul_finv g.pr hw;have hk:=Ed.key g1 g2 g3 he hs;generalize i*x1*y1*(i*x2+s*y2) = w at hm hk;generalize i*x1 + s*e*y1 = v at hk;refine g.d (i * (v * finv w)) ?_
  have a : i * (v * finv w) * (i * (v * finv w)) = (i*i)*(v*v)*(finv w)*(finv w):=by grind only
  have b : (-1) * ((-d) * (w*w)) * finv w * finv w = d * (w * finv w) * (w * finv w):=by grind only
  rw [a,hi,hk,b,hm]
  grind only
 have k1:=key 1 (by grind only);have k2:=key (-1) (by grind only)
 have : (2 : Fin n) * (i * x2) = 0:=by grind only
 rcases zero_or g.pr this with h3 | h3
 ·exact g.two h3
 ·exact mul_ne g.pr hi0 hx2 h3

end Ed
end
end Nums
/-
PLAIN NUMBERS: the sums of the curve's points are a group; multiples. No program is imported.
PLAIN NUMBERS: multiples of the curve's points; the sum in coordinates over one z. No program is imported.
PLAIN NUMBERS: p = 2^255 - 19: which numbers are squares, and their roots; the curve's d. No program is imported.
-/
namespace Nums
namespace Ed
variable {n : Nat} [NeZero n] {d : Fin n}

def kk (d : Fin n) (P Q : Pt n) : Fin n:=d * P.x * Q.x * P.y * Q.y

theorem plus_ne (g : Good n d) {P Q : Pt n} (hP : On d P) (hQ : On d Q) : 1 + kk d P Q ≠ 0:=fun h =>
 complete g hP hQ (e := -1) (by grind only) (by unfold kk at h; grind only)

theorem minus_ne (g : Good n d) {P Q : Pt n} (hP : On d P) (hQ : On d Q) : 1 - kk d P Q ≠ 0:=fun h =>
 complete g hP hQ (e:=1) (by grind only) (by unfold kk at h; grind only)

def add (d : Fin n) (P Q : Pt n) : Pt n :=
  ⟨(P.x*Q.y + P.y*Q.x) * finv (1 + kk d P Q),(P.y*Q.y + P.x*Q.x) * finv (1 - kk d P Q)⟩

def zero : Pt n:=⟨0,1⟩
def neg (P : Pt n) : Pt n:=⟨-P.x,P.y⟩

theorem on_zero : On d (zero : Pt n):=by
 show (1 : Fin n) * 1 - 0 * 0 = 1 + d * 0 * 0 * 1 * 1
 grind only

theorem on_neg {P : Pt n} (h : On d P) : On d (neg P):=by
 unfold On neg at *
 show P.y * P.y - -P.x * -P.x = 1 + d * -P.x * -P.x * P.y * P.y
 grind only

theorem add_x (g : Good n d) {P Q : Pt n} (hP : On d P) (hQ : On d Q) : (add d P Q).x * (1 + kk d P Q) = P.x*Q.y + P.y*Q.x:=by
 have:=mul_finv g.pr (plus_ne g hP hQ)
 show (P.x*Q.y + P.y*Q.x) * finv (1 + kk d P Q) * (1 + kk d P Q) = _
 generalize finv (1 + kk d P Q) = u at *;generalize 1 + kk d P Q = v at *
 have a : (P.x*Q.y + P.y*Q.x) * u * v = (P.x*Q.y + P.y*Q.x) * (v * u):=by grind only
 rw [a,this]
 grind only

theorem add_y (g : Good n d) {P Q : Pt n} (hP : On d P) (hQ : On d Q) : (add d P Q).y * (1 - kk d P Q) = P.y*Q.y + P.x*Q.x:=by
 have:=mul_finv g.pr (minus_ne g hP hQ)
 show (P.y*Q.y + P.x*Q.x) * finv (1 - kk d P Q) * (1 - kk d P Q) = _
 generalize finv (1 - kk d P Q) = u at *;generalize 1 - kk d P Q = v at *
 have a : (P.y*Q.y + P.x*Q.x) * u * v = (P.y*Q.y + P.x*Q.x) * (v * u):=by grind only
 rw [a,this]
 grind only

theorem on_add (g : Good n d) {P Q : Pt n} (hP : On d P) (hQ : On d Q) : On d (add d P Q):=by
 have hx:=add_x g hP hQ;have hy:=add_y g hP hQ;have h1:=plus_ne g hP hQ;have h2:=minus_ne g hP hQ;have c:=closed P.x P.y Q.x Q.y d hP hQ;have k1 : (1 : Fin n) + d*P.x*Q.x*P.y*Q.y = 1 + kk d P Q:=rfl;have k2 : (1 : Fin n) - d*P.x*Q.x*P.y*Q.y = 1 - kk d P Q:=rfl;rw [k1,k2] at c
 show (add d P Q).y * (add d P Q).y - (add d P Q).x * (add d P Q).x = 1 + d * (add d P Q).x * (add d P Q).x * (add d P Q).y * (add d P Q).y
 rw [← hx,← hy] at c;generalize (add d P Q).x = x at *;generalize (add d P Q).y = y at *;generalize 1 + kk d P Q = u at *;generalize 1 - kk d P Q = v at *
 apply cancel g.pr (mul_ne g.pr (mul_ne g.pr h1 h1) (mul_ne g.pr h2 h2))
 clear hP hQ hx hy
 grind only

theorem add_comm (P Q : Pt n) : add d P Q = add d Q P:=by
 unfold add kk
 have a : d * P.x * Q.x * P.y * Q.y = d * Q.x * P.x * Q.y * P.y:=by grind only
 have b : P.x*Q.y + P.y*Q.x = Q.x*P.y + Q.y*P.x:=by grind only
 have c : P.y*Q.y + P.x*Q.x = Q.y*P.y + Q.x*P.x:=by grind only
 rw [a,b,c]

theorem zero_add (g : Good n d) (P : Pt n) : add d zero P = P:=by
 unfold add kk zero
 have a : d * 0 * P.x * 1 * P.y = 0:=by grind only
 have f1 : finv (1 + 0 : Fin n) = 1:=finv_of g.pr (by grind only);have f2 : finv (1 - 0 : Fin n) = 1:=finv_of g.pr (by grind only)
 show Pt.mk ((0 * P.y + 1 * P.x) * finv (1 + d * 0 * P.x * 1 * P.y)) ((1 * P.y + 0 * P.x) * finv (1 - d * 0 * P.x * 1 * P.y)) = P
 rw [a,f1,f2]
 have b : (0 * P.y + 1 * P.x) * 1 = P.x:=by grind only
 have c : (1 * P.y + 0 * P.x) * 1 = P.y:=by grind only
 rw [b,c]

theorem add_zero (g : Good n d) (P : Pt n) : add d P zero = P:=by rw [add_comm,zero_add g]

theorem add_neg (g : Good n d) {P : Pt n} (hP : On d P) : add d P (neg P) = zero:=by
 have hm:=minus_ne g hP (on_neg hP);have:=mul_finv g.pr hm
 unfold add zero
 have a : (P.x * (neg P).y + P.y * (neg P).x) = 0:=by show P.x * P.y + P.y * -P.x = 0; grind only
 have b : P.y * (neg P).y + P.x * (neg P).x = 1 - kk d P (neg P):=by
  show P.y * P.y + P.x * -P.x = 1 - d * P.x * -P.x * P.y * P.y
  unfold On at hP
  grind only
 rw [a,b,this]
 have c : 0 * finv (1 + kk d P (neg P)) = 0:=by grind only
 rw [c]

theorem re_xl (sx sy rx ry px py tx ty a b e f d : Fin n) : (sx * a * b * ry + sy * b * a * rx) * (e * f + d * px * py * (tx * e) * (ty * f))
   = (a * b * e * f) * ((sx * ry + sy * rx) * (1 + d * px * tx * py * ty)):=by grind only
theorem re_xr (sx sy rx ry px py tx ty a b e f d : Fin n) : (px * (ty * f) * e + py * (tx * e) * f) * (a * b + d * (sx * a) * (sy * b) * rx * ry)
   = (a * b * e * f) * ((px * ty + py * tx) * (1 + d * sx * rx * sy * ry)):=by grind only
theorem re_yl (sx sy rx ry px py tx ty a b e f d : Fin n) : (sy * b * a * ry + sx * a * b * rx) * (e * f - d * px * py * (tx * e) * (ty * f))
   = (a * b * e * f) * ((sy * ry + sx * rx) * (1 - d * px * tx * py * ty)):=by grind only
theorem re_yr (sx sy rx ry px py tx ty a b e f d : Fin n) : (py * (ty * f) * e + px * (tx * e) * f) * (a * b - d * (sx * a) * (sy * b) * rx * ry)
   = (a * b * e * f) * ((py * ty + px * tx) * (1 - d * sx * rx * sy * ry)):=by grind only
theorem re_c (u z w v : Fin n) : u * (z * (w * v)) = z * (u * w * v):=by grind only
theorem re_d (t z w v : Fin n) : t * (z * (w * v)) = z * (t * v * w):=by grind only

set_option maxHeartbeats 4000000 in
theorem add_assoc (g : Good n d) {P Q R : Pt n} (hP : On d P) (hQ : On d Q) (hR : On d R) : add d (add d P Q) R = add d P (add d Q R):=by
 have hPQ:=on_add g hP hQ;have hQR:=on_add g hQ hR;have x1:=add_x g hP hQ;have y1:=add_y g hP hQ;have p1:=plus_ne g hP hQ;have m1:=minus_ne g hP hQ;have x2:=add_x g hQ hR;have y2:=add_y g hQ hR;have p2:=plus_ne g hQ hR;have m2:=minus_ne g hQ hR;have x3:=add_x g hPQ hR;have y3:=add_y g hPQ hR;have p3:=plus_ne g hPQ hR;have m3:=minus_ne g hPQ hR;have x4:=add_x g hP hQR;have y4:=add_y g hP hQR;have p4:=plus_ne g hP hQR;have m4:=minus_ne g hP hQR;have ax:=assoc_x P.x P.y Q.x Q.y R.x R.y d hP hQ hR;have ay:=assoc_y P.x P.y Q.x Q.y R.x R.y d hP hQ hR;clear hP hQ hR hPQ hQR;have c1 : (1 : Fin n) + d*P.x*Q.x*P.y*Q.y = 1 + kk d P Q:=rfl;have c2 : (1 : Fin n) - d*P.x*Q.x*P.y*Q.y = 1 - kk d P Q:=rfl;have c3 : (1 : Fin n) + d*Q.x*R.x*Q.y*R.y = 1 + kk d Q R:=rfl;have c4 : (1 : Fin n) - d*Q.x*R.x*Q.y*R.y = 1 - kk d Q R:=rfl;rw [c1,c2,c3,c4,← x1,← y1,← x2,← y2] at ax ay
 have ex : (add d (add d P Q) R).x = (add d P (add d Q R)).x:=by
  generalize add d (add d P Q) R = U at *;generalize add d P (add d Q R) = V at *
  unfold kk at x3 p3 x4 p4
  generalize add d P Q = S at *;generalize add d Q R = T at *;generalize 1 + kk d P Q = a at *;generalize 1 - kk d P Q = b at *;generalize 1 + kk d Q R = e at *;generalize 1 - kk d Q R = f at *
  -- ax: (S.x a b R.y + S.y b a R.x) (e f + d P.x P.y (T.x e)(T.y f)) = (P.x T.y f e + P.y T.x e f) (a b + d (S.x a)(S.y b) R.x R.y)
  rw [re_xl,re_xr,← x3,← x4] at ax;have hne:=mul_ne g.pr (mul_ne g.pr (mul_ne g.pr p1 m1) p2) m2
  apply cancel g.pr (mul_ne g.pr hne (mul_ne g.pr p3 p4))
  clear x1 y1 x2 y2 x3 y3 x4 y4 ay c1 c2 c3 c4 hne p1 p2 m1 m2 m3 m4;generalize a * b * e * f = z at *;generalize 1 + d * S.x * R.x * S.y * R.y = w at *;generalize 1 + d * P.x * T.x * P.y * T.y = v at *;generalize U.x = u at *;generalize V.x = t at *;clear g p3 p4;rw [re_c,re_d,ax]
 have ey : (add d (add d P Q) R).y = (add d P (add d Q R)).y:=by
  generalize add d (add d P Q) R = U at *;generalize add d P (add d Q R) = V at *
  unfold kk at y3 m3 y4 m4
  generalize add d P Q = S at *;generalize add d Q R = T at *;generalize 1 + kk d P Q = a at *;generalize 1 - kk d P Q = b at *;generalize 1 + kk d Q R = e at *;generalize 1 - kk d Q R = f at *;rw [re_yl,re_yr,← y3,← y4] at ay;have hne:=mul_ne g.pr (mul_ne g.pr (mul_ne g.pr p1 m1) p2) m2
  apply cancel g.pr (mul_ne g.pr hne (mul_ne g.pr m3 m4))
  clear x1 y1 x2 y2 x3 y3 x4 y4 ax c1 c2 c3 c4 hne p1 p2 m1 m2 p3 p4;generalize a * b * e * f = z at *;generalize 1 - d * S.x * R.x * S.y * R.y = w at *;generalize 1 - d * P.x * T.x * P.y * T.y = v at *;generalize U.y = u at *;generalize V.y = t at *;clear g m3 m4;rw [re_c,re_d,ay]
 have eta : ∀ A B : Pt n,A.x = B.x → A.y = B.y → A = B:=by
  rintro ⟨_,_⟩ ⟨_,_⟩ h1 h2
  simp only at h1 h2;rw [h1,h2]
 exact eta _ _ ex ey

end Ed
end Nums

namespace Nums
namespace Ed
variable {n : Nat} [NeZero n] {d : Fin n}

def mul (d : Fin n) : Nat → Pt n → Pt n
  | 0,_=>zero
  | k + 1,P=>add d (mul d k P) P

theorem mul_0 (P : Pt n) : mul d 0 P = zero:=rfl
theorem mul_succ (k : Nat) (P : Pt n) : mul d (k + 1) P = add d (mul d k P) P:=rfl

theorem on_mul (g : Good n d) {P : Pt n} (hP : On d P) (k : Nat) : On d (mul d k P):=by
 induction k with
 | zero=>exact on_zero
 | succ k ih=>exact on_add g ih hP

theorem mul_1 (g : Good n d) (P : Pt n) : mul d 1 P = P:=by rw [mul_succ,mul_0,zero_add g]

theorem mul_2 (g : Good n d) (P : Pt n) : mul d 2 P = add d P P:=by rw [mul_succ,mul_1 g]

theorem mul_add (g : Good n d) {P : Pt n} (hP : On d P) (j k : Nat) : mul d (j + k) P = add d (mul d j P) (mul d k P):=by
 induction k with
 | zero=>rw [Nat.add_zero,mul_0,add_zero g]
 | succ k ih=>rw [← Nat.add_assoc,mul_succ,mul_succ,ih,add_assoc g (on_mul g hP j) (on_mul g hP k) hP]

theorem mul_zero (g : Good n d) (k : Nat) : mul d k (zero : Pt n) = zero:=by
 induction k with
 | zero=>rfl
 | succ k ih=>rw [mul_succ,ih,zero_add g]

theorem mul_mul (g : Good n d) {P : Pt n} (hP : On d P) (j k : Nat) : mul d (j * k) P = mul d k (mul d j P):=by
 induction k with
 | zero=>rw [Nat.mul_zero,mul_0,mul_0]
 | succ k ih=>rw [Nat.mul_succ,mul_add g hP,ih,mul_succ]

theorem add_swap (g : Good n d) {A B C D : Pt n} (hA : On d A) (hB : On d B) (hC : On d C) (hD : On d D) :
  add d (add d A B) (add d C D) = add d (add d A C) (add d B D):=by
 rw [add_assoc g hA hB (on_add g hC hD),add_assoc g hA hC (on_add g hB hD),← add_assoc g hB hC hD,← add_assoc g hC hB hD,add_comm B C]

theorem neg_of (g : Good n d) {P Q : Pt n} (hP : On d P) (hQ : On d Q) (h : add d P Q = zero) : Q = neg P:=by
 have a : add d (neg P) (add d P Q) = Q:=by
  rw [← add_assoc g (on_neg hP) hP hQ,add_comm (neg P) P,add_neg g hP,zero_add g]
 rw [h,add_zero g] at a;exact a.symm

theorem neg_zero : neg (zero : Pt n) = zero:=by
 show Pt.mk (-0 : Fin n) 1 = Pt.mk 0 1
 have : (-0 : Fin n) = 0:=by grind only
 rw [this]

theorem neg_neg (P : Pt n) : neg (neg P) = P:=by
 show Pt.mk (- -P.x) P.y = P
 have : - -P.x = P.x:=by grind only
 rw [this]

theorem neg_add (g : Good n d) {P Q : Pt n} (hP : On d P) (hQ : On d Q) : neg (add d P Q) = add d (neg P) (neg Q):=by
 symm
 apply neg_of g (on_add g hP hQ) (on_add g (on_neg hP) (on_neg hQ))
 rw [add_swap g hP hQ (on_neg hP) (on_neg hQ),add_neg g hP,add_neg g hQ,zero_add g]

theorem mul_neg (g : Good n d) {P : Pt n} (hP : On d P) (k : Nat) : mul d k (neg P) = neg (mul d k P):=by
 induction k with
 | zero=>rw [mul_0,mul_0,neg_zero]
 | succ k ih=>rw [mul_succ,mul_succ,ih,neg_add g (on_mul g hP k) hP]

theorem mul_mod (g : Good n d) {P : Pt n} (hP : On d P) {L : Nat} (hL : mul d L P = zero) (k : Nat) : mul d k P = mul d (k % L) P:=by
 have h:=mul_add g hP (L * (k / L)) (k % L);rw [mul_mul g hP,hL,mul_zero g,zero_add g,Nat.div_add_mod] at h;exact h

theorem mul_times (g : Good n d) {P : Pt n} (hP : On d P) (a b : Nat) : mul d a (mul d b P) = mul d (a * b) P:=by
 rw [Nat.mul_comm,mul_mul g hP]

theorem zero_of (g : Good n d) {P : Pt n} (hP : On d P) {j k a b : Nat} (hj : mul d j P = zero) (hk : mul d k P = zero) (h : j * a = k * b + 1) : P = zero:=by
 have h1 : mul d (j * a) P = zero:=by rw [mul_mul g hP,hj,mul_zero g]
 rw [h,mul_add g hP,mul_mul g hP,hk,mul_zero g,zero_add g,mul_1 g] at h1;exact h1

structure Rep (X Y Z : Fin n) (P : Pt n) : Prop where
  z : Z ≠ 0
  x : X = P.x * Z
  y : Y = P.y * Z

theorem Rep.zero (hn : Prime n) : Rep (0 : Fin n) 1 1 zero where
 z:=fun h=>ne_one hn h.symm
 x:=by show (0 : Fin n) = 0 * 1; grind only
 y:=by show (1 : Fin n) = 1 * 1; grind only

theorem Rep.neg {X Y Z : Fin n} {P : Pt n} (r : Rep X Y Z P) : Rep (-X) Y Z (neg P) where
 z:=r.z
 x:=by
  rw [r.x]
  show -(P.x * Z) = -P.x * Z
  grind only
 y:=r.y

theorem kk_rep {X1 Y1 Z1 X2 Y2 Z2 : Fin n} {P Q : Pt n} (r : Rep X1 Y1 Z1 P) (s : Rep X2 Y2 Z2 Q) :
  d * ((X1 * X2) * (Y1 * Y2)) = kk d P Q * ((Z1 * Z2) * (Z1 * Z2)):=by
 rw [r.x,r.y,s.x,s.y]
 unfold kk
 grind only

theorem Rep.add (g : Good n d) {X1 Y1 Z1 X2 Y2 Z2 : Fin n} {P Q : Pt n} (hP : On d P) (hQ : On d Q) (r : Rep X1 Y1 Z1 P) (s : Rep X2 Y2 Z2 Q)
  {z m : Fin n} (hz : z = Z1 * Z2) (hm : m = d * ((X1 * X2) * (Y1 * Y2))) :
  Rep (((X1 * Y2 + Y1 * X2) * z) * (z * z - m)) (((Y1 * Y2 + X1 * X2) * z) * (z * z + m)) ((z * z + m) * (z * z - m)) (add d P Q):=by
 have hzn : z ≠ 0:=hz ▸ mul_ne g.pr r.z s.z
 have hm2 : m = kk d P Q * (z * z):=by rw [hm,hz,kk_rep r s]
 have p1 : z * z + m = (1 + kk d P Q) * (z * z):=by rw [hm2]; grind only
 have p2 : z * z - m = (1 - kk d P Q) * (z * z):=by rw [hm2]; grind only
 have nx : X1 * Y2 + Y1 * X2 = (P.x * Q.y + P.y * Q.x) * z:=by rw [r.x,r.y,s.x,s.y,hz]; grind only
 have ny : Y1 * Y2 + X1 * X2 = (P.y * Q.y + P.x * Q.x) * z:=by rw [r.x,r.y,s.x,s.y,hz]; grind only
 have hx:=add_x g hP hQ;have hy:=add_y g hP hQ;have n1:=plus_ne g hP hQ;have n2:=minus_ne g hP hQ
 constructor
 ·rw [p1,p2]
  exact mul_ne g.pr (mul_ne g.pr n1 (mul_ne g.pr hzn hzn)) (mul_ne g.pr n2 (mul_ne g.pr hzn hzn))
 ·rw [p1,p2,nx,← hx]
  grind only
 ·rw [p1,p2,ny,← hy]
  grind only

theorem Rep.same (hn : Prime n) {X Y Z : Fin n} {P Q : Pt n} (r : Rep X Y Z P) (s : Rep X Y Z Q) : P = Q:=by
 have hx : P.x = Q.x:=cancel hn r.z (r.x.symm.trans s.x);have hy : P.y = Q.y:=cancel hn r.z (r.y.symm.trans s.y)
 cases P
 cases Q
 simp only at hx hy;rw [hx,hy]

theorem Rep.aff (hn : Prime n) {X Y Z : Fin n} {P : Pt n} (r : Rep X Y Z P) : X * finv Z = P.x ∧ Y * finv Z = P.y:=by
 have h:=mul_finv hn r.z
 have a : ∀ u : Fin n,u * Z * finv Z = u * (Z * finv Z):=fun u=>by grind only
 have b : ∀ u : Fin n,u * 1 = u:=fun u=>by grind only
 rw [r.x,r.y,a,a,h,b,b];exact ⟨rfl,rfl⟩

end Ed
end Nums

namespace Nums

instance : NeZero p:=⟨by decide⟩
abbrev F:=Fin p
def fof (k : Nat) : F:=⟨k % p,Nat.mod_lt _ (by decide)⟩
theorem fof_val (k : Nat) : (fof k).val = k % p:=rfl
theorem fof_add (a b : Nat) : fof (a + b) = fof a + fof b:=by
 apply Fin.ext
 show (a + b) % p = (a % p + b % p) % p
 rw [← Nat.add_mod]
theorem fof_mul (a b : Nat) : fof (a * b) = fof a * fof b:=by
 apply Fin.ext
 show (a * b) % p = (a % p * (b % p)) % p
 rw [← Nat.mul_mod]
theorem fof_mod (a : Nat) : fof (a % p) = fof a:=by
 apply Fin.ext
 show a % p % p = a % p
 rw [Nat.mod_mod]
theorem fof_eq {a b : Nat} (h : a % p = b % p) : fof a = fof b:=Fin.ext h
theorem fof_zero : fof 0 = 0:=by
 apply Fin.ext
 show 0 % p = 0 % p
 rfl
theorem fof_one : fof 1 = 1:=by
 apply Fin.ext
 show 1 % p = 1 % p
 rfl
theorem fof_of (a : F) : fof a.val = a:=by
 apply Fin.ext
 exact Nat.mod_eq_of_lt a.isLt
theorem fof_sub {a b : Nat} (h : b ≤ a) : fof (a - b) = fof a - fof b:=by
 have : fof a = fof (a - b) + fof b:=by rw [← fof_add,Nat.sub_add_cancel h]
 rw [this];generalize fof (a - b) = u;generalize fof b = v
 grind only
theorem fof_pow (a k : Nat) : fof (a ^ k) = fpow (fof a) k:=by
 induction k with
 | zero=>exact fof_one
 | succ k ih=>rw [Nat.pow_succ,fof_mul,ih,fpow_succ]
theorem fof_pm {a e : Nat} (k : Nat) (h : e < 2 ^ k) : fpow (fof a) e = fof (pm p a k e):=by
 rw [pm_eq p a k e h,fof_mod,fof_pow]

def ph : Nat:=28948022309329048855892746252171976963317496166410141009864396001978282409974
def pq : Nat:=14474011154664524427946373126085988481658748083205070504932198000989141204987
theorem pq_two : pq * 2 = ph:=by decide
def im : F:=fpow (fof 2) pq
theorem im_im : im * im = -1:=by
 unfold im
 rw [← fpow_add,show pq + pq = ph from by decide,fof_pm 255 (by decide)];have : fof (pm p 2 255 ph) = fof (p - 1):=fof_eq (by decide +kernel);rw [this,fof_sub (by decide),fof_one,show fof p = 0 from fof_eq (a:=p) (b:=0) (by decide)];generalize (1 : F) = u
 grind only

theorem two_ne : (2 : F) ≠ 0:=by
 intro h
 have h1 : (2 : F).val = (0 : F).val:=by rw [h]
 revert h1
 decide

theorem euler_sq {a : F} (ha : a ≠ 0) : fpow (a * a) ph = 1:=by
 rw [mul_fpow,← fpow_add,show ph + ph = p - 1 from by decide];exact fpow_fermat prime_p ha

theorem no_root {w : F} (h0 : w ≠ 0) (h : fpow w ph ≠ 1) (x : F) : x * x ≠ w:=by
 rintro rfl
 apply h
 apply euler_sq
 rintro rfl
 exact h0 (by grind only)

theorem neg_val {a : F} (h : a ≠ 0) : (-a).val = p - a.val:=by
 have h1 : a.val ≠ 0:=fun h2=>h (Fin.ext h2);have h2:=a.isLt
 have h3 : fof (p - a.val) = -a:=by
  rw [fof_sub (by omega),fof_of,show fof p = 0 from fof_eq (a:=p) (b:=0) (by decide)]
  grind only
 rw [← h3,fof_val];exact Nat.mod_eq_of_lt (by omega)

theorem p_odd : p % 2 = 1:=by decide
theorem neg_odd {a : F} (h : a ≠ 0) : (-a).val % 2 = 1 - a.val % 2:=by
 rw [neg_val h];have h2:=a.isLt;have h3:=p_odd
 omega

def dn : Nat:=37095705934669439343138083508754565189542113879843219016388785533085940283555
def dd : F:=fof dn
theorem dd_ne : dd ≠ 0:=fun h=>by
 have:=congrArg Fin.val h
 revert this
 decide

theorem dd_pow : fpow dd ph ≠ 1:=by
 unfold dd
 rw [fof_pm 255 (by decide)]
 intro h
 have:=congrArg Fin.val h
 revert this
 rw [fof_val]
 decide +kernel

theorem good : Ed.Good p dd where
 pr:=prime_p
 two:=two_ne
 i:=⟨im,im_im⟩
 d:=no_root dd_ne dd_pow

def bx : Nat:=15112221349535400772501151409588531511454012693041857206046113283949847762202
def bY : Nat:=46316835694926478169428394003475163141307993866256225615783033603165251855960
def base : Ed.Pt p:=⟨fof bx,fof bY⟩
theorem on_base : Ed.On dd base:=by
 show fof bY * fof bY - fof bx * fof bx = 1 + dd * fof bx * fof bx * fof bY * fof bY
 unfold dd
 have h : fof (bY * bY) = fof (bx * bx + (1 + dn * bx * bx * bY * bY)):=fof_eq (by decide +kernel);rw [fof_mul,fof_add,fof_add,fof_mul,fof_mul,fof_mul,fof_mul,fof_mul,fof_one] at h;rw [h];generalize fof bx = u;generalize fof bY = v;generalize fof dn = w
 grind only

end Nums
/-
PLAIN NUMBERS: the base point's order divides L. No program is imported.
PLAIN NUMBERS: rows of digits of 16 bits, carries, products digit by digit. No program is imported.
PLAIN NUMBERS: 16 digits of 16 bits as numbers modulo p: carries that come back 38 times, products, the packed row. No program is imported.
PLAIN NUMBERS: the packed row (below p), its bytes, the folded product. No program is imported.
-/
namespace Nums

def forced {α : Type} (x : Nat) (f : Nat → α) : α :=
  match x with
  | 0=>f 0
  | k + 1=>f (k + 1)
theorem forced_eq {α : Type} (x : Nat) (f : Nat → α) : forced x f = f x:=by cases x <;> rfl

structure Tri where
  x : Nat
  y : Nat
  z : Nat

def triAdd (a b : Tri) : Tri :=
  forced (a.z * b.z % p) fun z=>forced (z * z % p) fun zz=>forced (dn * (a.x * b.x % p * (a.y * b.y % p) % p) % p) fun m =>
  forced ((zz + m) % p) fun pl=>forced ((zz + p - m) % p) fun mi =>
  forced ((a.x * b.y + a.y * b.x) % p * z % p * mi % p) fun x=>forced ((a.y * b.y + a.x * b.x) % p * z % p * pl % p) fun y =>
  forced (pl * mi % p) fun w=>⟨x,y,w⟩

def triMul : Nat → Nat → Tri → Tri → Tri
  | 0,_,acc,_=>acc
  | n + 1,k,acc,q=>triMul n (k / 2) (if k % 2 = 1 then triAdd acc q else acc) (triAdd q q)

def TriRep (t : Tri) (P : Ed.Pt p) : Prop:=Ed.Rep (fof t.x) (fof t.y) (fof t.z) P

theorem triAdd_rep {a b : Tri} {P Q : Ed.Pt p} (hP : Ed.On dd P) (hQ : Ed.On dd Q) (ha : TriRep a P) (hb : TriRep b Q) : TriRep (triAdd a b) (Ed.add dd P Q):=by
 unfold triAdd
 simp only [forced_eq];have h:=Ed.Rep.add good hP hQ ha hb rfl rfl
 unfold TriRep
 simp only
 generalize hz : a.z * b.z % p = z;generalize hm : dn * (a.x * b.x % p * (a.y * b.y % p) % p) % p = m
 have ez : fof z = fof a.z * fof b.z:=by rw [← hz,fof_mod,fof_mul]
 have em : fof m = dd * ((fof a.x * fof b.x) * (fof a.y * fof b.y)):=by
  rw [← hm];simp only [fof_mod,fof_mul]
  rfl
 have hmp : m < p:=by rw [← hm]; exact Nat.mod_lt _ (by decide)
 have es : fof (z * z % p + p - m) = fof z * fof z - fof m:=by
  rw [fof_sub (by omega),fof_add,fof_mod,fof_mul,show fof p = 0 from fof_eq (a:=p) (b:=0) (by decide)]
  grind only
 rw [← ez,← em] at h;simp only [fof_mod,fof_mul,fof_add,es];exact h

theorem triMul_rep : ∀ (n k : Nat) (acc q : Tri) (A Q : Ed.Pt p),k < 2 ^ n → Ed.On dd A → Ed.On dd Q → TriRep acc A → TriRep q Q → TriRep (triMul n k acc q) (Ed.add dd A (Ed.mul dd k Q))
 | 0,k,acc,q,A,Q,hk,hA,hQ,ha,hq=>by
  have : k = 0:=by simp at hk; omega
  subst this;rw [Ed.mul_0,Ed.add_zero good];exact ha
 | n + 1,k,acc,q,A,Q,hk,hA,hQ,ha,hq=>by
  have hk2 : k / 2 < 2 ^ n:=by rw [Nat.pow_succ] at hk; omega
  have h2:=triAdd_rep hQ hQ hq hq;have o2:=Ed.on_add good hQ hQ
  have e2 : Ed.mul dd (k / 2) (Ed.add dd Q Q) = Ed.mul dd (2 * (k / 2)) Q:=by
   rw [Ed.mul_mul good hQ,Ed.mul_2 good]
  show TriRep (triMul n (k / 2) (if k % 2 = 1 then triAdd acc q else acc) (triAdd q q)) _
  by_cases h : k % 2 = 1
  ·rw [if_pos h]
   have ih:=triMul_rep n (k / 2) (triAdd acc q) (triAdd q q) (Ed.add dd A Q) (Ed.add dd Q Q) hk2 (Ed.on_add good hA hQ) o2 (triAdd_rep hA hQ ha hq) h2;rw [e2,Ed.add_assoc good hA hQ (Ed.on_mul good hQ _),Ed.add_comm Q,← Ed.mul_succ,show 2 * (k / 2) + 1 = k by omega] at ih;exact ih
  ·rw [if_neg h]
   have ih:=triMul_rep n (k / 2) acc (triAdd q q) A (Ed.add dd Q Q) hk2 hA o2 ha h2;rw [e2,show 2 * (k / 2) = k by omega] at ih;exact ih

def LL : Nat:=7237005577332262213973186563042994240857116359379907606001950938285454250989

def ending : Bool :=
  let t:=triMul 253 LL ⟨0,1,1⟩ ⟨bx,bY,1⟩
  forced t.x fun x=>forced t.y fun y=>forced t.z fun z=>Nat.beq (x % p) 0 && Nat.beq (y % p) (z % p)

theorem ending_true : ending = true:=by decide +kernel

theorem order : Ed.mul dd LL base = Ed.zero:=by
 have ha : TriRep ⟨0,1,1⟩ Ed.zero:=by
  have:=Ed.Rep.zero prime_p
  unfold TriRep
  rw [fof_zero,fof_one];exact this
 have hq : TriRep ⟨bx,bY,1⟩ base:=by
  refine ⟨?_,?_,?_⟩
  ·show fof 1 ≠ 0
   rw [fof_one];exact fun h=>ne_one prime_p h.symm
  ·show fof bx = fof bx * fof 1
   rw [fof_one]
   grind only
  ·show fof bY = fof bY * fof 1
   rw [fof_one]
   grind only
 have h:=triMul_rep 253 LL _ _ Ed.zero base (by decide) Ed.on_zero on_base ha hq;rw [Ed.zero_add good] at h;have e:=ending_true
 unfold ending at e
 simp only [forced_eq] at e;generalize triMul 253 LL ⟨0,1,1⟩ ⟨bx,bY,1⟩ = t at h e;rw [Bool.and_eq_true] at e;obtain ⟨e1,e2⟩:=e;have e1:=Nat.eq_of_beq_eq_true e1;have e2:=Nat.eq_of_beq_eq_true e2;have x0 : fof t.x = 0:=Fin.ext e1;have yz : fof t.y = fof t.z:=Fin.ext e2
 have hz : Ed.Rep (fof t.x) (fof t.y) (fof t.z) Ed.zero:=by
  refine ⟨h.z,?_,?_⟩
  ·rw [x0]
   show (0 : F) = 0 * fof t.z
   grind only
  ·rw [yz]
   show fof t.z = 1 * fof t.z
   grind only
 exact Ed.Rep.same prime_p h hz

end Nums

namespace Nums

def V : List Int → Int
  | []=>0
  | d :: ds=>d + 65536 * V ds

def W : Nat → Int
  | 0=>1
  | k + 1=>65536 * W k

def Small (l : List Int) : Prop:=∀ x ∈ l,0 ≤ x ∧ x < 65536

def chain : Int → List Int → List Int × Int
  | c,[]=>([],c)
  | c,d :: ds=>(((d + c) % 65536) :: (chain ((d + c) / 65536) ds).1,(chain ((d + c) / 65536) ds).2)

end Nums

namespace Nums

theorem W16 : W 16 = 2 * (p : Int) + 38:=by decide

end Nums

namespace Nums

theorem W15 : W 16 = 65536 * W 15:=rfl

def lent (l : List Int) : List Int:=(chain 0 (l.take 15)).1 ++ [l[15]! + (chain 0 (l.take 15)).2]

def le : List UInt8 → Nat
  | []=>0
  | b :: bs=>b.toNat + 256 * le bs

def split : List Int → List UInt8
  | []=>[]
  | d :: ds=>UInt8.ofNat (d % 256).toNat :: UInt8.ofNat (d / 256).toNat :: split ds
def join : List UInt8 → List Int
  | a :: b :: bs=>((a.toNat : Int) + 256 * (b.toNat : Int)) :: join bs
  | _=>[]

theorem le_inj : ∀ {a b : List UInt8},a.length = b.length → le a = le b → a = b
 | [],[],_,_=>rfl
 | x :: a,y :: b,hl,h=>by
  have h1:=x.toNat_lt;have h2:=y.toNat_lt;have h3 : x.toNat + 256 * le a = y.toNat + 256 * le b:=h;have h4 : x = y:=UInt8.toNat.inj (by omega);have h5:=le_inj (a:=a) (b:=b) (by simpa using hl) (by omega);rw [h4,h5]

def bytes : Nat → Nat → List UInt8
  | 0,_=>[]
  | k + 1,v=>UInt8.ofNat v :: bytes k (v / 256)
theorem bytes_len : ∀ k v,(bytes k v).length = k
 | 0,_=>rfl
 | k + 1,v=>by show (bytes k (v / 256)).length + 1 = k + 1; rw [bytes_len]
theorem le_bytes : ∀ k v,le (bytes k v) = v % 256 ^ k
 | 0,v=>by show 0 = v % 1; omega
 | k + 1,v=>by
  show (UInt8.ofNat v).toNat + 256 * le (bytes k (v / 256)) = v % 256 ^ (k + 1)
  rw [le_bytes,UInt8.toNat_ofNat',show 256 ^ (k + 1) = 256 * 256 ^ k by rw [Nat.pow_succ,Nat.mul_comm],Nat.mod_mul]

def enc (x : F) : List UInt8:=bytes 32 x.val
theorem enc_len (x : F) : (enc x).length = 32:=bytes_len _ _
theorem le_enc (x : F) : le (enc x) = x.val:=by
 unfold enc
 rw [le_bytes];exact Nat.mod_eq_of_lt (Nat.lt_trans x.isLt (by decide))
theorem enc_inj {x y : F} (h : enc x = enc y) : x = y:=by
 apply Fin.ext
 rw [← le_enc,← le_enc,h]
theorem enc_of {b : List UInt8} (hb : b.length = 32) {x : F} (h : le b = x.val) : b = enc x :=
 le_inj (by rw [hb,enc_len]) (by rw [h,le_enc])
end Nums
/-
PLAIN NUMBERS: the bytes of the curve's points: a point is told by its bytes; which bytes are points. No program is imported.
PLAIN NUMBERS: the lowest and the highest byte of 32. No program is imported.
-/
namespace Nums

theorem zz {n : Nat} [NeZero n] (d : Fin n) : 0 * 0 * d + 1 = 1:=by grind only
theorem neg_sq (a : F) : -a * -a = a * a:=by grind only

def evenOf (x : F) : F:=if x.val % 2 = 1 then -x else x
theorem evenOf_even (x : F) : (evenOf x).val % 2 = 0:=by
 unfold evenOf
 by_cases h : x.val % 2 = 1
 ·rw [if_pos h,neg_odd (by rintro rfl; exact absurd h (by decide)),h]
 ·rw [if_neg h]; omega
theorem evenOf_sq (x : F) : evenOf x * evenOf x = x * x:=by
 unfold evenOf
 by_cases h : x.val % 2 = 1
 ·rw [if_pos h]; grind only
 ·rw [if_neg h]

theorem root_one {a b : F} (h : a * a = b * b) (hp : a.val % 2 = b.val % 2) : a = b:=by
 rcases root_or prime_p h with h1 | h1
 ·exact h1
 ·by_cases h0 : b = 0
  ·rw [h1,h0]; grind only
  ·have:=neg_odd h0
   rw [← h1] at this
   omega

theorem vv_ne (y : F) : y * y * dd + 1 ≠ 0:=by
 intro h
 have hy : y ≠ 0:=by
  rintro rfl
  have e : (0 : F) * 0 * dd + 1 = 1:=zz dd;rw [e] at h;exact ne_one prime_p h.symm
 have h1:=mul_finv prime_p hy;refine good.d (im * finv y) ?_;have hi:=im_im;generalize finv y = z at *;generalize im = i at *;generalize dd = d at *
 have a : i * z * (i * z) = (i * i) * (z * z):=by grind only
 have b : d = -(1 : F) * (z * z):=by
  have c : d * (y * z) * (y * z) = (y * y * d) * (z * z):=by grind only
  have e : y * y * d = -1:=by grind only
  rw [h1,e] at c
  grind only
 rw [a,hi,b]

def ww (y : F) : F:=(y * y - 1) * finv (y * y * dd + 1)
theorem on_iff (x y : F) : Ed.On dd ⟨x,y⟩ ↔ x * x = ww y:=by
 have h:=mul_finv prime_p (vv_ne y)
 unfold ww
 show y * y - x * x = 1 + dd * x * x * y * y ↔ _
 have hv:=vv_ne y;generalize hV : y * y * dd + 1 = v at *;generalize finv v = u at *;generalize dd = d at *
 constructor
 ·intro h1
  have a : y * y - 1 = x * x * v:=by rw [← hV]; grind only
  have b : x * x * v * u = x * x * (v * u):=by grind only
  rw [a,b,h]
  grind only
 ·intro h1
  have a : x * x * v = y * y - 1:=by
   have b : (y * y - 1) * u * v = (y * y - 1) * (v * u):=by grind only
   rw [h1,b,h]
   grind only
  rw [← hV] at a
  grind only

def encN (P : Ed.Pt p) : Nat:=P.y.val + 57896044618658097711785492504343953926634992332820282019728792003956564819968 * (P.x.val % 2)
def encP (P : Ed.Pt p) : List UInt8:=bytes 32 (encN P)
theorem encP_len (P : Ed.Pt p) : (encP P).length = 32:=bytes_len _ _
theorem p_lt : p < 57896044618658097711785492504343953926634992332820282019728792003956564819968:=by decide
theorem le_encP (P : Ed.Pt p) : le (encP P) = encN P:=by
 unfold encP
 rw [le_bytes]
 apply Nat.mod_eq_of_lt
 have h:=P.y.isLt;have h2:=p_lt
 have h3 : 57896044618658097711785492504343953926634992332820282019728792003956564819968 * 2 = 256 ^ 32:=by decide
 unfold encN
 omega
theorem encN_inj {P Q : Ed.Pt p} (h : encN P = encN Q) : P.y = Q.y ∧ P.x.val % 2 = Q.x.val % 2:=by
 unfold encN at h
 have h1:=P.y.isLt;have h2:=Q.y.isLt;have h3:=p_lt;exact ⟨Fin.ext (by omega),by omega⟩

theorem encP_inj {P Q : Ed.Pt p} (hP : Ed.On dd P) (hQ : Ed.On dd Q) (h : encP P = encP Q) : P = Q:=by
 have h1 : encN P = encN Q:=by rw [← le_encP,← le_encP,h]
 obtain ⟨h2,h3⟩:=encN_inj h1;obtain ⟨x,y⟩:=P;obtain ⟨u,v⟩:=Q;simp only at h2 h3;subst h2;have a:=(on_iff x y).mp hP;have b:=(on_iff u y).mp hQ;rw [root_one (a.trans b.symm) h3]

end Nums

namespace Nums

theorem le_append : ∀ a b : List UInt8,le (a ++ b) = le a + 256 ^ a.length * le b
 | [],b=>by show le b = 0 + 1 * le b; omega
 | x :: a,b=>by
  show x.toNat + 256 * le (a ++ b) = x.toNat + 256 * le a + 256 ^ (a.length + 1) * le b
  rw [le_append a b,Nat.pow_succ,Nat.mul_add,Nat.mul_comm (256 ^ a.length) 256,Nat.mul_assoc]
  omega
theorem le_lt : ∀ a : List UInt8,le a < 256 ^ a.length
 | []=>by decide
 | x :: a=>by
  have h1:=le_lt a;have h2:=x.toNat_lt
  show x.toNat + 256 * le a < 256 ^ (a.length + 1)
  rw [Nat.pow_succ]
  omega
section
variable {b : List UInt8} (hb : b.length = 32)
include hb
theorem cut31 : b = b.take 31 ++ [b[31]!]:=by
 conv=>lhs; rw [← List.take_append_drop 31 b]
 rw [List.drop_eq_getElem_cons (by omega),List.drop_eq_nil_of_le (by omega),getElem!_pos b 31 (by omega)]
theorem le_top : le b = le (b.take 31) + 452312848583266388373324160190187140051835877600158453279131187530910662656 * (b[31]!).toNat:=by
 conv=>lhs; rw [cut31 hb]
 rw [le_append,List.length_take,hb]
 show _ + 256 ^ 31 * ((b[31]!).toNat + 256 * 0) = _
 rw [show (256 : Nat) ^ 31 = 452312848583266388373324160190187140051835877600158453279131187530910662656 by decide]
 omega
theorem le_rest : le (b.take 31) < 452312848583266388373324160190187140051835877600158453279131187530910662656:=by
 have h:=le_lt (b.take 31);rw [List.length_take,hb,show (256 : Nat) ^ min 31 32 = 452312848583266388373324160190187140051835877600158453279131187530910662656 by decide] at h;exact h
theorem set31 (x : UInt8) : le (b.set 31 x) = le (b.take 31) + 452312848583266388373324160190187140051835877600158453279131187530910662656 * x.toNat:=by
 have h : (b.set 31 x).length = 32:=by rw [List.length_set,hb]
 rw [le_top h,List.take_set_of_le (by omega),getElem!_pos _ 31 (by omega),List.getElem_set_self]
theorem top_iff : (b[31]!).toNat < 128 ↔ le b < 57896044618658097711785492504343953926634992332820282019728792003956564819968:=by
 have h1:=le_top hb;have h2:=le_rest hb
 omega
end

theorem encP_even {P : Ed.Pt p} (h : P.x.val % 2 ≠ 1) : encP P = enc P.y:=by
 apply le_inj (by rw [encP_len,enc_len])
 rw [le_encP,le_enc]
 unfold encN
 have : P.x.val % 2 = 0:=by omega
 rw [this]
 omega
theorem enc_top (y : F) : ((enc y)[31]!).toNat < 128:=by
 rw [top_iff (enc_len y),le_enc];exact Nat.lt_trans y.isLt p_lt
theorem encP_odd {P : Ed.Pt p} (h : P.x.val % 2 = 1) : encP P = (enc P.y).set 31 (UInt8.ofNat (((enc P.y)[31]!).toNat + 128)):=by
 apply le_inj (by rw [encP_len,List.length_set,enc_len])
 have h1:=enc_top P.y;have h2:=le_top (enc_len P.y);rw [le_encP,set31 (enc_len P.y),UInt8.toNat_ofNat_of_lt' (by show _ < 256; omega)];rw [le_enc] at h2
 unfold encN
 rw [h]
 omega
end Nums
/-
  PLAIN NUMBERS: digits of a number; sums of multiples of points. No program is imported.
-/
namespace Nums

def sumD : List Nat → Nat
  | []=>0
  | x :: r=>x + 2 * sumD r
theorem sumD_set : ∀ (d : List Nat) (j v : Nat),j < d.length → sumD (d.set j v) + d[j]! * 2 ^ j = sumD d + v * 2 ^ j
 | [],_,_,h=>by simp at h
 | x :: r,0,v,_=>by
  simp only [List.set_cons_zero,sumD,Nat.pow_zero,Nat.mul_one];have : (x :: r)[0]! = x:=rfl;rw [this]
  omega
 | x :: r,j + 1,v,h=>by
  have ih:=sumD_set r j v (by simpa using h)
  have e : (x :: r)[j + 1]! = r[j]!:=by simp
  rw [e,List.set_cons_succ,sumD,sumD,Nat.pow_succ]
  have e1 : r[j]! * (2 ^ j * 2) = 2 * (r[j]! * 2 ^ j):=by rw [← Nat.mul_assoc,Nat.mul_comm _ 2]
  have e2 : v * (2 ^ j * 2) = 2 * (v * 2 ^ j):=by rw [← Nat.mul_assoc,Nat.mul_comm _ 2]
  rw [e1,e2]
  omega
theorem sumD_zero (n : Nat) : sumD (List.replicate n 0) = 0:=by
 induction n with
 | zero=>rfl
 | succ n ih=>rw [List.replicate_succ,sumD,ih]
theorem sumD_drop {d : List Nat} {j : Nat} (h : j < d.length) : sumD (d.drop j) = d[j]! + 2 * sumD (d.drop (j + 1)):=by
 rw [List.drop_eq_getElem_cons h,sumD,getElem!_pos d j h]

structure DG (N i : Nat) (f : Int) (d : List Nat) : Prop where
  len : d.length = 256
  sum : sumD d = N % 2 ^ i
  hi : ∀ j,i ≤ j → j < 256 → d[j]! = 0
  odd : ∀ j,j < 256 → d[j]! = 0 ∨ (d[j]! % 2 = 1 ∧ d[j]! < 16)
  last : f = -4 ∨ ∃ m : Nat,f = m ∧ m < i ∧ d[m]! < 2 ^ (i - m) ∧ d[m]! % 2 = 1
theorem rep_at (n j : Nat) (h : j < n) : (List.replicate n 0)[j]! = 0:=by
 rw [getElem!_pos _ j (by simpa using h)]
 simp
theorem DG.start (N : Nat) : DG N 0 (-4) (List.replicate 256 0) where
 len:=List.length_replicate
 sum:=by rw [sumD_zero,Nat.pow_zero,Nat.mod_one]
 hi:=fun j _ h=>rep_at 256 j h
 odd:=fun j h=>.inl (rep_at 256 j h)
 last:=.inl rfl
theorem mod_bitN (N i : Nat) : N % 2 ^ (i + 1) = N % 2 ^ i + N / 2 ^ i % 2 * 2 ^ i:=by
 rw [Nat.pow_succ,Nat.mod_mul,Nat.mul_comm (2 ^ i)]
theorem DG.zero {N i : Nat} {f : Int} {d : List Nat} (h : DG N i f d) (hb : N / 2 ^ i % 2 = 0) : DG N (i + 1) f d where
 len:=h.len
 sum:=by rw [h.sum,mod_bitN,hb,Nat.zero_mul,Nat.add_zero]
 hi:=fun j hj=>h.hi j (by omega)
 odd:=h.odd
 last:=h.last.imp id fun ⟨m,h1,h2,h3,h4⟩=>⟨m,h1,by omega,Nat.lt_of_lt_of_le h3 (Nat.pow_le_pow_right (by decide) (by omega)),h4⟩
theorem set_at {d : List Nat} {j v : Nat} (h : j < d.length) : (d.set j v)[j]! = v:=by
 rw [getElem!_pos _ j (by simpa using h)]
 simp
theorem set_ne {d : List Nat} {j k v : Nat} (h : j ≠ k) : (d.set j v)[k]! = d[k]!:=by
 simp only [List.getElem!_eq_getElem?_getD,List.getElem?_set_ne h]
theorem DG.fresh {N i : Nat} {f : Int} {d : List Nat} (h : DG N i f d) (hi : i < 256) (hb : N / 2 ^ i % 2 = 1) : DG N (i + 1) i (d.set i 1) where
 len:=by rw [List.length_set,h.len]
 sum:=by
  have h1:=sumD_set d i 1 (by rw [h.len]; exact hi);rw [h.hi i (Nat.le_refl _) hi,h.sum] at h1;rw [mod_bitN,hb]
  omega
 hi:=fun j hj hj2=>by rw [set_ne (by omega)]; exact h.hi j (by omega) hj2
 odd:=fun j hj=>by
  by_cases e : i = j
  ·subst e
   rw [set_at (by rw [h.len]; exact hi)];exact .inr ⟨by decide,by decide⟩
  ·rw [set_ne e]
   exact h.odd j hj
 last:=.inr ⟨i,rfl,by omega,by rw [set_at (by rw [h.len]; exact hi),show i + 1 - i = 1 from by omega]; decide,by rw [set_at (by rw [h.len]; exact hi)]⟩
theorem DG.more {N i m : Nat} {d : List Nat} (h : DG N i m d) (hi : i < 256) (hb : N / 2 ^ i % 2 = 1) (hm : i < m + 4) : m < i ∧ d[m]! < 2 ^ (i - m) ∧ DG N (i + 1) m (d.set m (d[m]! + 2 ^ (i - m))):=by
 obtain ⟨m',h1,h2,h3,h4⟩ : ∃ m' : Nat,(m : Int) = m' ∧ m' < i ∧ d[m']! < 2 ^ (i - m') ∧ d[m']! % 2 = 1:=by
  rcases h.last with h1 | h1
  ·omega
  ·exact h1
 obtain rfl : m = m':=by omega
 have hml : m < d.length:=by rw [h.len]; omega
 have hpe : 2 ^ (i + 1 - m) = 2 ^ (i - m) * 2:=by rw [show i + 1 - m = i - m + 1 from by omega,Nat.pow_succ]
 have hk : i - m = 1 ∨ i - m = 2 ∨ i - m = 3:=by omega
 have hpow : 2 ^ (i - m) * 2 ≤ 16 ∧ 2 ^ (i - m) % 2 = 0:=by rcases hk with e | e | e <;> rw [e] <;> decide
 refine ⟨h2,h3,⟨by rw [List.length_set,h.len],?_,fun j hj hj2=>?_,fun j hj=>?_,.inr ⟨m,rfl,by omega,?_,?_⟩⟩⟩
 ·have e1:=sumD_set d m (d[m]! + 2 ^ (i - m)) hml
  have e2 : 2 ^ (i - m) * 2 ^ m = 2 ^ i:=by rw [← Nat.pow_add]; congr 1; omega
  rw [Nat.add_mul,e2,h.sum] at e1;rw [mod_bitN,hb]
  omega
 ·rw [set_ne (by omega)]
  exact h.hi j (by omega) hj2
 ·by_cases e : m = j
  ·subst e
   rw [set_at hml];exact .inr ⟨by omega,by omega⟩
  ·rw [set_ne e]
   exact h.odd j hj
 ·rw [set_at hml,hpe]
  omega
 ·rw [set_at hml]
  omega

/-! ### Sums of multiples -/
namespace Ed
variable {n : Nat} [NeZero n] {d : Fin n}
def tot (d : Fin n) : List (Pt n) → Nat → (Nat → Nat) → Pt n
  | [],_,_=>zero
  | A :: ps,i,f=>add d (mul d (f i) A) (tot d ps (i + 1) f)
theorem on_tot (g : Good n d) : ∀ {ps : List (Pt n)},(∀ A ∈ ps,On d A) → ∀ i f,On d (tot d ps i f)
 | [],_,_,_=>on_zero
 | A :: ps,h,i,f=>on_add g (on_mul g (h A (by simp)) _) (on_tot g (fun B hB=>h B (by simp [hB])) (i + 1) f)
theorem tot_congr : ∀ {ps : List (Pt n)} {i : Nat} {f f' : Nat → Nat},(∀ j,i ≤ j → j < i + ps.length → f j = f' j) → tot d ps i f = tot d ps i f'
 | [],_,_,_,_=>rfl
 | A :: ps,i,f,f',h=>by
  rw [tot,tot,h i (Nat.le_refl _) (by simp),tot_congr (i:=i + 1) (f:=f) (f':=f') fun j h1 h2=>h j (by omega) (by simp; omega)]
theorem tot_zero (g : Good n d) : ∀ {ps : List (Pt n)} {i : Nat} {f : Nat → Nat},(∀ j,i ≤ j → j < i + ps.length → f j = 0) → tot d ps i f = zero
 | [],_,_,_=>rfl
 | A :: ps,i,f,h=>by
  rw [tot,h i (Nat.le_refl _) (by simp),mul_0,zero_add g,tot_zero g fun j h1 h2=>h j (by omega) (by simp; omega)]
theorem tot_dbl (g : Good n d) : ∀ {ps : List (Pt n)},(∀ A ∈ ps,On d A) → ∀ (i : Nat) (f : Nat → Nat),tot d ps i (fun j=>2 * f j) = add d (tot d ps i f) (tot d ps i f)
 | [],_,_,_=>(zero_add g zero).symm
 | A :: ps,h,i,f=>by
  have hA:=h A (by simp);have hs : ∀ B ∈ ps,On d B:=fun B hB=>h B (by simp [hB]);rw [tot,tot,tot_dbl g hs (i + 1) f,Nat.two_mul,mul_add g hA,add_swap g (on_mul g hA _) (on_mul g hA _) (on_tot g hs _ _) (on_tot g hs _ _)]
theorem tot_more (g : Good n d) : ∀ {ps : List (Pt n)},(∀ A ∈ ps,On d A) → ∀ (i j v : Nat) (f f' : Nat → Nat) (A : Pt n),ps[j]? = some A → f' (i + j) = f (i + j) + v → (∀ k,k ≠ i + j → f' k = f k) →
  tot d ps i f' = add d (tot d ps i f) (mul d v A)
 | [],_,_,_,_,_,_,A,hj,_,_=>by simp at hj
 | B :: ps,h,i,0,v,f,f',A,hj,h1,h2=>by
  simp only [List.getElem?_cons_zero,Option.some.injEq] at hj;subst hj;have hB:=h B (by simp);have hs : ∀ B ∈ ps,On d B:=fun B hB=>h B (by simp [hB]);rw [tot,tot,tot_congr (ps:=ps) (i:=i + 1) (f:=f') (f':=f) fun k h3 _=>h2 k (by omega)];rw [Nat.add_zero] at h1;rw [h1,mul_add g hB,add_assoc g (on_mul g hB _) (on_mul g hB _) (on_tot g hs _ _),add_assoc g (on_mul g hB _) (on_tot g hs _ _) (on_mul g hB _),add_comm (mul d v B)]
 | B :: ps,h,i,j + 1,v,f,f',A,hj,h1,h2=>by
  have hB:=h B (by simp);have hs : ∀ B ∈ ps,On d B:=fun B hB=>h B (by simp [hB]);have hA : On d A:=hs A (List.mem_of_getElem? (by simpa using hj))
  rw [tot,tot,tot_more g hs (i + 1) j v f f' A (by simpa using hj) (by rw [Nat.add_right_comm,Nat.add_assoc]; exact h1) (fun k hk=>h2 k (by omega)),h2 i (by omega),
   add_assoc g (on_mul g hB _) (on_tot g hs _ _) (on_mul g hA _)]
end Ed
end Nums
/-
  WORDS OF 64 BITS: the library's Mul64 and Add64.
-/
namespace Go.Proofs.YtlcbhbahchiofaaGreatDoor
open Go.RowKit Go.IntWalk

set_option maxHeartbeats 1000000 in
theorem mul64_any (x y : Nat) (hx : x < 18446744073709551616) (hy : y < 18446744073709551616) (w : World) :
  Calls Tryz.prog 83 #[.int .u64 x,.int .u64 y] w fun e w'=>e = .returned (.tuple #[.int .u64 ((x * y / 18446744073709551616 : Nat) : Int),.int .u64 ((x * y % 18446744073709551616 : Nat) : Int)]) ∧ w' = w:=by
 obtain ⟨bd,bt,bw,hhi⟩:=Lib.mul64_hi x y hx hy;have ba:=Lib.half_mul_le (a:=x / 4294967296) (b:=y / 4294967296) (by omega) (by omega);have bb:=Lib.half_mul_le (a:=x / 4294967296) (b:=y % 4294967296) (by omega) (by omega);have bc:=Lib.half_mul_le (a:=x % 4294967296) (b:=y / 4294967296) (by omega) (by omega)
 have ba' : x / 4294967296 * (y / 4294967296) < 18446744073709551616:=by omega
 have bb' : x / 4294967296 * (y % 4294967296) < 18446744073709551616:=by omega
 have bc' : x % 4294967296 * (y / 4294967296) < 18446744073709551616:=by omega
 have bh1 : x / 4294967296 * (y / 4294967296) + (x / 4294967296 * (y % 4294967296) + x % 4294967296 * (y % 4294967296) / 4294967296) / 4294967296 < 18446744073709551616:=by omega
 have bh : x / 4294967296 * (y / 4294967296) + (x / 4294967296 * (y % 4294967296) + x % 4294967296 * (y % 4294967296) / 4294967296) / 4294967296 + ((x / 4294967296 * (y % 4294967296) + x % 4294967296 * (y % 4294967296) / 4294967296) % 4294967296 + x % 4294967296 * (y / 4294967296)) / 4294967296 < 18446744073709551616:=by omega
 go_enter Tryz.func83,Tryz.ntmps83
 go_wp2
 simp only [mask32 x hx,mask32 y hy,div32,mulN,addN,wrapN _ bd,wrapN _ bb',wrapN _ bt,mask32 _ bt,wrapN _ bc',wrapN _ bw,wrapN _ ba',wrapN _ bh1,wrapN _ bh,wrapM (x * y)];rw [hhi]
 go_ret2
 exact ⟨rfl,rfl⟩

theorem add64_run (x y c : Nat) (hc : c ≤ 1) (w : World) : (callFunc 82 #[.int .u64 x,.int .u64 y,.int .u64 c]).run Tryz.prog w =
  .ok (.value (.tuple #[.int .u64 (((x + y + c) % 18446744073709551616 : Nat) : Int),.int .u64 (((x + y + c) / 18446744073709551616 : Nat) : Int)])) w:=by
 rw [run_callFunc_extern Tryz.func82 (by kernel_rfl) (by kernel_rfl) (by kernel_rfl) (e:=add64Entry) (by kernel_rfl),run_add64 x y c (by omega) (by omega) (by omega) (by omega)];simp only [Result.andThen]
 congr 5 <;> omega
theorem add64_int (x y c : Int) (hx : 0 ≤ x) (hy : 0 ≤ y) (hc0 : 0 ≤ c) (hc : c ≤ 1) (w : World) : (callFunc 82 #[.int .u64 x,.int .u64 y,.int .u64 c]).run Tryz.prog w =
  .ok (.value (.tuple #[.int .u64 ((x + y + c) % 18446744073709551616),.int .u64 ((x + y + c) / 18446744073709551616)])) w:=by
 obtain ⟨x,rfl⟩:=Int.eq_ofNat_of_zero_le hx;obtain ⟨y,rfl⟩:=Int.eq_ofNat_of_zero_le hy;obtain ⟨c,rfl⟩:=Int.eq_ofNat_of_zero_le hc0;refine (add64_run x y c (by omega) w).trans ?_
 congr 5 <;> omega
theorem add64_int0 (x y : Int) (hx : 0 ≤ x) (hy : 0 ≤ y) (w : World) : (callFunc 82 #[.int .u64 x,.int .u64 y,.int .u64 0]).run Tryz.prog w =
  .ok (.value (.tuple #[.int .u64 ((x + y) % 18446744073709551616),.int .u64 ((x + y) / 18446744073709551616)])) w:=by
 simpa using add64_int x y 0 hx hy (Int.le_refl 0) (by decide) w

end Go.Proofs.YtlcbhbahchiofaaGreatDoor
/-
  WORDS OF 64 BITS: the field's sums of two words: low, high, plus.
-/
namespace Go.Proofs.YtlcbhbahchiofaaGreatDoor
open Go.RowKit Go.IntWalk

theorem size_sum (cs : Array Value) (h : cs.size = 2) : (Tryz.prog.info? 159).map (·.size) = some cs.size:=by
 rw [h]
 kernel_rfl

theorem low_any (hi lo : Nat) (hl : lo < 18446744073709551616) (w : World) :
  Calls Tryz.prog 101 #[.agg (Us [hi,lo]).toArray] w fun e w'=>e = .returned (.int .u64 ((lo % 2251799813685248 : Nat) : Int)) ∧ Below w.heap.size w w':=by
 have e0 : (Us [hi,lo]).toArray = #[.int .u64 (hi : Int),.int .u64 (lo : Int)]:=rfl;rw [e0]
 go_enter Tryz.func101,Tryz.ntmps101
 go_wp2
 rw [maskW lo hl]
 go_ret
 exact ⟨rfl,(Below.refl _ _).alloc (Nat.le_refl _) _⟩

theorem high_any (hi lo : Nat) (hh : hi < 2251799813685248) (hl : lo < 18446744073709551616) (w : World) :
  Calls Tryz.prog 102 #[.agg (Us [hi,lo]).toArray] w fun e w'=>e = .returned (.int .u64 ((hi * 8192 + lo / 2251799813685248 : Nat) : Int)) ∧ Below w.heap.size w w':=by
 have e0 : (Us [hi,lo]).toArray = #[.int .u64 (hi : Int),.int .u64 (lo : Int)]:=rfl;rw [e0]
 go_enter Tryz.func102,Tryz.ntmps102
 go_wp2
 have e1 : (hi : Int) * 8192 = ((hi * 8192 : Nat) : Int):=by omega
 rw [e1,div51,orW 13 (hi * 8192) (lo / 2251799813685248) (by omega) (by omega) (by omega) (by omega)]
 go_ret
 exact ⟨rfl,(Below.refl _ _).alloc (Nat.le_refl _) _⟩

set_option maxHeartbeats 1000000 in
theorem plus_any (hi lo a b : Nat) (hh : hi < 18446744073709551616) (hl : lo < 18446744073709551616) (ha : a < 18446744073709551616) (hb : b < 18446744073709551616) (w : World) :
  Calls Tryz.prog 100 #[.agg (Us [hi,lo]).toArray,.int .u64 a,.int .u64 b] w fun e w' =>
   e = .returned (.agg (Us [(hi + a * b / 18446744073709551616 + (lo + a * b % 18446744073709551616) / 18446744073709551616) % 18446744073709551616,(lo + a * b % 18446744073709551616) % 18446744073709551616]).toArray) ∧ Below w.heap.size w w':=by
 have e0 : (Us [hi,lo]).toArray = #[.int .u64 (hi : Int),.int .u64 (lo : Int)]:=rfl;rw [e0];have HM:=fun w1=>Lib.hid (mul64_any a b ha hb w1);generalize a * b / 18446744073709551616 = mh at *;generalize hml : a * b % 18446744073709551616 = ml at *
 have hml : ml < 18446744073709551616:=by omega
 have hc1 : ((lo : Int) + (ml : Int)) / 18446744073709551616 ≤ 1:=by omega
 have hc0 : (0 : Int) ≤ ((lo : Int) + (ml : Int)) / 18446744073709551616:=by omega
 go_enter Tryz.func100,Tryz.ntmps100
 go_wp2_with (fail)
 refine (HM _).out.mono ?_
 rintro e w1 ⟨rfl,rfl⟩
 go_wp2_with (first | simp only [add64_int0 lo ml (by omega) (by omega)] | simp only [add64_int hi mh _ (by omega) (by omega) hc0 hc1])
 refine bodyPost_ret (results_cell_row rfl _ _ (w.heap.size + 1) 159 _ (0,0) _ rfl (heap_alloc2_new w _ _) Tryz.underlying159 rfl (size_sum _ rfl)) rfl ⟨?_,((Below.refl _ _).alloc (Nat.le_refl _) _).alloc (by simp) _⟩
 rfl
end Go.Proofs.YtlcbhbahchiofaaGreatDoor
/-
  PLAIN NUMBERS: five limbs of 51 bits as numbers modulo p: carries, sums, differences, products, the number below p. No program is imported.
-/
namespace Nums

def lv : List Nat → Nat
  | []=>0
  | d :: ds=>d + 2251799813685248 * lv ds

theorem lv5 (a0 a1 a2 a3 a4 : Nat) : lv [a0,a1,a2,a3,a4] = a0 + 2251799813685248 * (a1 + 2251799813685248 * (a2 + 2251799813685248 * (a3 + 2251799813685248 * a4))):=by
 simp only [lv,Nat.mul_zero,Nat.add_zero]

structure EB (l : List Nat) (x : F) : Prop where
  len : l.length = 5
  bnd : ∀ y ∈ l,y < 2251799813947392
  val : fof (lv l) = x

theorem five {l : List Nat} (h : l.length = 5) : ∃ a0 a1 a2 a3 a4,l = [a0,a1,a2,a3,a4]:=by
 match l,h with
 | [a0,a1,a2,a3,a4],_=>exact ⟨a0,a1,a2,a3,a4,rfl⟩

theorem EB.five {l : List Nat} {x : F} (h : EB l x) : ∃ a0 a1 a2 a3 a4,l = [a0,a1,a2,a3,a4] ∧ a0 < 2251799813947392 ∧ a1 < 2251799813947392 ∧ a2 < 2251799813947392 ∧ a3 < 2251799813947392 ∧ a4 < 2251799813947392 ∧ fof (lv [a0,a1,a2,a3,a4]) = x:=by
 obtain ⟨a0,a1,a2,a3,a4,rfl⟩:=Nums.five h.len;have hb:=h.bnd;exact ⟨a0,a1,a2,a3,a4,rfl,hb _ (by simp),hb _ (by simp),hb _ (by simp),hb _ (by simp),hb _ (by simp),h.val⟩

theorem EB.mk5 {a0 a1 a2 a3 a4 : Nat} {x : F} (h0 : a0 < 2251799813947392) (h1 : a1 < 2251799813947392) (h2 : a2 < 2251799813947392) (h3 : a3 < 2251799813947392) (h4 : a4 < 2251799813947392) (h : fof (lv [a0,a1,a2,a3,a4]) = x) :
  EB [a0,a1,a2,a3,a4] x:=by
 refine ⟨rfl,?_,h⟩
 intro y hy
 simp only [List.mem_cons,List.not_mem_nil,or_false] at hy
 rcases hy with rfl | rfl | rfl | rfl | rfl <;> assumption

theorem p_eq : p = 57896044618658097711785492504343953926634992332820282019728792003956564819949:=by decide

def crd (a0 a1 a2 a3 a4 : Nat) : List Nat :=
  [a0 % 2251799813685248 + 19 * (a4 / 2251799813685248),a1 % 2251799813685248 + a0 / 2251799813685248,a2 % 2251799813685248 + a1 / 2251799813685248,a3 % 2251799813685248 + a2 / 2251799813685248,a4 % 2251799813685248 + a3 / 2251799813685248]

theorem fof_p (a k : Nat) : fof (a + p * k) = fof a:=fof_eq (by rw [Nat.add_mul_mod_self_left])

theorem crd_lv (a0 a1 a2 a3 a4 : Nat) : fof (lv (crd a0 a1 a2 a3 a4)) = fof (lv [a0,a1,a2,a3,a4]):=by
 have h : lv (crd a0 a1 a2 a3 a4) + p * (a4 / 2251799813685248) = lv [a0,a1,a2,a3,a4]:=by
  unfold crd
  rw [lv5,lv5,p_eq]
  omega
 rw [← h,fof_p]

theorem crd_eb {a0 a1 a2 a3 a4 : Nat} (h0 : a0 < 18446744073709551616) (h1 : a1 < 18446744073709551616) (h2 : a2 < 18446744073709551616) (h3 : a3 < 18446744073709551616) (h4 : a4 < 18446744073709551616) :
  EB (crd a0 a1 a2 a3 a4) (fof (lv [a0,a1,a2,a3,a4])) :=
 EB.mk5 (by omega) (by omega) (by omega) (by omega) (by omega) (crd_lv a0 a1 a2 a3 a4)

theorem add_lv (a0 a1 a2 a3 a4 b0 b1 b2 b3 b4 : Nat) : lv [a0 + b0,a1 + b1,a2 + b2,a3 + b3,a4 + b4] = lv [a0,a1,a2,a3,a4] + lv [b0,b1,b2,b3,b4]:=by
 rw [lv5,lv5,lv5]
 omega

theorem sub_lv {a0 a1 a2 a3 a4 b0 b1 b2 b3 b4 : Nat} (h0 : b0 < 2251799813947392) (h1 : b1 < 2251799813947392) (h2 : b2 < 2251799813947392) (h3 : b3 < 2251799813947392) (h4 : b4 < 2251799813947392) :
  fof (lv [a0 + (4503599627370458 - b0),a1 + (4503599627370494 - b1),a2 + (4503599627370494 - b2),a3 + (4503599627370494 - b3),a4 + (4503599627370494 - b4)]) = fof (lv [a0,a1,a2,a3,a4]) - fof (lv [b0,b1,b2,b3,b4]):=by
 have h : lv [a0 + (4503599627370458 - b0),a1 + (4503599627370494 - b1),a2 + (4503599627370494 - b2),a3 + (4503599627370494 - b3),a4 + (4503599627370494 - b4)] + lv [b0,b1,b2,b3,b4] = lv [a0,a1,a2,a3,a4] + p * 2:=by
  rw [lv5,lv5,lv5,p_eq]
  omega
 have h2 : fof (lv [a0,a1,a2,a3,a4]) = fof (lv [a0 + (4503599627370458 - b0),a1 + (4503599627370494 - b1),a2 + (4503599627370494 - b2),a3 + (4503599627370494 - b3),a4 + (4503599627370494 - b4)]) + fof (lv [b0,b1,b2,b3,b4]):=by
  rw [← fof_add,h,fof_p]
 rw [h2];generalize fof (lv [a0 + (4503599627370458 - b0),a1 + (4503599627370494 - b1),a2 + (4503599627370494 - b2),a3 + (4503599627370494 - b3),a4 + (4503599627370494 - b4)]) = u;generalize fof (lv [b0,b1,b2,b3,b4]) = v
 grind only

theorem turn_lv (c0 c1 c2 c3 c4 : Nat) : fof (lv [19 * c4,c0,c1,c2,c3]) = fof 2251799813685248 * fof (lv [c0,c1,c2,c3,c4]):=by
 have h : lv [19 * c4,c0,c1,c2,c3] + p * c4 = 2251799813685248 * lv [c0,c1,c2,c3,c4]:=by
  rw [lv5,lv5,p_eq]
  omega
 rw [← fof_mul,← h,fof_p]

theorem more_lv (s0 s1 s2 s3 s4 v c0 c1 c2 c3 c4 : Nat) : lv [s0 + v * c0,s1 + v * c1,s2 + v * c2,s3 + v * c3,s4 + v * c4] = lv [s0,s1,s2,s3,s4] + v * lv [c0,c1,c2,c3,c4]:=by
 rw [lv5,lv5,lv5]
 grind only

/-! ### The number below p -/
def up1 (l : List Nat) (u : Nat) : Nat → Nat
  | 0=>u
  | k + 1=>(l[k]! + up1 l u k) / 2251799813685248

def up2 (l : List Nat) (u : Nat) : Nat → Nat
  | 0=>u
  | k + 1=>(up2 l u k + l[k]!) / 2251799813685248

def whs (l : List Nat) (u k : Nat) : List Nat:=(List.range 5).map fun j=>if j < k then (up2 l u j + l[j]!) % 2251799813685248 else l[j]!
def whole (l : List Nat) : List Nat:=whs l (up1 l 19 5 * 19) 5

theorem whole_all {l : List Nat} {x : F} (h : EB l x) : (whole l).length = 5 ∧ (∀ y ∈ whole l,y < 2251799813685248) ∧ lv (whole l) = x.val:=by
 refine ⟨by simp [whole,whs],?_,?_⟩
 ·intro y hy
  obtain ⟨j,hj,rfl⟩:=List.mem_map.1 hy;rw [if_pos (by simpa using hj)];exact Nat.mod_lt _ (by decide)
 ·obtain ⟨a0,a1,a2,a3,a4,rfl,h0,h1,h2,h3,h4,hv⟩:=h.five
  have hw : whole [a0,a1,a2,a3,a4] = [(up2 [a0,a1,a2,a3,a4] (up1 [a0,a1,a2,a3,a4] 19 5 * 19) 0 + a0) % 2251799813685248,(up2 [a0,a1,a2,a3,a4] (up1 [a0,a1,a2,a3,a4] 19 5 * 19) 1 + a1) % 2251799813685248,(up2 [a0,a1,a2,a3,a4] (up1 [a0,a1,a2,a3,a4] 19 5 * 19) 2 + a2) % 2251799813685248,(up2 [a0,a1,a2,a3,a4] (up1 [a0,a1,a2,a3,a4] 19 5 * 19) 3 + a3) % 2251799813685248,(up2 [a0,a1,a2,a3,a4] (up1 [a0,a1,a2,a3,a4] 19 5 * 19) 4 + a4) % 2251799813685248]:=rfl;have hu : up1 [a0,a1,a2,a3,a4] 19 5 = (a4 + (a3 + (a2 + (a1 + (a0 + 19) / 2251799813685248) / 2251799813685248) / 2251799813685248) / 2251799813685248) / 2251799813685248:=rfl;rw [← hv,fof_val,hw];generalize hq : up1 [a0,a1,a2,a3,a4] 19 5 = q at *;have g0 : up2 [a0,a1,a2,a3,a4] (q * 19) 0 = q * 19:=rfl;have g1 : up2 [a0,a1,a2,a3,a4] (q * 19) 1 = (up2 [a0,a1,a2,a3,a4] (q * 19) 0 + a0) / 2251799813685248:=rfl;have g2 : up2 [a0,a1,a2,a3,a4] (q * 19) 2 = (up2 [a0,a1,a2,a3,a4] (q * 19) 1 + a1) / 2251799813685248:=rfl;have g3 : up2 [a0,a1,a2,a3,a4] (q * 19) 3 = (up2 [a0,a1,a2,a3,a4] (q * 19) 2 + a2) / 2251799813685248:=rfl;have g4 : up2 [a0,a1,a2,a3,a4] (q * 19) 4 = (up2 [a0,a1,a2,a3,a4] (q * 19) 3 + a3) / 2251799813685248:=rfl;generalize up2 [a0,a1,a2,a3,a4] (q * 19) 0 = e0 at *;generalize up2 [a0,a1,a2,a3,a4] (q * 19) 1 = e1 at *;generalize up2 [a0,a1,a2,a3,a4] (q * 19) 2 = e2 at *;generalize up2 [a0,a1,a2,a3,a4] (q * 19) 3 = e3 at *;generalize up2 [a0,a1,a2,a3,a4] (q * 19) 4 = e4 at *;have hL:=lv5 a0 a1 a2 a3 a4;generalize lv [a0,a1,a2,a3,a4] = L at *;rw [lv5];have hp:=p_eq;generalize p = P at *
  have ha : q < 2:=by omega
  have hb : q = 0 → L < P:=by omega
  have hc : q = 1 → P ≤ L:=by omega
  have hd : L < 2 * P:=by omega
  rcases (show q = 0 ∨ q = 1 by omega) with rfl | rfl
  ·rw [Nat.mod_eq_of_lt (hb rfl)]
   clear hu hc hd hv;have:=hb rfl
   omega
  ·have hge:=hc rfl
   have hm : L % P = L - P:=by rw [Nat.mod_eq_sub_mod hge,Nat.mod_eq_of_lt (by omega)]
   rw [hm];clear hu hb hv hm
   omega

end Nums
/-
  THE FIELD'S NUMBERS: carried, Add, Sub, Small.
-/
namespace Go.Proofs.YtlcbhbahchiofaaGreatDoor
open Go.RowKit Go.IntWalk Nums

theorem size_el (cs : Array Value) (h : cs.size = 5) : (Tryz.prog.info? 110).map (·.size) = some cs.size:=by
 rw [h]
 kernel_rfl
def z5 : Array Value:=(Us [0,0,0,0,0]).toArray
theorem len_us {l : List Nat} (h : l.length = 5) : (Us l).toArray.size = 5:=by rw [List.size_toArray,Us_len,h]

theorem crd_cell0 (a c : Nat) (ha : a < 18446744073709551616) (hc : c < 18446744073709551616) :
  IntKind.u64.wrap (bits .and .u64 (a : Int) 2251799813685247 + 19 * ((c : Int) / 2251799813685248)) = ((a % 2251799813685248 + 19 * (c / 2251799813685248) : Nat) : Int):=by
 rw [maskW a ha,IntKind.wrap_u64]
 omega
theorem crd_cell (a c : Nat) (ha : a < 18446744073709551616) (hc : c < 18446744073709551616) :
  IntKind.u64.wrap (bits .and .u64 (a : Int) 2251799813685247 + (c : Int) / 2251799813685248) = ((a % 2251799813685248 + c / 2251799813685248 : Nat) : Int):=by
 rw [maskW a ha,IntKind.wrap_u64]
 omega

set_option maxRecDepth 100000 in
set_option maxHeartbeats 1000000 in
theorem carried_f (a0 a1 a2 a3 a4 : Nat) (h0 : a0 < 18446744073709551616) (h1 : a1 < 18446744073709551616) (h2 : a2 < 18446744073709551616) (h3 : a3 < 18446744073709551616) (h4 : a4 < 18446744073709551616) (w : World) :
  Calls Tryz.prog 103 #[.agg (Us [a0,a1,a2,a3,a4]).toArray] w fun e w'=>e = .returned (.agg (Us (crd a0 a1 a2 a3 a4)).toArray) ∧ Below w.heap.size w w':=by
 have e0 : (Us [a0,a1,a2,a3,a4]).toArray = #[.int .u64 (a0 : Int),.int .u64 (a1 : Int),.int .u64 (a2 : Int),.int .u64 (a3 : Int),.int .u64 (a4 : Int)]:=rfl;rw [e0]
 go_enter Tryz.func103,Tryz.ntmps103
 go_wp2
 rw [crd_cell0 a0 a4 h0 h4,crd_cell a1 a0 h1 h0,crd_cell a2 a1 h2 h1,crd_cell a3 a2 h3 h2,crd_cell a4 a3 h4 h3];refine bodyPost_ret (results_cell_row rfl _ _ (w.heap.size + 1) 110 _ (0,0) _ rfl (blk3_1 w _ _ _ _) Tryz.underlying110 rfl (size_el _ rfl)) rfl ⟨rfl,?_⟩;exact (((Below.refl _ _).alloc (Nat.le_refl _) _).alloc (by simp) _).alloc (by simp; omega) _

/-! ### Rows whose first k words have turned -/
def mx (f : Nat → Nat) (l : List Nat) (k : Nat) : List Nat:=(List.range 5).map fun j=>if j < k then f j else l[j]!
theorem mx_len (f : Nat → Nat) (l : List Nat) (k : Nat) : (mx f l k).length = 5:=by simp [mx]
theorem mx_zero (f : Nat → Nat) {l : List Nat} (h : l.length = 5) : mx f l 0 = l:=by
 obtain ⟨a0,a1,a2,a3,a4,rfl⟩:=five h
 rfl
theorem mx_get (f : Nat → Nat) (l : List Nat) {k : Nat} (h : k < 5) : (mx f l k)[k]! = l[k]!:=by
 rw [getElem!_pos _ k (by rw [mx_len]; exact h)]
 simp [mx]
theorem mx_set (f : Nat → Nat) (l : List Nat) {k : Nat} : (mx f l k).set k (f k) = mx f l (k + 1):=by
 apply List.ext_getElem (by simp [mx])
 intro j h1 h2
 rw [List.getElem_set];simp only [mx,List.getElem_map,List.getElem_range]
 by_cases hjk : k = j
 ·subst hjk
  simp
 ·rw [if_neg hjk]
  by_cases hlt : j < k
  ·rw [if_pos hlt,if_pos (by omega)]
  ·rw [if_neg hlt,if_neg (by omega)]

theorem eb_get {l : List Nat} {x : F} (h : EB l x) {k : Nat} (hk : k < 5) : l[k]! < 2251799813947392 :=
 h.bnd _ (by rw [getElem!_pos l k (by rw [h.len]; exact hk)]; exact List.getElem_mem _)

set_option maxRecDepth 100000 in
set_option maxHeartbeats 1000000 in
theorem eladd_f {a b : List Nat} {x y : F} (ha : EB a x) (hb : EB b y) (w : World) :
  Calls Tryz.prog 108 #[.agg (Us a).toArray,.agg (Us b).toArray] w fun e w'=>∃ r,EB r (x + y) ∧ e = .returned (.agg (Us r).toArray) ∧ Below w.heap.size w w':=by
 go_enter Tryz.func108,Tryz.ntmps108
 go_wp2
 go_loopw [6] (fun i wr=>∃ k : Nat,k ≤ 5 ∧ i = .int .i64 k ∧ Blk wr w.heap.size 110 (Us (mx (fun j=>a[j]! + b[j]!) a k)).toArray ∧ Blk wr (w.heap.size + 1) 110 (Us b).toArray ∧ Blk wr (w.heap.size + 1 + 1) 110 z5 ∧ Below w.heap.size w wr) (fun i _=>5 - (intOf i).toNat)
 case atStart =>
  refine ⟨0,by omega,rfl,?_,blk3_1 w _ _ _ _,blk3_2 w _ _ _ _,(((Below.refl _ _).alloc (Nat.le_refl _) _).alloc (by simp) _).alloc (by simp; omega) _⟩;rw [mx_zero _ ha.len];exact blk3_0 w _ _ _ _
 case round =>
  obtain ⟨k,hk,rfl,h0,h1,h2,hbel⟩:=hrel
  by_cases hlt : k < 5
  ·have hN:=mx_set (fun j=>a[j]! + b[j]!) a (k:=k)
   have hg:=mx_get (fun j=>a[j]! + b[j]!) a hlt;have c0:=(h0.drew.cell k).trans (Us_at (by rw [mx_len]; exact hlt));rw [hg] at c0;have c1:=(h1.drew.cell k).trans (Us_at (by rw [hb.len]; exact hlt));have b0:=eb_get ha hlt;have b1:=eb_get hb hlt;have hf:=h0.drew.free k;generalize a[k]! = u at *;generalize b[k]! = v at *
   have q1 : IntKind.u64.wrap ((u : Int) + (v : Int)) = ((u + v : Nat) : Int):=by rw [IntKind.wrap_u64]; omega
   have q2 : (0 : Int) ≤ (k : Int):=by omega
   have HK:=Lib.hid (And.intro h0 (And.intro h1 (And.intro h2 (And.intro hbel hN))));clear h0 h1 h2 hbel hN hg
   go_wp2
   go_still_tail 11,(by kernel_rfl)
   go_wp2
   go_roundw
   case rel =>
    obtain ⟨h0,h1,h2,hbel,hN⟩:=HK.out;have h4:=h0.set k (.int .u64 ((u + v : Nat) : Int));rw [Us_set,hN] at h4;exact ⟨k + 1,by omega,by go_num,h4,h1.far (by simp) _,h2.far (by simp; omega) _,(hbel.setCell (by simp) _).drew⟩
   case measure=>simp [intOf]; omega
  ·obtain rfl : k = 5:=by omega
   obtain ⟨a0,a1,a2,a3,a4,rfl,p0,p1,p2,p3,p4,pv⟩:=ha.five;obtain ⟨b0,b1,b2,b3,b4,rfl,r0,r1,r2,r3,r4,rv⟩:=hb.five;have e5 : mx (fun j=>[a0,a1,a2,a3,a4][j]! + [b0,b1,b2,b3,b4][j]!) [a0,a1,a2,a3,a4] 5 = [a0 + b0,a1 + b1,a2 + b2,a3 + b3,a4 + b4]:=rfl;rw [e5] at h0;have HC:=fun w1=>Lib.hid (carried_f (a0 + b0) (a1 + b1) (a2 + b2) (a3 + b3) (a4 + b4) (by omega) (by omega) (by omega) (by omega) (by omega) w1);have hE:=crd_eb (a0:=a0 + b0) (a1:=a1 + b1) (a2:=a2 + b2) (a3:=a3 + b3) (a4:=a4 + b4) (by omega) (by omega) (by omega) (by omega) (by omega);rw [add_lv,fof_add,pv,rv] at hE;generalize crd (a0 + b0) (a1 + b1) (a2 + b2) (a3 + b3) (a4 + b4) = r at *;have hz : (Us [a0 + b0,a1 + b1,a2 + b2,a3 + b3,a4 + b4]).toArray.size = 5:=rfl;generalize (Us [a0 + b0,a1 + b1,a2 + b2,a3 + b3,a4 + b4]).toArray = cs at *;have HK:=Lib.hid (And.intro h2 hbel);clear h1 h2 hbel ha hb p0 p1 p2 p3 p4 pv r0 r1 r2 r3 r4 rv e5;have hzr:=len_us hE.len
   go_wp2_with (refine wpList_load_row rfl 110 _ rfl w.heap.size rfl 110 cs (0,0) _ h0 Tryz.underlying110 rfl (size_el _ hz) ?_)
   refine (HC _).out.mono ?_
   rintro e w1 ⟨rfl,hw1⟩
   obtain ⟨h2,hbel⟩:=HK.out;have hb2:=hbel.trans (hw1.mono hbel.size);have h4:=h2.below hw1 h2.lt
   go_wp2_with (refine wpList_store_row rfl 110 _ _ rfl (w.heap.size + 1 + 1) rfl (Us r).toArray rfl 110 _ h4 (size_el _ hzr) (by rw [hzr]; rfl) (Us_one _) ?_)
   refine bodyPost_ret (results_cell_row rfl _ _ (w.heap.size + 1 + 1) 110 (Us r).toArray (0,0) _ rfl (h4.row _) Tryz.underlying110 rfl (size_el _ hzr)) rfl ⟨r,hE,rfl,?_⟩;exact below_setRow hb2 (by omega) _
end Go.Proofs.YtlcbhbahchiofaaGreatDoor
