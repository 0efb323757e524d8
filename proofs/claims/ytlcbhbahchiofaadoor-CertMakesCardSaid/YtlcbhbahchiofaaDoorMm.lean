/-
  SEVERAL TEXTS IN ONE: Vi, Vj, CtS, RgIx, RgTw, RgHs, RgKy, RgSig, RgW, RgN, RgO.
-/
import Derived.Test.YtlcbhbahchiofaaDoorMl
import Derived.Test.YtlcbhbahchiofaaDoorMk
import Derived.Test.YtlcbhbahchiofaaDoorMb
import Derived.Test.YtlcbhbahchiofaaDoorMc
import Derived.Test.YtlcbhbahchiofaaDoorMh
import Derived.Laws.Cover3
import Derived.Maps.OwnSet
import Derived.DeepKeys4
import Derived.Carry
/-
  REGIONS THAT ARE RECKONED WHOLE; objects behind pointers; bytes, hashes, numbers as elements.
-/
namespace Go.Proofs.YtlcbhbahchiofaaDoor
open Go.RowKit Go.IntWalk

/-! ### Whole regions -/
section
variable {P : Program} {b : Base} {T : List TyR} {Q : Exit → Act → World → Prop} {N : Nat} {E E' E2 : SE} {L L' L2 : List LV} {R : List Res} {F M : World → Prop}
theorem s_auto {id : Nat} {l : List Oper} {y : Code} (hT : OkT P T) (h : autoS T l.toArray N l E L = ([],E',L')) (hn : cS P b y Q N ⟨E',L',R,F,M⟩) : cS P b (.seq (.region id l.toArray false) y) Q N ⟨E,L,R,F,M⟩ :=
 s_reg fun _ hK=>l_autoS hT h (s_end (hK _ hn))
theorem s_autoE {id : Nat} {l : List Oper} (hT : OkT P T) (h : autoS T l.toArray N l E L = ([],E',L')) (hn : kS b (Q .normal) N ⟨E',L',R,F,M⟩) : cS P b (.region id l.toArray false) Q N ⟨E,L,R,F,M⟩ :=
 s_lit (l_autoS hT h (s_end hn))
theorem s_pure {c : Code} (φ : Prop) (h : ∀ w,F w → M w → φ) (hn : φ → cS P b c Q N ⟨E,L,R,F,M⟩) : cS P b c Q N ⟨E,L,R,F,M⟩:=fun a w hs=>by
 have hs':=hs;obtain ⟨G,S,h1,h2,h3⟩:=hs;exact hn (h w h3.all.now.1 h3.all.now.2) a w hs'
theorem s_regA {id : Nat} {l l' : List Oper} {y : Code} (hT : OkT P T) (h : autoS T l.toArray N l E L = (l',E',L')) (hn : ∀ K : Act → World → Prop,(∀ e',cS P b y Q N e' → kS b K N e') → lS P b l.toArray (Exit.then K Q) N l' ⟨E',L',R,F,M⟩) : cS P b (.seq (.region id l.toArray false) y) Q N ⟨E,L,R,F,M⟩ :=
 s_reg fun K hK=>l_autoS hT h (hn K hK)
end

/-! ### Objects behind pointers -/
def ObjF (g : Nat) (t : TypeId) (ps : List Pt) (w : World) : Prop:=Blk w g t (catP ps) ∧ OkP ps
instance {g : Nat} {t : TypeId} {ps : List Pt} : Pst (ObjF g t ps):=⟨fun _ _ h hb=>⟨h.1.later hb,h.2⟩⟩
section
variable {P : Program} {b : Base} {T : List TyR} {ops : Array Oper} {Q : Exit → Act → World → Prop} {N : Nat} {E : SE} {L : List LV} {R : List Res} {F M : World → Prop} {o : Oper} {k g off : Nat} {t : TypeId} {x : Operand} {ty : TypeId} {ps : List Pt} {q : SQ}
theorem load_obj (hT : OkT P T) (ho : o.op = .load t x) (hx : evS E x = some (.v (.pointer (some ⟨g,off,none⟩)))) (hl : loadS T ps t off = some q) {G : Nat → Nat} {a : Act} {w : World} (ha : Fr N (denE G E) a) (h : ObjF g ty ps w) : q.Ok ∧ (execOp a.eval o).run P w = .ok (.value q.den) w:=by
 obtain ⟨h1,h2⟩:=loadS_ok hT h.2 hl;refine ⟨h1,?_⟩;have e:=ha.eval (evS_ok hx)
 unfold execOp
 simp only [ho,e,SV.den,SQ.den,SC.den,h2 h.1,Sem.run_bind,Sem.run_pure,Result.andThen_ok]
theorem l_ldO {rest : List Oper} (hT : OkT P T) (hg : o.guard = none) (hd : o.dst = some k) (hk : Nat.blt k N = true) (ho : o.op = .load t x) (hx : evS E x = some (.v (.pointer (some ⟨g,off,none⟩)))) (hl : loadS T ps t off = some q) (h : ∀ G S w,View G S L R F M w → ObjF g ty ps w)
  (hn : lS P b ops Q N rest ⟨(k,.q q) :: E,L,R,F,M⟩) : lS P b ops Q N (o :: rest) ⟨E,L,R,F,M⟩:=fun a w ⟨G,S,h1,h2,h3⟩=>by
 obtain ⟨h4,h5⟩:=load_obj hT ho hx hl h1 (h G S w h3.view);refine wpl_go (oneS hg) h5 ?_;rw [hd];exact hn _ w ⟨G,S,h1.put hk _,h2.cons h4,h3⟩
end
theorem obj_fact {g : Nat} {t : TypeId} {ps : List Pt} {L : List LV} {R : List Res} {F M : World → Prop} (h : ∀ w,F w → M w → ObjF g t ps w) : ∀ G S w,View G S L R F M w → ObjF g t ps w:=fun _ _ w hv=>h w hv.fact hv.fresh

/-! ### Elements -/
def eB (x : UInt8) : SQ:=.c (.v (.int .u8 (x.toNat : Int)))
def eI (i : Int) : SQ:=.c (.v (.int .i64 i))
def eY (n : Nat) (l : List UInt8) : SQ:=.p [.agg n (By l).toArray]
theorem eB_ok (x : UInt8) : OkP (eB x).parts1 ∧ (eB x).cl.length = 1:=⟨fun p hp=>by rw [List.mem_singleton.1 hp]; exact ⟨trivial,rfl,rfl⟩,rfl⟩
theorem eI_ok (i : Int) : OkP (eI i).parts1 ∧ (eI i).cl.length = 1:=⟨fun p hp=>by rw [List.mem_singleton.1 hp]; exact ⟨trivial,rfl,rfl⟩,rfl⟩
theorem eY_ok {n : Nat} {l : List UInt8} (h : l.length = n) : OkP (eY n l).parts1 ∧ (eY n l).cl.length = n:=by
 have h1 : (By l).toArray.size = n:=by rw [List.size_toArray,By_len,h]
 exact ⟨fun p hp=>by rw [List.mem_singleton.1 hp]; exact ⟨h1,By_one l⟩,by rw [SQ.cl,Array.length_toList]; exact h1⟩
theorem okF_B (l : List UInt8) : OkF 1 eB l:=fun x _=>eB_ok x
theorem okF_Y {n : Nat} {ls : List (List UInt8)} (h : ∀ l ∈ ls,l.length = n) : OkF n (eY n) ls:=fun l hl=>eY_ok (h l hl)
theorem flat_B : ∀ l : List UInt8,flatF eB l = By l
 | []=>rfl
 | x :: l=>by
  have:=flat_B l;simp only [flatF,List.flatMap_cons] at this ⊢;rw [this]
  rfl
theorem Rd.sb {A : Option Addr} {c : Nat} {l : List UInt8} {w : World} (h : Rd 1 eB A c l w) : SB w (.slice A l.length c) l:=by
 obtain ⟨h1,h2,h3,_,h5⟩:=h;refine ⟨A,c,rfl,h1,h2,h3,fun hl=>?_⟩;obtain ⟨b,o,e,hb,hr⟩:=h5 hl;refine ⟨⟨b,o,none⟩,e,Nat.zero_le _,hb,fun j x hx=>?_⟩;have:=hr j x hx 0 (.int .u8 (x.toNat : Int)) rfl;rw [Addr.add_mid]
 simpa using this
theorem Rd.of_sb {A : Option Addr} {c n : Nat} {l : List UInt8} {w : World} (h : SB w (.slice A n c) l) : n = l.length ∧ Rd 1 eB A c l w:=by
 obtain ⟨A',c',e,h1,h2,h3,h4⟩:=h
 injection e with e1 e2 e3
 subst e1 e2 e3;refine ⟨rfl,h1,h2,h3,okF_B l,fun hl=>?_⟩;obtain ⟨ad,e,_,h6,h7⟩:=h4 hl;obtain ⟨b,o,sp⟩:=ad
 have hsp : sp = none:=by
  have h8:=h7 0 l[0] (List.getElem?_eq_getElem hl)
  cases sp with
  | none=>rfl
  | some s =>
   unfold World.cell? Addr.add at h8
   simp only [if_true] at h8
   split at h8
   ·simp at h8
   ·cases h8
 subst hsp;refine ⟨b,o,e,h6,fun i x hi j v hj=>?_⟩;have h8:=h7 i x hi;rw [Addr.add_mid] at h8
 cases j with
 | zero =>
  have e : v = .int .u8 (x.toNat : Int):=by
   have : (eB x).cl[0]? = some (.int .u8 (x.toNat : Int)):=rfl;rw [this] at hj;exact (Option.some.inj hj).symm
  rw [e,Nat.one_mul,Nat.add_zero];exact h8
 | succ j =>
  have : (eB x).cl[j + 1]? = none:=rfl;rw [this] at hj
  cases hj
/-! ### Numbers -/
theorem wrapI {m r : Int} (h : m = r) (h1 : -9223372036854775808 ≤ r) (h2 : r ≤ 9223372036854775807) : IntKind.i64.wrap m = r:=by
 rw [h,i64_left,wrap64_in _ ⟨h1,by omega⟩]
theorem wrapQ (n d : Nat) (h : n ≤ 9223372036854775807) : IntKind.i64.wrap ((n : Int).tdiv (d : Int)) = ((n / d : Nat) : Int):=by
 have h1 : (n : Int).tdiv (d : Int) = ((n / d : Nat) : Int):=by rw [Int.tdiv_eq_ediv_of_nonneg (by omega)]; rfl
 have h2 : n / d ≤ n:=Nat.div_le_self _ _;rw [h1];generalize n / d = q at *;exact wrapI rfl (by omega) (by omega)
theorem one_ok {v : SQ} (h : v.Ok) : ∀ u ∈ [v],u.Ok:=fun u hu=>by rw [List.mem_singleton.1 hu]; exact h
theorem two_ok {v v2 : SQ} (h : v.Ok) (h2 : v2.Ok) : ∀ u ∈ [v,v2],u.Ok:=fun u hu=>by
 rcases List.mem_cons.1 hu with rfl | hu
 ·exact h
 ·exact one_ok h2 u hu
theorem more_ok {v : SQ} {vs : List SQ} (h : v.Ok) (h2 : ∀ u ∈ vs,u.Ok) : ∀ u ∈ v :: vs,u.Ok:=fun u hu=>by
 rcases List.mem_cons.1 hu with rfl | hu
 ·exact h
 ·exact h2 u hu
end Go.Proofs.YtlcbhbahchiofaaDoor
/-
  CALLS IN DRAWN REGIONS BY THEIR CONTRACTS; slices of slices.
-/
namespace Go.Proofs.YtlcbhbahchiofaaDoor
open Go.RowKit Go.IntWalk

instance {p q : World → Prop} [hp : Pst p] [hq : Pst q] : Pst (fun w=>p w ∧ q w):=⟨fun _ _ h hb=>⟨hp.later _ _ h.1 hb,hq.later _ _ h.2 hb⟩⟩
instance {α : Type} {p : α → World → Prop} {l : List α} [hp : ∀ a,Pst (p a)] : Pst (fun w=>∀ a ∈ l,p a w):=⟨fun _ _ h hb a ha=>(hp a).later _ _ (h a ha) hb⟩
theorem g_callS {b : Base} {ops : Array Oper} {Q : Exit → Act → World → Prop} {N : Nat} {T' : List Oper} {G : Nat → Nat} {S : Nat → Prop} {L : List LV} {R : List Res} {F M F' : World → Prop} {w0 : World} {E : SE} {o : Oper} {rest : List (Nat × Oper)} {i k : Nat} {f : FuncId} {xs : Array Operand} {ats : Array TypeId} {svs : List SV} {r : RV} [Pst F']
  (hst : StW b G S L R F M w0) (args : List Value) (hg : o.guard = none) (hd : o.dst = some k) (hk : Nat.blt k N = true) (hf : Own f) (ho : o.op = .call { callee:=.value (.func f),args:=xs,argTypes:=ats }) (hx : evSs E xs.toList = some svs)
  (ha : (∀ x ∈ L,∀ g,x.g = some g → G x.j = g) → svs.map (SV.den G) = args) (hs : Spec f args [] F' (one r)) (hr : r.sv.Ok) (hF : ∀ G S w,View G S L R F M w → F' w)
  (hn : gS Tryd.prog b ops Q N T' G w0 rest ((k,r.sv) :: E)) : gS Tryd.prog b ops Q N T' G w0 ((i,o) :: rest) E :=
 g_call1 hst args hg hd hk hf ho hx ha hr (fun w hv=>(hs w (fun _=>False) (fun _=>False) (fun _ h=>h) (fun _ h=>h.elim) (Stb.of_pst (hF _ _ _ hv) fun _ _ h=>h.elim id id)).mono fun _ _ ⟨_,_,h1,_,h2,_⟩=>⟨h1,h2.up fun _ _ h=>h⟩) hn
theorem l_call0 {b : Base} {ops : Array Oper} {Q : Exit → Act → World → Prop} {N : Nat} {E : SE} {L : List LV} {R : List Res} {F M F' : World → Prop} {o : Oper} {rest : List Oper} {k : Nat} {α : Type} {post : Post α} {f : FuncId} {xs : Array Operand} {ats : Array TypeId} {svs : List SV}
  (args : List Value) (hg : o.guard = none) (hd : o.dst = some k) (hk : Nat.blt k N = true) (hf : Own f) (ho : o.op = .call { callee:=.value (.func f),args:=xs,argTypes:=ats }) (hx : evSs E xs.toList = some svs)
  (ha : ∀ G : Nat → Nat,(∀ x ∈ L,∀ g,x.g = some g → G x.j = g) → svs.map (SV.den G) = args) (hs : Spec f args [] F' post) (hF : ∀ w,F w → M w → F' w)
  (hn : ∀ x,lS Tryd.prog b ops Q N rest ⟨(k,(post.ret x).sv) :: E,L,post.own x ++ R,fun w=>post.p x w ∧ F w,fun w=>post.n x w ∧ M w⟩) : lS Tryd.prog b ops Q N (o :: rest) ⟨E,L,R,F,M⟩ :=
 l_callA (own:=[]) (R':=R) args hg hd hk hf ho hx ha hs hF hn
theorem l_as {P : Program} {b : Base} {ops : Array Oper} {Q : Exit → Act → World → Prop} {N : Nat} {E : SE} {L : List LV} {R : List Res} {F M : World → Prop} {l : List Oper} (k : Nat) {v : SV} (v' : SV) (h : lookS E k = some v) (he : ∀ G,v.den G = v'.den G) (ho : v'.Ok) (hn : lS P b ops Q N l ⟨(k,v') :: E,L,R,F,M⟩) : lS P b ops Q N l ⟨E,L,R,F,M⟩:=fun a w ⟨G,S,h1,h2,h3⟩ =>
 hn a w ⟨G,S,h1.more (h1.get k _ (by rw [look_den,h]; exact congrArg some (he G))),h2.cons ho,h3⟩
theorem l_R {P : Program} {b : Base} {ops : Array Oper} {Q : Exit → Act → World → Prop} {N : Nat} {E : SE} {L : List LV} {R : List Res} {F M : World → Prop} {l : List Oper} (R2 : List Res) (h : R = R2) (hn : lS P b ops Q N l ⟨E,L,R2,F,M⟩) : lS P b ops Q N l ⟨E,L,R,F,M⟩:=h ▸ hn
theorem k_drop {b : Base} {K : Act → World → Prop} {N : Nat} {E : SE} {L : List LV} {R : List Res} {F M : World → Prop} (i : Nat) {r : Res} (hi : R[i]? = some r) (h : kS b K N ⟨E,L,R.eraseIdx i,F,M⟩) : kS b K N ⟨E,L,R,F,M⟩:=fun a w ⟨G,S,h1,h2,h3⟩=>by
 obtain ⟨S1,S2,_,_,_,h4⟩:=h3.let hi;exact h a w ⟨G,S2,h1,h2,h4⟩
structure Seg where
  A : Option Addr
  c : Nat
  l : List UInt8
def eSeg (s : Seg) : SQ:=.c (.v (.slice s.A s.l.length s.c))
theorem eSeg_ok (s : Seg) : OkP (eSeg s).parts1 ∧ (eSeg s).cl.length = 1:=⟨fun p hp=>by rw [List.mem_singleton.1 hp]; exact ⟨trivial,rfl,rfl⟩,rfl⟩
theorem okF_seg (l : List Seg) : OkF 1 eSeg l:=fun s _=>eSeg_ok s
def Seg.rd (s : Seg) (w : World) : Prop:=Rd 1 eB s.A s.c s.l w
instance {s : Seg} : Pst s.rd:=⟨fun _ _ h hb=>h.later hb⟩
theorem Rd.sl {A : Option Addr} {c : Nat} {l : List UInt8} {w : World} (h : Rd 1 eB A c l w) : SL w 0 w.heap.size A l c:=by
 obtain ⟨A',c',e,h1⟩:=h.sb
 injection e with e1 _ e2
 subst e1 e2;exact h1
theorem parts_of {A : Option Addr} {c : Nat} {ss : List Seg} {w : World} (h : Rd 1 eSeg A c ss w) (h2 : ∀ s ∈ ss,s.rd w) : Parts w w.heap.size A (ss.map Seg.l):=fun hl=>by
 obtain ⟨b,o,e,hb,hr⟩:=h.2.2.2.2 (by simpa using hl);refine ⟨⟨b,o,none⟩,e,hb,fun i l hi=>?_⟩;rw [List.getElem?_map] at hi
 cases hs : ss[i]? with
 | none=>rw [hs] at hi; cases hi
 | some s =>
  rw [hs] at hi;simp only [Option.map_some,Option.some.injEq] at hi;subst hi;refine ⟨s.A,s.c,?_,(h2 s (List.mem_of_getElem? hs)).sl⟩;have:=hr i s hs 0 (.slice s.A s.l.length s.c) rfl;rw [Addr.add_mid]
  simpa using this
end Go.Proofs.YtlcbhbahchiofaaDoor
/-
  CERTIFICATES: the seeds.
-/
namespace Go.Proofs.YtlcbhbahchiofaaDoor
open Go.RowKit Go.IntWalk Nums

section
variable {P : Program} {b : Base} {ops : Array Oper} {Q : Exit → Act → World → Prop} {N : Nat} {E : SE} {L : List LV} {R : List Res} {F M : World → Prop} {o : Oper} {k : Nat} {rest : List Oper}
theorem parts_den {G : Nat → Nat} : ∀ (ps : List (Nat × Operand)) (vs : List (Nat × SC)),ps.map (fun p=>(p.1,evS E p.2)) = vs.map (fun x=>(x.1,some (.q (.c x.2)))) → ps.map (fun p=>(p.1,ev (denE G E) p.2)) = (vs.map fun x=>(x.1,x.2.den)).map fun p=>(p.1,some p.2)
 | [],[],_=>rfl
 | [],_ :: _,h=>by cases h
 | _ :: _,[],h=>by cases h
 | p :: ps,v :: vs,h=>by
  simp only [List.map_cons,List.cons.injEq,Prod.mk.injEq] at h ⊢;exact ⟨⟨h.1.1,evS_ok h.1.2⟩,parts_den ps vs h.2⟩
theorem l_buildY {t : TypeId} {parts : Array (Nat × Operand)} (vs : List (Nat × SC)) (n : Nat) (l : List UInt8) (hg : o.guard = none) (hd : o.dst = some k) (hk : Nat.blt k N = true) (ho : o.op = .build t parts) (hv : parts.toList.map (fun p=>(p.1,evS E p.2)) = vs.map (fun x=>(x.1,some (.q (.c x.2)))))
  (hb : P.built t (vs.map fun x=>(x.1,x.2.den)) = some (By l).toArray) (hl : l.length = n) (hn : lS P b ops Q N rest ⟨(k,.q (eY n l)) :: E,L,R,F,M⟩) : lS P b ops Q N (o :: rest) ⟨E,L,R,F,M⟩ :=
 l_f (.q (eY n l)) (eY_ok hl).1 (fun G S w C0 Q' _ _ hQ=>f_build _ _ hg hd hk ho (parts_den _ _ hv) hb hQ) (by rw [ho]; rfl) hn
end
theorem own_seeds : Own 14:=fun _ _=>by go_simp
def seedsL (b : UInt8) (n : Nat) : List (List UInt8):=(List.range n).map (seedL b)
theorem seedsL_next (b : UInt8) (i : Nat) : seedsL b (i + 1) = seedsL b i ++ [seedL b i]:=by simp [seedsL,List.range_succ]
theorem seedsL_len (b : UInt8) (n : Nat) : (seedsL b n).length = n:=by simp [seedsL]
theorem wrap8 {n : Nat} (h : n < 256) : IntKind.u8.wrap (n : Int) = ((UInt8.ofNat n).toNat : Int):=by
 have h1 : (UInt8.ofNat n).toNat = n:=by simp; omega
 rw [h1]
 show (n : Int) % 256 = n
 omega
set_option maxRecDepth 100000 in
set_option maxHeartbeats 1000000 in
theorem seeds_S (n : Nat) (y : UInt8) (hn : n ≤ 200) : Spec 14 [.int .i64 (n : Int),.int .u8 (y.toNat : Int)] [] (fun _=>True)
  { ret:=fun x : Option Addr × Nat=>.v (.slice x.1 n x.2),n:=fun x=>Rd 32 (eY 32) x.1 x.2 (seedsL y n) }:=by
 refine spec_S [.c (.v (.int .i64 (n : Int))),.c (.v (.int .u8 (y.toNat : Int)))] 21 Tryd.func14 rfl (by rw [Tryd.ntmps14]; rfl) (two_ok trivial trivial) fun b=>?_;refine s_auto TY_ok rfl ?_;refine s_auto TY_ok rfl ?_;refine s_nil0 b.B.heap.size 40 32 (eY 32) ?_;refine s_seq fun K hK=>?_;refine s_auto TY_ok rfl ?_;refine s_block ?_
 let F : Nat × Option Addr × Nat → Env:=fun ⟨j,A,c⟩=>⟨[(6,.v (.int .i64 (j : Int))),(0,.v (.int .i64 (n : Int))),(1,.v (.int .u8 (y.toNat : Int))),(5,.v (.slice A (seedsL y j).length c))],[],[OwnS b.B.heap.size 40 32 (eY 32) A c (seedsL y j)],fun _=>True,fun _=>True⟩
 refine c_weak (e':=F (0,none,0)) ⟨⟨rfl,rfl,rfl,rfl,trivial⟩,trivial,.refl _,fun _ h _=>h,fun _ h=>h⟩ (s_loop (fun j=>n - j.1) F (fun j=>j.1 ≤ n) ?_ (0,none,0) (Nat.zero_le _))
 rintro ⟨j,A,c⟩ hj
 dsimp only at hj
 refine s_seq fun K1 hK1=>?_;refine s_auto TY_ok rfl ?_;refine s_ifD ((j : Int) < (n : Int)) rfl (fun hlt=>?_) (fun hge=>?_)
 ·refine s_skip (hK1 _ ?_)
  refine s_seq fun K2 hK2=>?_;refine s_block ?_;refine s_lit ?_;refine l_autoS TY_ok rfl ?_;refine l_num 15 ((UInt8.ofNat (j + 1)).toNat : Int) rfl (by rw [wrapI (r:=((j + 1 : Nat) : Int)) (by omega) (by omega) (by omega),wrap8 (by omega)]) ?_;refine l_buildY [(0,.v (.int .u8 ((UInt8.ofNat (j + 1)).toNat : Int))),(1,.v (.int .u8 (y.toNat : Int))),(2,.v (.int .u8 7))] 32 (seedL y j) rfl rfl rfl rfl rfl rfl (seedL_len y j) ?_;refine l_push TY_ok 0 (seedL y j) rfl rfl rfl rfl rfl rfl rfl (eY_ok (seedL_len y j)) (by decide) (by decide) (by rw [seedsL_len]; show (_ + 1) * 32 ≤ _; omega) (by rw [seedsL_len]; omega) (Nat.le_refl _) fun A' c'=>?_;refine l_autoS TY_ok rfl ?_;refine s_end (hK2 _ ?_);refine s_autoE TY_ok rfl ?_;rw [← seedsL_next];exact k_next (j + 1,A',c') (by show j + 1 ≤ n; omega) (by show n - (j + 1) < n - j; omega) ⟨⟨congrArg some (congrArg SV.v (congrArg (Value.int .i64) (wrapI rfl (by omega) (by omega)))),rfl,rfl,rfl,trivial⟩,trivial,.refl _,fun _ h _=>h,fun _ h=>h⟩
 ·obtain rfl : j = n:=by omega
  refine s_exit (k_pass (k_pass (k_out ?_)));refine hK _ ?_;refine s_auto TY_ok rfl ?_;exact s_ret (k_freeM 0 rfl (Nat.le_refl _) (k_ret TY_ok (A,c) rfl (by decide) rfl (by rw [seedsL_len]; rfl) rfl (fun _ _ _=>trivial) (fun _ h=>h.1)))
end Go.Proofs.YtlcbhbahchiofaaDoor
/-
  SLICES OF HASHES: Index and Contains.
-/
namespace Go.Proofs.YtlcbhbahchiofaaDoor
open Go.RowKit Go.IntWalk Nums

theorem own_hindex : Own 72:=fun _ _=>by go_simp
theorem own_hcontains : Own 48:=fun _ _=>by go_simp
noncomputable def ixl (k : Nat) : Code:=((Tryd.f72.body.map loopsOf).getD [])[k]?.getD .skip
def FIx (A : Option Addr) (n c g i : Nat) : List (Nat × Value):=[(8,.int .i64 (i : Int)),(7,.int .i64 (n : Int)),(3,.pointer (some ⟨g,0,none⟩)),(0,.slice A n c)]
set_option maxRecDepth 100000 in
set_option maxHeartbeats 1000000 in
theorem index_l {Q : Exit → Act → World → Prop} {w0 w : World} {A : Option Addr} {ks : List (List UInt8)} {l : List UInt8} {c g : Nat} (hA : HV w0 A ks) (hl : l.length = 32) (hn : ks.length ≤ 9223372036854775807) (hU : Up w0 w) (hb : Blk w g 40 (By l).toArray)
  (hret : ∀ (w' : World) (i : Nat),Up w0 w' → l ∈ ks → kF (Q .ret) 19 [(4,.int .i64 (i : Int))] w') (hend : ∀ w',Up w0 w' → l ∉ ks → kF (Q .normal) 19 [] w') :
  cF Tryd.prog (.loop (ixl 0)) (Exit.inBlock 0 Q) 19 (FIx A ks.length c g 0) w:=by
 refine c_loop (m:=fun i : Nat=>ks.length - i) (F:=FIx A ks.length c g) (R:=fun i w=>i ≤ ks.length ∧ Up w0 w ∧ Blk w g 40 (By l).toArray ∧ l ∉ ks.take i) ?_ 0 ⟨by omega,hU,hb,by simp⟩
 rintro i w ⟨hi,hU,hb,hno⟩
 conv=>arg 2; whnf
 refine c_seq fun K1 hK1=>?_;refine c_qF ?_
 by_cases hil : i < ks.length
 ·refine f_lssI (i : Int) (ks.length : Int) true rfl rfl rfl rfl rfl rfl (decide_eq_true (by omega)) ?_
  refine f_end fun w1 hw1=>hK1 _ _ ?_;refine c_seq fun K2 hK2=>?_;refine c_cond true rfl ?_;refine c_skip ?_;refine hK2 _ _ ?_;refine c_seq fun K3 hK3=>?_;refine c_block ?_;refine c_seq fun K4 hK4=>?_;refine c_qF ?_;refine f_move (.int .i64 (i : Int)) rfl rfl rfl rfl rfl ?_;refine f_assign (.int .i64 (i : Int)) rfl rfl rfl rfl rfl ?_;refine f_end fun w2 hw2=>hK4 _ _ ?_;replace hb:=(hb.later hw1).later hw2;replace hU:=(hU.step hw1).step hw2;clear hw1 hw2;obtain ⟨b,o,rfl,hlt,hc⟩:=(hA.later hU) (by omega);obtain ⟨hx1,hx2⟩:=hc i ks[i] (List.getElem?_eq_getElem hil);refine c_seq fun K6 hK6=>?_;refine c_g 6 (by decide) (by kernel_rfl) (by kernel_rfl) ?_;refine g_op rfl ?_;refine f_by g 0 hl rfl rfl rfl rfl rfl (fun _ h1=>(h1.1.blk hb).range) ?_;refine g_go ?_;refine g_op rfl ?_;refine f_move (.slice (some ⟨b,o,none⟩) ks.length c) rfl rfl rfl rfl rfl ?_;refine g_go ?_;refine g_op rfl ?_;refine f_move (.int .i64 (i : Int)) rfl rfl rfl rfl rfl ?_;refine g_go ?_;refine g_op rfl ?_;refine f_ix _ (i : Int) ⟨b,o + 32 * i,none⟩ rfl rfl rfl rfl rfl rfl (ixHs b o ks.length c i hil) ?_;refine g_go ?_;refine g_op rfl ?_;refine f_by b (o + 32 * i) hx1 rfl rfl rfl rfl rfl (fun _ h1=>rangeAt_later hx2 (h1.1.block b hlt)) ?_;refine g_go ?_;refine g_op rfl ?_;refine f_eqd l ks[i] rfl rfl rfl rfl rfl rfl rfl hl hx1 ?_;refine g_go ?_;refine g_end fun w3 hw3 _=>?_;refine l_nil ?_;refine hK6 _ _ ?_;replace hb:=hb.later hw3;replace hU:=hU.step hw3
  by_cases he : l = ks[i]
  ·refine c_cond (decide (l = ks[i])) rfl ?_
   rw [decide_eq_true he,if_pos rfl];refine c_seq fun K7 hK7=>?_;refine c_qF ?_;refine f_move (.int .i64 (i : Int)) rfl rfl rfl rfl rfl ?_;refine f_assign (.int .i64 (i : Int)) rfl rfl rfl rfl rfl ?_;refine f_end fun w4 hw4=>hK7 _ _ ?_;refine c_ret ?_;exact k_sub (E':=[(4,.int .i64 (i : Int))]) ⟨rfl,trivial⟩ (hret w4 i (hU.step hw4) (by rw [he]; exact List.getElem_mem hil))
  ·refine c_cond (decide (l = ks[i])) rfl ?_
   rw [decide_eq_false he,if_neg (by decide)];refine c_skip ?_;refine hK3 _ _ ?_;refine c_qF ?_;refine f_addI (i : Int) 1 ((i + 1 : Nat) : Int) rfl rfl rfl rfl rfl rfl (by rw [i64_left,wrap64_in _ (by omega)]; omega) ?_;refine f_move (.int .i64 ((i + 1 : Nat) : Int)) rfl rfl rfl rfl rfl ?_;refine f_end fun w5 hw5=>?_;refine k_round (F:=FIx (some ⟨b,o,none⟩) ks.length c g) (m:=fun i : Nat=>ks.length - i) (R:=fun i w=>i ≤ ks.length ∧ Up w0 w ∧ Blk w g 40 (By l).toArray ∧ l ∉ ks.take i) (s:=i) (i + 1) ⟨rfl,rfl,rfl,rfl,trivial⟩ ⟨hil,hU.step hw5,hb.later hw5,?_⟩ (Nat.sub_lt_sub_left hil (Nat.lt_succ_self i));rw [List.take_succ_eq_append_getElem hil]
   intro h
   rcases List.mem_append.1 h with h | h
   ·exact hno h
   ·exact he (by simpa using h)
 ·refine f_lssI (i : Int) (ks.length : Int) false rfl rfl rfl rfl rfl rfl (decide_eq_false (by omega)) ?_
  refine f_end fun w1 hw1=>hK1 _ _ ?_;refine c_seq fun K2 hK2=>?_;refine c_cond false rfl ?_;refine c_exit ?_;refine k_exit (id:=0) (Q:=Q) ?_
  obtain rfl : i = ks.length:=by omega
  rw [List.take_length] at hno;exact k_sub (E':=[]) trivial (hend w1 (hU.step hw1) hno)
set_option maxRecDepth 100000 in
set_option maxHeartbeats 1000000 in
theorem index_f {A : Option Addr} {ks : List (List UInt8)} {l : List UInt8} {c : Nat} (hl : l.length = 32) (hn : ks.length ≤ 9223372036854775807) (w : World) (hA : HV w A ks) :
  Calls Tryd.prog 72 #[.slice A ks.length c,.agg (By l).toArray] w fun e w'=>(∃ r : Int,e = .returned (.int .i64 r) ∧ (0 ≤ r ↔ l ∈ ks)) ∧ Below w.heap.size w w':=by
 refine calls_F (vs:=[.slice A ks.length c,.agg (By l).toArray]) 19 Tryd.func72 rfl (by rw [Tryd.ntmps72]; rfl) ?_;have hU:=Up.refl w;refine c_seq fun K hK=>?_;refine c_lit ?_;refine l_boxA ((By l).toArray) rfl rfl rfl rfl rfl fun W1 g1 hw1 hg1 b1=>?_;replace hU:=hU.step hw1;clear hw1 hg1;refine l_assign (.int .i64 0) rfl rfl rfl rfl rfl ?_;refine l_nil ?_;refine hK _ _ ?_;clear hK K;refine c_seq fun K2 hK2=>?_;refine c_seq fun K3 hK3=>?_;refine c_qF ?_;refine f_move (.slice A ks.length c) rfl rfl rfl rfl rfl ?_;refine f_lenH A ks.length c rfl rfl rfl rfl rfl ?_;refine f_move (.int .i64 0) rfl rfl rfl rfl rfl ?_;refine f_end fun w2 hw2=>?_;refine k_sub (E':=FIx A ks.length c g1 0) ⟨rfl,rfl,rfl,rfl,trivial⟩ ?_;refine hK3 _ _ ?_;refine c_block ?_;refine index_l (w0:=w) hA hl hn (hU.step hw2) (b1.later hw2) (fun w' i hU hm=>?_) (fun w' hU hm=>?_)
 ·exact k_then_ret fun a ha=>bodyPost_ret (results_tmp rfl _ _ _) ha.defers ⟨⟨(i : Int),congrArg Ending.returned (ha.get 4 _ rfl),⟨fun _=>hm,fun _=>by omega⟩⟩,hU⟩
 ·refine hK2 _ _ ?_
  refine c_seq fun K4 hK4=>?_;refine c_qF ?_;refine f_assign (.int .i64 (-1)) rfl rfl rfl rfl rfl ?_;refine f_end fun w3 hw3=>hK4 _ _ ?_;exact c_ret fun a ha=>bodyPost_ret (results_tmp rfl _ _ _) ha.defers ⟨⟨-1,congrArg Ending.returned (ha.get 4 _ rfl),⟨fun h=>absurd h (by decide),fun h=>absurd h hm⟩⟩,hU.step hw3⟩
set_option maxRecDepth 100000 in
set_option maxHeartbeats 1000000 in
theorem contains_f {A : Option Addr} {ks : List (List UInt8)} {l : List UInt8} {c : Nat} (hl : l.length = 32) (hn : ks.length ≤ 9223372036854775807) (w : World) (hA : HV w A ks) :
  Calls Tryd.prog 48 #[.slice A ks.length c,.agg (By l).toArray] w fun e w'=>e = .returned (.bool (decide (l ∈ ks))) ∧ Below w.heap.size w w':=by
 refine calls_F (vs:=[.slice A ks.length c,.agg (By l).toArray]) 9 Tryd.func48 rfl (by rw [Tryd.ntmps48]; rfl) ?_;have hU:=Up.refl w;refine c_seq fun K hK=>?_;refine c_lit ?_;refine l_boxA ((By l).toArray) rfl rfl rfl rfl rfl fun W1 g1 hw1 hg1 b1=>?_;replace hU:=hU.step hw1;clear hw1 hg1;refine l_assign (.bool false) rfl rfl rfl rfl rfl ?_;refine l_nil ?_;refine hK _ _ ?_;clear hK K;refine c_seq fun K hK=>?_;refine c_lit ?_;refine l_ops 2 ?_;refine f_move (.slice A ks.length c) rfl rfl rfl rfl rfl ?_;refine f_by g1 0 hl rfl rfl rfl rfl rfl (fun _ h1=>(h1.blk b1).range) ?_;refine f_tail fun w2 hw2=>?_;refine l_call #[.slice A ks.length c,.agg (By l).toArray] rfl rfl rfl own_hindex (index_f hl hn w2 (hA.later (hU.step hw2))) rfl rfl ?_
 rintro e w3 ⟨⟨r,rfl,hr⟩,hb3⟩
 refine ⟨_,rfl,?_⟩;refine l_ops 2 ?_;refine f_geqI r 0 (decide (l ∈ ks)) rfl rfl rfl rfl rfl rfl (by rw [decide_eq_decide]; exact hr) ?_;refine f_assign (.bool (decide (l ∈ ks))) rfl rfl rfl rfl rfl ?_;refine f_tail fun w4 hw4=>?_;refine l_nil ?_;refine hK _ _ ?_;exact c_ret fun a ha=>bodyPost_ret (results_tmp rfl _ _ _) ha.defers ⟨congrArg Ending.returned (ha.get 4 _ rfl),((hU.step hw2).step hb3).step hw4⟩
end Go.Proofs.YtlcbhbahchiofaaDoor
/-
  THE RING: twice, fit; slices of hashes, new ones; Clone.
-/
namespace Go.Proofs.YtlcbhbahchiofaaDoor
open Go.RowKit Go.IntWalk Nums

theorem own_rtwice : Own 30:=fun _ _=>by go_simp
theorem own_rfit : Own 29:=fun _ _=>by go_simp
theorem own_hclone : Own 31:=fun _ _=>by go_simp
theorem nodup_snoc {ks : List (List UInt8)} {i : Nat} (h : i < ks.length) : (ks.take (i + 1)).Nodup ↔ (ks.take i).Nodup ∧ ks[i] ∉ ks.take i:=by
 rw [List.take_succ_eq_append_getElem h,List.nodup_append]
 constructor
 ·rintro ⟨h1,_,h3⟩
  exact ⟨h1,fun h4=>h3 _ h4 _ (by simp) rfl⟩
 ·rintro ⟨h1,h2⟩
  refine ⟨h1,by simp,fun a ha b hb e=>?_⟩
  have : b = ks[i]:=by simpa using hb
  subst this;subst e;exact h2 ha
theorem nodup_take {ks : List (List UInt8)} (i : Nat) (h : ks.Nodup) : (ks.take i).Nodup:=h.sublist (List.take_sublist _ _)
noncomputable def twl7 (k : Nat) : Code:=((Tryd.f30.body.map loopsOf).getD [])[k]?.getD .skip
def FTw (A : Option Addr) (n c i : Nat) : List (Nat × Value):=[(7,.int .i64 (i : Int)),(6,.int .i64 (n : Int)),(5,.slice A n c),(0,.slice A n c)]
set_option maxRecDepth 100000 in
set_option maxHeartbeats 1000000 in
theorem twice_l {Q : Exit → Act → World → Prop} {w0 w : World} {A : Option Addr} {ks : List (List UInt8)} {c : Nat} (hA : HV w0 A ks) (hn : ks.length ≤ c) (hc : c ≤ 9223372036854775807) (hU : Up w0 w)
  (hret : ∀ w',Up w0 w' → ¬ ks.Nodup → kF (Q .ret) 18 [(2,.bool true)] w') (hend : ∀ w',Up w0 w' → ks.Nodup → kF (Q .normal) 18 [] w') :
  cF Tryd.prog (.loop (twl7 0)) (Exit.inBlock 0 Q) 18 (FTw A ks.length c 0) w:=by
 refine c_loop (m:=fun i : Nat=>ks.length - i) (F:=FTw A ks.length c) (R:=fun i w=>i ≤ ks.length ∧ Up w0 w ∧ (ks.take i).Nodup) ?_ 0 ⟨by omega,hU,by simp⟩
 rintro i w ⟨hi,hU,hno⟩
 conv=>arg 2; whnf
 refine c_seq fun K1 hK1=>?_;refine c_qF ?_
 by_cases hil : i < ks.length
 ·refine f_lssI (i : Int) (ks.length : Int) true rfl rfl rfl rfl rfl rfl (decide_eq_true (by omega)) ?_
  refine f_end fun w1 hw1=>hK1 _ _ ?_;refine c_seq fun K2 hK2=>?_;refine c_cond true rfl ?_;refine c_skip ?_;refine hK2 _ _ ?_;refine c_seq fun K3 hK3=>?_;refine c_block ?_;replace hU:=hU.step hw1;clear hw1;obtain ⟨b,o,rfl,hlt,hcc⟩:=(hA.later hU) (by omega);obtain ⟨hx1,hx2⟩:=hcc i ks[i] (List.getElem?_eq_getElem hil);refine c_seq fun K4 hK4=>?_;refine c_lit ?_;refine l_ops 3 ?_;refine f_move (.int .i64 (i : Int)) rfl rfl rfl rfl rfl ?_;refine f_ix _ (i : Int) ⟨b,o + 32 * i,none⟩ rfl rfl rfl rfl rfl rfl (ixHs b o ks.length c i hil) ?_;refine f_by b (o + 32 * i) hx1 rfl rfl rfl rfl rfl (fun _ h1=>rangeAt_later hx2 (h1.block b hlt)) ?_;refine f_tail fun w2 hw2=>?_;replace hU:=hU.step hw2;refine l_allocA z32 rfl rfl rfl rfl (by kernel_rfl) fun w3 g hw3 hg b1=>?_
  have q1 : w0.heap.size ≤ g:=by rw [hg]; exact hU.size
  replace hU:=hU.step hw3;clear hw3 hg hw2;refine l_assign (.int .i64 (i : Int)) rfl rfl rfl rfl rfl ?_;refine l_set g _ ((By ks[i]).toArray) rfl rfl rfl rfl rfl b1 (size_H hx1) (by rw [len_by hx1]; rfl) (By_oneA _) ?_;replace b1:=b1.row ((By ks[i]).toArray);replace hU:=up_row hU q1 ((By ks[i]).toArray);generalize World.setRow _ g (By ks[i]).toArray = w4 at *;refine l_nil ?_;refine hK4 _ _ ?_;refine c_seq fun K6 hK6=>?_;refine c_g 5 (by decide) (by kernel_rfl) (by kernel_rfl) ?_;refine g_op rfl ?_;refine f_move (.slice (some ⟨b,o,none⟩) ks.length c) rfl rfl rfl rfl rfl ?_;refine g_go ?_;refine g_op rfl ?_;refine f_move (.int .i64 (i : Int)) rfl rfl rfl rfl rfl ?_;refine g_go ?_;refine g_op rfl ?_;refine f_cutH b o ks.length c i (by omega) hn rfl rfl rfl rfl rfl rfl ?_;refine g_go ?_;refine g_op rfl ?_;refine f_by g 0 hx1 rfl rfl rfl rfl rfl (fun _ h1=>(h1.1.blk b1).range) ?_;refine g_go ?_;refine g_op rfl ?_
  refine f_call #[.slice (some ⟨b,o,none⟩) i c,.agg (By ks[i]).toArray] (.bool (decide (ks[i] ∈ ks.take i))) rfl rfl rfl own_hcontains (fun w1 h1=>by
   have:=contains_f (ks:=ks.take i) (c:=c) hx1 (by rw [List.length_take]; omega) w1 ((hA.later (hU.step h1.1)).take i)
   rwa [List.length_take,Nat.min_eq_left hi] at this) rfl rfl ?_
  refine g_go ?_;refine g_end fun w5 hw5 _=>?_;refine l_nil ?_;refine hK6 _ _ ?_;replace hU:=hU.step hw5
  by_cases he : ks[i] ∈ ks.take i
  ·refine c_cond (decide (ks[i] ∈ ks.take i)) rfl ?_
   rw [decide_eq_true he,if_pos rfl];refine c_seq fun K7 hK7=>?_;refine c_qF ?_;refine f_assign (.bool true) rfl rfl rfl rfl rfl ?_;refine f_end fun w6 hw6=>hK7 _ _ ?_;refine c_ret ?_;exact k_sub (E':=[(2,.bool true)]) ⟨rfl,trivial⟩ (hret w6 (hU.step hw6) fun h=>((nodup_snoc hil).1 (nodup_take (i + 1) h)).2 he)
  ·refine c_cond (decide (ks[i] ∈ ks.take i)) rfl ?_
   rw [decide_eq_false he,if_neg (by decide)];refine c_skip ?_;refine hK3 _ _ ?_;refine c_qF ?_;refine f_addI (i : Int) 1 ((i + 1 : Nat) : Int) rfl rfl rfl rfl rfl rfl (by rw [i64_left,wrap64_in _ (by omega)]; omega) ?_;refine f_move (.int .i64 ((i + 1 : Nat) : Int)) rfl rfl rfl rfl rfl ?_;refine f_end fun w6 hw6=>?_;exact k_round (F:=FTw (some ⟨b,o,none⟩) ks.length c) (m:=fun i : Nat=>ks.length - i) (R:=fun i w=>i ≤ ks.length ∧ Up w0 w ∧ (ks.take i).Nodup) (s:=i) (i + 1) ⟨rfl,rfl,rfl,rfl,trivial⟩ ⟨hil,hU.step hw6,(nodup_snoc hil).2 ⟨hno,he⟩⟩ (Nat.sub_lt_sub_left hil (Nat.lt_succ_self i))
 ·refine f_lssI (i : Int) (ks.length : Int) false rfl rfl rfl rfl rfl rfl (decide_eq_false (by omega)) ?_
  refine f_end fun w1 hw1=>hK1 _ _ ?_;refine c_seq fun K2 hK2=>?_;refine c_cond false rfl ?_;refine c_exit ?_;refine k_exit (id:=0) (Q:=Q) ?_
  obtain rfl : i = ks.length:=by omega
  rw [List.take_length] at hno;exact k_sub (E':=[]) trivial (hend w1 (hU.step hw1) hno)
set_option maxRecDepth 100000 in
set_option maxHeartbeats 1000000 in
theorem rtwice_f {A : Option Addr} {ks : List (List UInt8)} {c : Nat} (hn : ks.length ≤ c) (hc : c ≤ 9223372036854775807) (w : World) (hA : HV w A ks) :
  Calls Tryd.prog 30 #[.slice A ks.length c] w fun e w'=>e = .returned (.bool (decide (¬ ks.Nodup))) ∧ Below w.heap.size w w':=by
 refine calls_F (vs:=[.slice A ks.length c]) 18 Tryd.func30 rfl (by rw [Tryd.ntmps30]; rfl) ?_;have hU:=Up.refl w;refine c_seq fun K hK=>?_;refine c_qF ?_;refine f_assign (.bool false) rfl rfl rfl rfl rfl ?_;refine f_end fun w1 hw1=>hK _ _ ?_;refine c_seq fun K2 hK2=>?_;refine c_seq fun K3 hK3=>?_;refine c_qF ?_;refine f_move (.slice A ks.length c) rfl rfl rfl rfl rfl ?_;refine f_lenH A ks.length c rfl rfl rfl rfl rfl ?_;refine f_move (.int .i64 0) rfl rfl rfl rfl rfl ?_;refine f_end fun w2 hw2=>?_;refine k_sub (E':=FTw A ks.length c 0) ⟨rfl,rfl,rfl,rfl,trivial⟩ ?_;refine hK3 _ _ ?_;refine c_block ?_;refine twice_l (w0:=w) hA hn hc ((hU.step hw1).step hw2) (fun w' hU hm=>?_) (fun w' hU hm=>?_)
 ·rw [decide_eq_true hm]
  exact k_then_ret fun a ha=>bodyPost_ret (results_tmp rfl _ _ _) ha.defers ⟨congrArg Ending.returned (ha.get 2 _ rfl),hU⟩
 ·refine hK2 _ _ ?_
  refine c_seq fun K4 hK4=>?_;refine c_qF ?_;refine f_assign (.bool false) rfl rfl rfl rfl rfl ?_;refine f_end fun w3 hw3=>hK4 _ _ ?_;exact c_ret fun a ha=>bodyPost_ret (results_tmp rfl _ _ _) ha.defers ⟨congrArg Ending.returned ((ha.get 2 _ rfl).trans (congrArg Value.bool (decide_eq_false fun h=>h hm).symm)),hU.step hw3⟩
set_option maxRecDepth 100000 in
set_option maxHeartbeats 1000000 in
theorem rfit_f (n : Nat) (hn : n ≤ 9223372036854775807) (w : World) :
  Calls Tryd.prog 29 #[.int .i64 (n : Int)] w fun e w'=>e = .returned (.bool (decide (n = 1 ∨ n = 4 ∨ n = 7))) ∧ Below w.heap.size w w':=by
 refine calls_F (vs:=[.int .i64 (n : Int)]) 11 Tryd.func29 rfl (by rw [Tryd.ntmps29]; rfl) ?_;have hU:=Up.refl w;refine c_seq fun K hK=>?_;refine c_qF ?_;refine f_assign (.bool false) rfl rfl rfl rfl rfl ?_;refine f_end fun w1 hw1=>hK _ _ ?_;replace hU:=hU.step hw1;clear hw1 hK K;refine c_seq fun K hK=>?_;refine c_gF 9 ?_;refine g_op rfl ?_;refine f_move (.int .i64 (n : Int)) rfl rfl rfl rfl rfl ?_;refine g_go ?_;refine g_op rfl ?_;refine f_remI (n : Int) 3 ((n % 3 : Nat) : Int) (by decide) rfl rfl rfl rfl rfl rfl (by rw [Int.tmod_eq_emod_of_nonneg (by omega)]; omega) ?_;refine g_go ?_;refine g_op rfl ?_;refine f_eqlI ((n % 3 : Nat) : Int) 1 (decide (n % 3 = 1)) rfl rfl rfl rfl rfl rfl (by rw [decide_eq_decide]; omega) ?_;refine g_go ?_
 by_cases h3 : n % 3 = 1
 ·rw [decide_eq_true h3]
  refine g_op rfl ?_;refine f_move (.bool true) rfl rfl rfl rfl rfl ?_;refine g_go ?_;refine g_guard rfl rfl rfl rfl ?_;refine g_op rfl ?_;refine f_move (.int .i64 (n : Int)) rfl rfl rfl rfl rfl ?_;refine g_go ?_;refine g_guard rfl rfl rfl rfl ?_;refine g_op rfl ?_;refine f_quoI (n : Int) 3 ((n / 3 : Nat) : Int) (by decide) rfl rfl rfl rfl rfl rfl (by rw [Int.tdiv_eq_ediv_of_nonneg (by omega),i64_left,wrap64_in _ (by omega)]; omega) ?_;refine g_go ?_;refine g_guard rfl rfl rfl rfl ?_;refine g_op rfl ?_;refine f_leqI ((n / 3 : Nat) : Int) 2 (decide (n = 1 ∨ n = 4 ∨ n = 7)) rfl rfl rfl rfl rfl rfl (by rw [decide_eq_decide]; omega) ?_;refine g_go ?_;refine g_op rfl ?_;refine f_pick (.bool (decide (n = 1 ∨ n = 4 ∨ n = 7))) rfl rfl rfl rfl rfl rfl ?_;refine g_go ?_;refine g_op rfl ?_;refine f_assign (.bool (decide (n = 1 ∨ n = 4 ∨ n = 7))) rfl rfl rfl rfl rfl ?_;refine g_go ?_;refine g_end fun w2 hw2 _=>?_;refine l_nil ?_;refine hK _ _ ?_;exact c_ret fun a ha=>bodyPost_ret (results_tmp rfl _ _ _) ha.defers ⟨congrArg Ending.returned (ha.get 2 _ rfl),hU.step hw2⟩
 ·rw [decide_eq_false h3]
  refine g_op rfl ?_;refine f_move (.bool false) rfl rfl rfl rfl rfl ?_;refine g_go ?_;refine g_skip rfl rfl rfl rfl rfl rfl rfl ?_;refine g_skip rfl rfl rfl rfl rfl rfl rfl ?_;refine g_skip rfl rfl rfl rfl rfl rfl rfl ?_;refine g_op rfl ?_;refine f_pickF (.bool false) rfl rfl rfl rfl rfl rfl ?_;refine g_go ?_;refine g_op rfl ?_;refine f_assign (.bool false) rfl rfl rfl rfl rfl ?_;refine g_go ?_;refine g_end fun w2 hw2 _=>?_;refine l_nil ?_;refine hK _ _ ?_;exact c_ret fun a ha=>bodyPost_ret (results_tmp rfl _ _ _) ha.defers ⟨congrArg Ending.returned ((ha.get 2 _ rfl).trans (congrArg Value.bool (decide_eq_false (show ¬ (n = 1 ∨ n = 4 ∨ n = 7) by omega)).symm)),hU.step hw2⟩
end Go.Proofs.YtlcbhbahchiofaaDoor
/-
  SLICES OF HASHES, NEW ONES: literals and appends; Clone.
-/
namespace Go.Proofs.YtlcbhbahchiofaaDoor
open Go.RowKit Go.IntWalk Nums

theorem info_hash : (Tryd.prog.info? 40).map (fun i=>(i.zero.map (·.cells),i.size,i.bytes)) = some (some z32,32,32):=by kernel_rfl
theorem hash_info : ∃ i z,Tryd.prog.info? 40 = some i ∧ i.zero = some z ∧ z.cells = z32 ∧ i.size = 32 ∧ i.bytes = 32:=by
 have h:=info_hash
 cases hi : Tryd.prog.info? 40 with
 | none=>rw [hi] at h; cases h
 | some i =>
  rw [hi] at h;simp only [Option.map_some,Option.some.injEq,Prod.mk.injEq] at h;obtain ⟨h1,h2,h3⟩:=h
  cases hz : i.zero with
  | none=>rw [hz] at h1; cases h1
  | some z =>
   rw [hz] at h1;exact ⟨i,z,rfl,hz,by simpa using h1,h2,h3⟩
theorem flat32 : ∀ {ks : List (List UInt8)},(∀ l ∈ ks,l.length = 32) → ks.flatten.length = 32 * ks.length
 | [],_=>rfl
 | k :: ks,h=>by
  rw [List.flatten_cons,List.length_append,h k (by simp),flat32 fun l hl=>h l (by simp [hl]),List.length_cons]
  omega
theorem flat_split : ∀ {ks : List (List UInt8)} {i : Nat} {l : List UInt8},(∀ l ∈ ks,l.length = 32) → ks[i]? = some l → ∃ A Z,ks.flatten = A ++ (l ++ Z) ∧ A.length = 32 * i
 | [],i,l,_,hi=>by simp at hi
 | k :: ks,0,l,h,hi=>by
  simp only [List.getElem?_cons_zero,Option.some.injEq] at hi;subst hi;exact ⟨[],ks.flatten,by simp,rfl⟩
 | k :: ks,i + 1,l,h,hi=>by
  obtain ⟨A,Z,e,hA⟩:=flat_split (ks:=ks) (i:=i) (l:=l) (fun l hl=>h l (by simp [hl])) (by simpa using hi);exact ⟨k ++ A,Z,by rw [List.flatten_cons,e,List.append_assoc],by rw [List.length_append,h k (by simp),hA]; omega⟩
theorem hv_row {w : World} {g t : Nat} {cs : Array Value} {ks : List (List UInt8)} (hb : Blk w g t cs) (h : ∀ l ∈ ks,l.length = 32) (hc : cs.toList.take (32 * ks.length) = By ks.flatten) : HV w (some ⟨g,0,none⟩) ks:=fun _=>by
 refine ⟨g,0,rfl,hb.lt,fun i l hi=>⟨h l (List.mem_of_getElem? hi),fun j v hj=>?_⟩⟩;obtain ⟨A,Z,e,hA⟩:=flat_split h hi;have hl:=h l (List.mem_of_getElem? hi)
 have hj' : j < 32:=by
  have:=(List.getElem?_eq_some_iff.1 hj).1
  rwa [By_len,hl] at this
 have hil:=(List.getElem?_eq_some_iff.1 hi).1
 have h1 : (By ks.flatten)[32 * i + j]? = some v:=by
  rw [e,By_app,By_app,List.getElem?_append_right (by rw [By_len]; omega),By_len,hA,List.getElem?_append_left (by rw [By_len]; omega)];rw [show 32 * i + j - 32 * i = j by omega];exact hj
 rw [← hc,List.getElem?_take] at h1
 split at h1
 ·rw [hb.cell,Nat.zero_add]
  simpa using h1
 ·cases h1
theorem HV.cells {w : World} {b o : Nat} {ks : List (List UInt8)} (h : HV w (some ⟨b,o,none⟩) ks) : ∀ (j : Nat) u,(By ks.flatten)[j]? = some u → w.cell? ((⟨b,o,none⟩ : Addr).add j) = some u:=fun j u hj=>by
 have hlen:=h.len;have h1:=(List.getElem?_eq_some_iff.1 hj).1;rw [By_len,flat32 hlen] at h1;obtain ⟨b',o',e,_,hc⟩:=h (by omega)
 injection e with e
 injection e with e1 e2
 subst e1 e2
 have hi : j / 32 < ks.length:=by omega
 obtain ⟨hl,hr⟩:=hc (j / 32) ks[j / 32] (List.getElem?_eq_getElem hi);obtain ⟨A,Z,e,hA⟩:=flat_split hlen (List.getElem?_eq_getElem hi);rw [e,By_app,By_app,List.getElem?_append_right (by rw [By_len]; omega),By_len,hA,List.getElem?_append_left (by rw [By_len]; omega)] at hj;have:=hr _ u hj;rw [Addr.add_mid]
 rwa [show o + 32 * (j / 32) + (j - 32 * (j / 32)) = o + j by omega] at this
def HG (w : World) (base : Nat) (v : Value) (ks : List (List UInt8)) : Prop:=(∀ l ∈ ks,l.length = 32) ∧ w.ownsRow base 40 32 v ks.length (By ks.flatten)
theorem HG.nil (w : World) (base : Nat) (h : base ≤ w.heap.size) : HG (w.alloc (.cells #[] 40)) base (.slice (some ⟨w.heap.size,0,none⟩) 0 0) [] :=
 ⟨by simp,rfl,.inr ⟨w.heap.size,0,#[],rfl,h,Blk.new w _ _,Nat.le_refl _,Nat.zero_le _,rfl,rfl⟩⟩
theorem HG.cut {w : World} {base : Nat} {v : Value} {ks : List (List UInt8)} (h : HG w base v ks) : (v = .slice none 0 0 ∧ ks = []) ∨ ∃ g c cs,v = .slice (some ⟨g,0,none⟩) ks.length c ∧ base ≤ g ∧ Blk w g 40 cs ∧ ks.length ≤ c ∧ c ≤ 9223372036854775807 ∧ cs.size = c * 32 ∧ cs.toList.take (32 * ks.length) = By ks.flatten:=by
 rcases h.2.2 with ⟨h1,h2⟩ | ⟨g,cap,cur,hv,hb,hg,hn,hc,hs,ht⟩
 ·exact .inl ⟨h1,List.eq_nil_of_length_eq_zero h2⟩
 ·exact .inr ⟨g,cap,cur,hv,hb,hg,hn,by unfold maxLen at hc; omega,hs,by rw [Nat.mul_comm]; exact ht⟩
section
variable {ops : Array Oper} {Q : Exit → Act → World → Prop} {N : Nat} {E : List (Nat × Value)} {w : World} {o : Oper} {rest : List Oper} {k : Nat}
theorem l_slice0H (hg : o.guard = none) (hd : o.dst = some k) (hk : Nat.blt k N = true) (ho : o.op = .buildSlice 27 0 #[]) (hn : lF Tryd.prog ops Q rest N ((k,.slice (some ⟨w.heap.size,0,none⟩) 0 0) :: E) (w.alloc (.cells #[] 40))) : lF Tryd.prog ops Q (o :: rest) N E w :=
 l_val _ hg hd hk (fun a _=>by
  have hr : (Instr.buildSlice 27 0 #[]).run Tryd.prog w = .ok (.slice (some ⟨w.heap.size,0,none⟩) 0 0) (w.alloc (.cells #[] 40)):=by go_simp
  unfold execOp
  simp only [ho,List.map_toArray,List.map_nil,Sem.run_bind,hr,Result.andThen_ok,Sem.run_pure]) hn
theorem l_appH {s x : Operand} {base d : Nat} {v : Value} {X : Option Addr} {ks ls : List (List UInt8)} (hg : o.guard = none) (hd : o.dst = some k) (hk : Nat.blt k N = true) (ho : o.op = .call { callee:=.builtin .append,args:=#[s,x],argTypes:=#[27,27] })
  (hs : ev E s = some v) (hx : ev E x = some (.slice X ls.length d)) (hown : HG w base v ks) (hX : HV w X ls) (h0 : X = none → d = 0 ∧ ls = []) (hb : (ks.length + ls.length) * 32 ≤ 140737488355328) (hbase : base ≤ w.heap.size)
  (hn : ∀ v' W,HG W base v' (ks ++ ls) → w.grownBy W v.ownBlock → (v'.ownBlock = v.ownBlock ∨ v'.ownBlock = some w.heap.size) → lF Tryd.prog ops Q rest N ((k,v') :: E) W) : lF Tryd.prog ops Q (o :: rest) N E w:=by
 obtain ⟨i,z,hi0,hz0,hzc,hs0,hby⟩:=hash_info
 cases X with
 | none =>
  obtain ⟨rfl,rfl⟩:=h0 rfl;have hr:=run_append_owned_none (P:=Tryd.prog) w base 27 o.type 40 i 32 Tryd.underlying27 hi0 v ks.length (By ks.flatten) hown.2;have h1:=hn v w (by rw [List.append_nil]; exact hown) (World.grownBy.refl _ _) (.inl rfl);refine l_val _ hg hd hk (fun a ha=>?_) h1;have h2:=ha.eval hs;have h3:=ha.eval hx
  unfold execOp
  simp only [ho,resolve,invoke,builtin,Sem.run_bind,Sem.run_pure,Result.andThen_ok,List.map_toArray,List.map_cons,List.map_nil,h2,h3,List.length_nil,hr]
 | some ad =>
  have hlen:=hX.len
  have hcs : ∀ (j : Nat) u,(By ls.flatten)[j]? = some u → w.cell? (ad.add j) = some u:=by
   cases ls with
   | nil=>intro j u h; simp [By] at h
   | cons l ls =>
    obtain ⟨b,off,e,_⟩:=hX (by simp)
    injection e with e
    subst e;exact hX.cells
  obtain ⟨v',w',hr,ho',hgr,_,hat⟩:=run_append_own_at (P:=Tryd.prog) w base 27 o.type 40 i z 32 32 Tryd.underlying27 hi0 hz0 hs0 hby (by rw [hzc]; rfl) (by omega) v ks.length (By ks.flatten) hown.2 ad ls.length d (By ls.flatten) (by rw [By_len,flat32 hlen]; omega) hcs (By_one _) (by unfold maxLen; omega) hb hbase;rw [← By_app,← List.flatten_append,← List.length_append] at ho';refine l_val v' hg hd hk (fun a ha=>?_) (hn v' w' ⟨fun l hl=>(List.mem_append.1 hl).elim (hown.1 l) (hlen l),ho'⟩ hgr hat);have h2:=ha.eval hs;have h3:=ha.eval hx
  unfold execOp
  simp only [ho,resolve,invoke,builtin,Sem.run_bind,Sem.run_pure,Result.andThen_ok,List.map_toArray,List.map_cons,List.map_nil,h2,h3,hr]
end
section
variable {ops : Array Oper} {C0 : World → Prop} {Q : Act → Prop} {N : Nat} {E : List (Nat × Value)} {o : Oper} {rest : List Oper} {k : Nat}
theorem f_eqNilH {x y : Operand} {t : TypeId} (A : Option Addr) (n c : Nat) (q : Bool) (hg : o.guard = none) (hd : o.dst = some k) (hk : Nat.blt k N = true) (ho : o.op = .binOp .eql 27 x y t) (hx : ev E x = some (.slice A n c)) (hy : ev E y = some (.slice none 0 0))
  (hr : A.isNone = q) (hn : bF Tryd.prog ops C0 Q rest N ((k,.bool q) :: E)) : bF Tryd.prog ops C0 Q (o :: rest) N E :=
 f_val _ hg hd hk (fun a ha w _=>by
  have h1:=ha.eval hx;have h2:=ha.eval hy;subst hr;have h3:=run_equal_slice_nil (P:=Tryd.prog) w 27 40 A n c Tryd.underlying27
  unfold execOp
  have h4 : (eqGuard .eql 27 x y (.slice A n c) (.slice none 0 0)).run Tryd.prog w = .ok () w:=rfl
  simp only [ho,h1,h2,Sem.run_bind,h4,Result.andThen_ok,binOp,h3,Sem.run_pure]) hn
end
set_option maxRecDepth 100000 in
set_option maxHeartbeats 1000000 in
theorem clone_f {A : Option Addr} {ks : List (List UInt8)} {c : Nat} (h0 : A = none → c = 0 ∧ ks = []) (hb : ks.length * 32 ≤ 140737488355328) (w : World) (hA : HV w A ks) :
  Calls Tryd.prog 31 #[.slice A ks.length c] w fun e w'=>(∃ v,e = .returned v ∧ HG w' w.heap.size v ks) ∧ Below w.heap.size w w':=by
 refine calls_F (vs:=[.slice A ks.length c]) 8 Tryd.func31 rfl (by rw [Tryd.ntmps31]; rfl) ?_;have hU:=Up.refl w;refine c_seq fun K hK=>?_;refine c_qF ?_;refine f_assign (.slice none 0 0) rfl rfl rfl rfl rfl ?_;refine f_end fun w1 hw1=>hK _ _ ?_;replace hU:=hU.step hw1;clear hw1 hK K;refine c_seq fun K0 hK0=>?_;refine c_seq fun K hK=>?_;refine c_qF ?_;refine f_move (.slice A ks.length c) rfl rfl rfl rfl rfl ?_;refine f_eqNilH A ks.length c A.isNone rfl rfl rfl rfl rfl rfl rfl ?_;refine f_end fun w2 hw2=>hK _ _ ?_;replace hU:=hU.step hw2;clear hw2 hK K;refine c_cond A.isNone rfl ?_
 cases A with
 | none =>
  obtain ⟨rfl,rfl⟩:=h0 rfl;rw [show (none : Option Addr).isNone = true from rfl,if_pos rfl];refine c_seq fun K hK=>?_;refine c_qF ?_;refine f_assign (.slice none 0 0) rfl rfl rfl rfl rfl ?_;refine f_end fun w3 hw3=>hK _ _ ?_;refine c_ret ?_;exact k_then_ret fun a ha=>bodyPost_ret (results_tmp rfl _ _ _) ha.defers ⟨⟨_,congrArg Ending.returned (ha.get 2 _ rfl),by simp,World.ownsRow_nil _ _ _ _⟩,hU.step hw3⟩
 | some ad =>
  rw [show (some ad).isNone = false from rfl,if_neg (by decide)];refine c_skip ?_;refine hK0 _ _ ?_;refine c_seq fun K hK=>?_;refine c_lit ?_;refine l_slice0H rfl rfl rfl rfl ?_;have hG:=HG.nil w2 w.heap.size hU.size;have hal:=(Up.refl w2).alloc (.cells #[] 40);have q1:=hU.size;replace hU:=hU.step hal;generalize w2.alloc (.cells #[] 40) = w3 at *;generalize w2.heap.size = g at *;refine l_move (.slice (some ad) ks.length c) rfl rfl rfl rfl rfl ?_;refine l_appH (ks:=[]) (ls:=ks) (base:=w.heap.size) rfl rfl rfl rfl rfl rfl hG (hA.later hU) (fun e=>by cases e) (by simpa using hb) hU.size fun v' w4 hG4 hgr _=>?_;have hU4 : Up w w4:=hU.grown hgr hU.size (fun k hk=>by cases hk; exact q1);refine l_assign v' rfl rfl rfl rfl rfl ?_;refine l_nil ?_;refine hK _ _ ?_;exact c_ret fun a ha=>bodyPost_ret (results_tmp rfl _ _ _) ha.defers ⟨⟨_,congrArg Ending.returned (ha.get 2 _ rfl),hG4⟩,hU4⟩
end Go.Proofs.YtlcbhbahchiofaaDoor
/-
  WHAT IS KEPT IN A RING'S MAP: statements as keys.
-/
namespace Go.Proofs.YtlcbhbahchiofaaDoor
open Go.RowKit Go.IntWalk Nums

theorem laidOut7 : laidOutB Tryd.prog = true:=by kernel_rfl
theorem stm_keyed : Maps.Keyed Tryd.prog 100:=Maps.Keyed.of_law (deep_law_laid (m:=4) laidOut7 (by decide) (of_decide_eq_true (by kernel_rfl)) (by kernel_rfl) (by kernel_rfl))
def STM (i : Int) (t : UInt8) (b s : List UInt8) : Value:=.agg (#[Value.int .i64 i,.int .u8 (t.toNat : Int),.string ⟨b.toArray⟩] ++ (By s).toArray)
theorem stm_inj {i j : Int} {t u : UInt8} {b c s r : List UInt8} (h : STM i t b s = STM j u c r) : i = j ∧ t = u ∧ b = c ∧ s = r:=by
 unfold STM at h
 injection h with h
 have h1:=congrArg Array.toList h;simp only [Array.toList_append,List.cons_append,List.nil_append] at h1
 injection h1 with h2 h3
 injection h3 with h4 h5
 injection h5 with h6 h7
 injection h2 with _ h2
 injection h4 with _ h4
 injection h6 with h6
 injection h6 with h6
 refine ⟨h2,?_,?_,?_⟩
 ·apply UInt8.toNat_inj.1
  omega
 ·exact List.toArray_inj h6
 ·have h8 : By s = By r:=h7
  have hb : ∀ (l m : List UInt8),By l = By m → l = m:=by
   intro l
   induction l with
   | nil=>intro m h; cases m with
    | nil=>rfl
    | cons=>cases h
   | cons x l ih=>intro m h; cases m with
    | nil=>cases h
    | cons y m =>
     injection h with h1 h2
     injection h1 with _ h1
     rw [ih m h2,UInt8.toNat_inj.1 (by omega : x.toNat = y.toNat)]
  exact hb _ _ h8
theorem key_u8 (d : Nat) (n : Nat) (h : n < 256) : Tryd.prog.keyLits (d + 1) 5 [.int .u8 (n : Int)] = some [.int .u8 (n : Int)]:=by
 have hw : (Lit.int .u8 (n : Int)).wf = true:=by
  simp [Lit.wf,IntKind.min,IntKind.max,IntKind.signed,IntKind.bits]
  omega
 simp [Program.keyLits,Tryd.underlying5,hw]
theorem key_sig (d : Nat) {s : List UInt8} (hs : s.length = 64) : ∃ l,Tryd.prog.keyLits (d + 2) 35 (By s) = some l:=by
 have hc : Tryd.prog.cellsOf 35 = 64:=by kernel_rfl
 have h8 : Tryd.prog.cellsOf 5 = 1:=by kernel_rfl
 have hm : ∀ i,i < 64 → ∃ l,Tryd.prog.keyLits (d + 1) 5 (((By s).drop (i * 1)).take 1) = some l:=fun i hi=>by
  have e : ((By s).drop (i * 1)).take 1 = [.int .u8 ((s[i]'(by omega)).toNat : Int)]:=by
   rw [Nat.mul_one,List.drop_eq_getElem_cons (by rw [By_len]; omega)]
   simp [By]
  rw [e];exact ⟨_,key_u8 d _ (UInt8.toNat_lt _)⟩
 have key : ∀ (is : List Nat),(∀ i ∈ is,i < 64) → ∃ L,is.mapM (fun i=>Tryd.prog.keyLits (d + 1) 5 (((By s).drop (i * 1)).take 1)) = some L:=by
  intro is
  induction is with
  | nil=>intro _; exact ⟨[],rfl⟩
  | cons i is ih =>
   intro h
   obtain ⟨l,hl⟩:=hm i (h i (by simp));obtain ⟨L,hL⟩:=ih fun j hj=>h j (by simp [hj]);exact ⟨l :: L,by simp only [List.mapM_cons,hl,hL]; rfl⟩
 obtain ⟨L,hL⟩:=key (List.range 64) (fun i hi=>List.mem_range.1 hi);refine ⟨L.flatten,?_⟩
 unfold Program.keyLits
 simp only [Tryd.underlying35];rw [if_pos (by rw [By_len,hs,hc]),h8,hL]
 rfl
theorem stm_key {i : Int} {t : UInt8} {b s : List UInt8} (hi : (Lit.int .i64 i).wf = true) (hb : b.length ≤ maxLen) (hs : s.length = 64) : ∃ l,keyOf Tryd.prog 100 (STM i t b s) = some l:=by
 have hk : Tryd.prog.keyType 100 = true:=by kernel_rfl
 have hc : Tryd.prog.cellsOf 100 = 67:=by kernel_rfl
 have hsz : (STM i t b s).cells.toList.length = 67:=by
  show (#[Value.int .i64 i,.int .u8 (t.toNat : Int),.string ⟨b.toArray⟩] ++ (By s).toArray).toList.length = 67
  simp [By_len,hs]
 have hf : (STM i t b s).formed Tryd.prog 100 = true:=by
  unfold STM Value.formed
  simp only [Tryd.underlying100,hc]
  simp [By_len,hs]
 obtain ⟨n,hn⟩ : ∃ n,Tryd.prog.types.size + 1 = n + 3:=⟨Tryd.prog.types.size - 2,by
  have : decide (2 ≤ Tryd.prog.types.size) = true:=by kernel_rfl
  have:=of_decide_eq_true this
  omega⟩
 obtain ⟨ls,hls⟩:=key_sig n hs
 have k1 : Tryd.prog.keyLits (n + 2) 3 [.int .i64 i] = some [.int .i64 i]:=by simp [Program.keyLits,Tryd.underlying3,hi]
 have hw : (Lit.int .u8 (t.toNat : Int)).wf = true:=by
  have:=t.toNat_lt
  simp [Lit.wf,IntKind.min,IntKind.max,IntKind.signed,IntKind.bits]
  omega
 have k2 : Tryd.prog.keyLits (n + 2) 38 [.int .u8 (t.toNat : Int)] = some [.int .u8 (t.toNat : Int)]:=by simp [Program.keyLits,Tryd.underlying38,hw]
 have k3 : Tryd.prog.keyLits (n + 2) 9 [.string ⟨b.toArray⟩] = some [.string b]:=by
  have hb' : (⟨b.toArray⟩ : ByteArray).size ≤ maxLen:=by show b.toArray.size ≤ maxLen; simpa using hb
  simp [Program.keyLits,Tryd.underlying9,hb']
 have c1 : Tryd.prog.cellsOf 3 = 1:=by kernel_rfl
 have c2 : Tryd.prog.cellsOf 38 = 1:=by kernel_rfl
 have c3 : Tryd.prog.cellsOf 9 = 1:=by kernel_rfl
 have c4 : Tryd.prog.cellsOf 35 = 64:=by kernel_rfl
 have hcs : (STM i t b s).cells.toList = Value.int .i64 i :: .int .u8 (t.toNat : Int) :: .string ⟨b.toArray⟩ :: By s:=by
  show (#[Value.int .i64 i,.int .u8 (t.toNat : Int),.string ⟨b.toArray⟩] ++ (By s).toArray).toList = _
  simp
 refine ⟨.string (keyBytes ([.int .i64 i] ++ ([.int .u8 (t.toNat : Int)] ++ ([.string b] ++ ls)))),?_⟩
 unfold keyOf
 simp only [Tryd.underlying100,hk,hf,Bool.and_self,if_true,hn];rw [hcs] at hsz ⊢
 unfold Program.keyLits
 simp only [Tryd.underlying100];rw [if_pos ⟨by rw [hsz,hc],by kernel_rfl⟩];have ht : (By s).take 64 = By s:=List.take_of_length_le (by rw [By_len]; omega)
 simp [List.mapM_cons,c1,c2,c3,c4,k1,k2,k3,ht,hls]

def MapK (w : World) (m : Nat) (es : Array MapEntry) (S : Value → Prop) : Prop:=(∃ clock,w.heap[m]? = some (.map es clock)) ∧ ∀ e ∈ es.toList,e.val = .agg #[] ∧ S e.key
theorem MapK.lt {w : World} {m : Nat} {es : Array MapEntry} {S : Value → Prop} (h : MapK w m es S) : m < w.heap.size:=by
 obtain ⟨⟨c,h⟩,_⟩:=h;exact (Array.getElem?_eq_some_iff.1 h).1
theorem MapK.keep {w w' : World} {m : Nat} {es : Array MapEntry} {S : Value → Prop} (h : MapK w m es S) (hk : w'.heap[m]? = w.heap[m]?) : MapK w' m es S:=⟨by rw [hk]; exact h.1,h.2⟩
theorem MapK.new (w : World) (S : Value → Prop) : MapK (w.alloc (.map #[] 0)) w.heap.size #[] S:=⟨⟨0,heap_alloc_new w _⟩,by simp⟩
open Classical in
theorem MapK.look {w : World} {m : Nat} {es : Array MapEntry} {S : Value → Prop} (h : MapK w m es S) (hS : ∀ v,S v → ∃ l,keyOf Tryd.prog 100 v = some l) {key : Value} (hkey : ∃ l,keyOf Tryd.prog 100 key = some l) :
  (Instr.lookup 65 (.map (some m)) key true).run Tryd.prog w = .ok (.tuple #[.agg #[],.bool (decide (∃ e ∈ es.toList,e.key = key))]) w:=by
 obtain ⟨⟨c,hb⟩,hes⟩:=h;obtain ⟨kl,hkl⟩:=hkey
 have hz : (zeroValue 101).run Tryd.prog w = .ok (.agg #[]) w:=by kernel_rfl
 have hck:=stm_keyed.check w es.isEmpty hkl
 rcases stm_keyed.find w hkl es.toList (fun e he=>hS _ (hes e he).2) with ⟨f1,f2⟩ | ⟨j,e,f1,f2,f3⟩
 ·rw [decide_eq_false (by rintro ⟨e,he,h⟩; exact f2 e he h)]
  simp [Instr.lookup,run_underlying Tryd.underlying65,MapKept.run_getObj_map hb,hck,f1,hz,Result.andThen]
 ·have hm : e ∈ es.toList:=List.mem_of_getElem? f2
  rw [decide_eq_true ⟨e,hm,f3⟩]
  simp [Instr.lookup,run_underlying Tryd.underlying65,MapKept.run_getObj_map hb,hck,f1,(hes e hm).1,Result.andThen]
theorem MapK.put {w : World} {m : Nat} {es : Array MapEntry} {S : Value → Prop} (h : MapK w m es S) (hS : ∀ v,S v → ∃ l,keyOf Tryd.prog 100 v = some l) {key : Value} (hkey : S key) :
  ∃ w' es',(Instr.mapUpdate 65 (.map (some m)) key (.agg #[])).run Tryd.prog w = .ok () w' ∧ MapK w' m es' S ∧ w.grownBy w' (some m):=by
 obtain ⟨⟨c,hb⟩,hes⟩:=h;obtain ⟨kl,hkl⟩:=hS key hkey;have hck:=stm_keyed.check w false hkl;have hst:=stm_keyed.stays w hkl;have hgr : ∀ es' c',w.grownBy (ChangeMaps.setBlock w m (.map es' c')) (some m):=fun es' c'=>⟨rfl,rfl,rfl,by simp [ChangeMaps.setBlock],fun i _ hi=>ChangeMaps.heap_setBlock_other hb _ (fun e=>hi (by rw [e]))⟩
 rcases stm_keyed.find w hkl es.toList (fun e he=>hS _ (hes e he).2) with ⟨f1,f2⟩ | ⟨j,e,f1,f2,f3⟩
 ·refine ⟨_,es.push { key:=key,val:=.agg #[],born:=c },?_,⟨⟨c + 1,ChangeMaps.heap_setBlock_same hb _⟩,?_⟩,hgr _ _⟩
  ·simp [Instr.mapUpdate,run_underlying Tryd.underlying65,MapKept.run_getObj_map hb,MapKept.run_setObj_map _ hb,hck,f1,Result.andThen]
   rfl
  ·intro x hx
   rw [Array.toList_push] at hx
   rcases List.mem_append.1 hx with hx | hx
   ·exact hes x hx
   ·obtain rfl : x = { key:=key,val:=.agg #[],born:=c }:=by simpa using hx
    exact ⟨rfl,hkey⟩
 ·refine ⟨_,es.modify j fun e=>{ e with key:=key,val:=.agg #[] },?_,⟨⟨c,ChangeMaps.heap_setBlock_same hb _⟩,?_⟩,hgr _ _⟩
  ·have f4 : es[j]? = some e:=by simpa using f2
   simp [Instr.mapUpdate,run_underlying Tryd.underlying65,MapKept.run_getObj_map hb,MapKept.run_setObj_map _ hb,hck,f1,f4,f3,hst,Result.andThen]
   rfl
  ·intro x hx
   obtain ⟨i,hi,rfl⟩:=List.getElem_of_mem hx
   have hi' : i < es.size:=by simpa using hi
   simp only [Array.getElem_toList,Array.getElem_modify]
   split
   ·exact ⟨rfl,hkey⟩
   ·exact hes _ (by simp)
end Go.Proofs.YtlcbhbahchiofaaDoor
/-
  THE RING: Seal and Owned.
-/
namespace Go.Proofs.YtlcbhbahchiofaaDoor
open Go.RowKit Go.IntWalk Nums

theorem own_seal : Own 8:=fun _ _=>by go_simp
theorem own_owned : Own 9:=fun _ _=>by go_simp
set_option maxRecDepth 100000 in
set_option maxHeartbeats 2000000 in
theorem seal_f {seed b : List UInt8} (t : UInt8) {v : Value} (hs : seed.length = 32) (w : World) (hT : Ta w) (hv : SB w v b) (hb : b.length ≤ 140737488355312) :
  Calls Tryd.prog 8 #[.agg (By seed).toArray,.int .u8 (t.toNat : Int),v] w fun e w'=>e = .returned (.agg (By (sgSig seed (msg t b))).toArray) ∧ Below w.heap.size w w':=by
 refine calls_F (vs:=[.agg (By seed).toArray,.int .u8 (t.toNat : Int),v]) 13 Tryd.func8 rfl (by rw [Tryd.ntmps8]; rfl) ?_;have hU:=Up.refl w;refine c_seq fun K hK=>?_;refine c_lit ?_;refine l_boxA ((By seed).toArray) rfl rfl rfl rfl rfl fun W1 g1 hw1 hg1 b1=>?_
 have q1 : w.heap.size ≤ g1:=by rw [hg1]; exact hU.size
 replace hU:=hU.step hw1;clear hw1 hg1;refine l_allocA ((By z64).toArray) rfl rfl rfl rfl zero64 fun W2 g2 hw2 hg2 b2=>?_
 have n1_2 : g1 ≠ g2:=by have:=b1.lt; omega
 have q2 : w.heap.size ≤ g2:=by rw [hg2]; exact hU.size
 replace b1:=b1.later hw2;replace hU:=hU.step hw2;clear hw2 hg2;refine l_nil ?_;refine hK _ _ ?_;clear hK K;refine c_seq fun K hK=>?_;refine c_g 6 (by decide) (by kernel_rfl) (by kernel_rfl) ?_;refine g_op rfl ?_;refine f_by g1 0 hs rfl rfl rfl rfl rfl (fun _ h1=>(h1.1.blk b1).range) ?_;refine g_go ?_;refine g_op rfl ?_;refine f_move (.int .u8 (t.toNat : Int)) rfl rfl rfl rfl rfl ?_;refine g_go ?_;refine g_op rfl ?_;refine f_move (v) rfl rfl rfl rfl rfl ?_;refine g_go ?_;refine g_call #[.int .u8 (t.toNat : Int),v] (fun u w=>SB w u (msg t b)) rfl rfl rfl rfl (fun _ _ _ h hr=>h.later hr) own_r7signed (fun w1 h1 hu=>signed_f t w1 (hv.later (hU.step h1)) hb) rfl rfl fun v10 _ _ _=>?_;refine g_slices [v10] [msg t b] (W2).heap.size rfl rfl rfl rfl rfl rfl rfl (by decide) (by decide) (fun _ h=>h.size) (fun _ h hu=>⟨(hu 3 _ rfl (by kernel_rfl) : SB _ v10 _),trivial⟩) fun gs3 _ _ _=>?_;refine g_op rfl ?_
 refine f_call #[.agg (By seed).toArray,.slice (some ⟨gs3,0,none⟩) 1 1] (.agg (By (sgSig seed (msg t b))).toArray) rfl rfl rfl own_sign (fun w1 h1=>by
   have:=sign_f (seed:=seed) (P:=some ⟨gs3,0,none⟩) (ls:=[msg t b]) (pc:=1) hs w1 (hT.below (hU.step h1.1)) ((h1.2 4 _ rfl (by kernel_rfl) : NewS _ _ _ _ _).pt) (fun e=>by cases e) (by simp)
   rwa [show [msg t b].flatten = msg t b from by simp] at this) rfl rfl ?_
 refine g_go ?_;refine g_end fun W4 hw4 hF4=>?_;clear hF4;replace b1:=b1.later hw4;replace b2:=b2.later hw4;replace hU:=hU.step hw4;clear hw4;refine l_set g2 _ ((By (sgSig seed (msg t b))).toArray) rfl rfl rfl rfl rfl b2 (size_64 ((sgSig_len _ _))) (by rw [List.size_toArray,List.size_toArray,By_len,By_len,((sgSig_len _ _))]; rfl) (By_oneA _) ?_;replace b1:=b1.rowFar n1_2 ((By (sgSig seed (msg t b))).toArray);replace b2:=b2.row ((By (sgSig seed (msg t b))).toArray);replace hU:=up_row hU q2 ((By (sgSig seed (msg t b))).toArray);generalize World.setRow _ g2 ((By (sgSig seed (msg t b))).toArray) = W5 at *;refine l_nil ?_;refine hK _ _ ?_;clear hK K;exact c_ret (k_ret_row g2 _ rfl rfl b2 Tryd.underlying35 rfl (size_64 ((sgSig_len _ _))) ⟨rfl,hU⟩)
set_option maxRecDepth 100000 in
set_option maxHeartbeats 2000000 in
theorem owned_f {key sig b : List UInt8} (t : UInt8) {v : Value} (hk : key.length = 32) (hs : sig.length = 64) (w : World) (hT : Ta w) (hv : SB w v b) (hb : b.length ≤ 140737488355312) :
  Calls Tryd.prog 9 #[.agg (By key).toArray,.int .u8 (t.toNat : Int),v,.agg (By sig).toArray] w fun e w'=>e = .returned (.bool (rightB key sig (msg t b))) ∧ Below w.heap.size w w':=by
 refine calls_F (vs:=[.agg (By key).toArray,.int .u8 (t.toNat : Int),v,.agg (By sig).toArray]) 16 Tryd.func9 rfl (by rw [Tryd.ntmps9]; rfl) ?_;have hU:=Up.refl w;refine c_seq fun K hK=>?_;refine c_lit ?_;refine l_boxA ((By key).toArray) rfl rfl rfl rfl rfl fun W1 g1 hw1 hg1 b1=>?_
 have q1 : w.heap.size ≤ g1:=by rw [hg1]; exact hU.size
 replace hU:=hU.step hw1;clear hw1 hg1;refine l_boxA ((By sig).toArray) rfl rfl rfl rfl rfl fun W2 g2 hw2 hg2 b2=>?_
 have n1_2 : g1 ≠ g2:=by have:=b1.lt; omega
 have q2 : w.heap.size ≤ g2:=by rw [hg2]; exact hU.size
 replace b1:=b1.later hw2;replace hU:=hU.step hw2;clear hw2 hg2;refine l_assign (.bool false) rfl rfl rfl rfl rfl ?_;refine l_nil ?_;refine hK _ _ ?_;clear hK K;refine c_seq fun K hK=>?_;refine c_g 8 (by decide) (by kernel_rfl) (by kernel_rfl) ?_;refine g_op rfl ?_;refine f_by g1 0 hk rfl rfl rfl rfl rfl (fun _ h1=>(h1.1.blk b1).range) ?_;refine g_go ?_;refine g_op rfl ?_;refine f_b64 g2 hs rfl rfl rfl rfl rfl (fun _ h1=>(h1.1.blk b2).range) ?_;refine g_go ?_;refine g_op rfl ?_;refine f_move (.int .u8 (t.toNat : Int)) rfl rfl rfl rfl rfl ?_;refine g_go ?_;refine g_op rfl ?_;refine f_move (v) rfl rfl rfl rfl rfl ?_;refine g_go ?_;refine g_call #[.int .u8 (t.toNat : Int),v] (fun u w=>SB w u (msg t b)) rfl rfl rfl rfl (fun _ _ _ h hr=>h.later hr) own_r7signed (fun w1 h1 hu=>signed_f t w1 (hv.later (hU.step h1)) hb) rfl rfl fun v13 _ _ _=>?_;refine g_slices [v13] [msg t b] (W2).heap.size rfl rfl rfl rfl rfl rfl rfl (by decide) (by decide) (fun _ h=>h.size) (fun _ h hu=>⟨(hu 4 _ rfl (by kernel_rfl) : SB _ v13 _),trivial⟩) fun gs3 _ _ _=>?_;refine g_op rfl ?_
 refine f_call #[.agg (By key).toArray,.agg (By sig).toArray,.slice (some ⟨gs3,0,none⟩) 1 1] (.bool (rightB key sig (msg t b))) rfl rfl rfl own_verify (fun w1 h1=>by
   have:=verify_f (key:=key) (sig:=sig) (P:=some ⟨gs3,0,none⟩) (ls:=[msg t b]) (pc:=1) hk hs w1 (hT.below (hU.step h1.1)) ((h1.2 5 _ rfl (by kernel_rfl) : NewS _ _ _ _ _).pt) (fun e=>by cases e) (by simp)
   rwa [show [msg t b].flatten = msg t b from by simp] at this) rfl rfl ?_
 refine g_go ?_;refine g_op rfl ?_;refine f_assign (.bool (rightB key sig (msg t b))) rfl rfl rfl rfl rfl ?_;refine g_go ?_;refine g_end fun W4 hw4 hF4=>?_;clear hF4;replace b1:=b1.later hw4;replace b2:=b2.later hw4;replace hU:=hU.step hw4;clear hw4;refine l_nil ?_;refine hK _ _ ?_;clear hK K;exact c_ret (fun a ha=>bodyPost_ret (results_tmp rfl _ _ _) ha.defers ⟨congrArg Ending.returned (ha.get 8 _ rfl),hU⟩)
end Go.Proofs.YtlcbhbahchiofaaDoor
/-
  THE RING IN MEMORY; Size, Faults, Quorum, has, Key.
-/
namespace Go.Proofs.YtlcbhbahchiofaaDoor
open Go.RowKit Go.IntWalk Nums

theorem own_rsize : Own 22:=fun _ _=>by go_simp
theorem own_rfaults : Own 43:=fun _ _=>by go_simp
theorem own_rquorum : Own 23:=fun _ _=>by go_simp
theorem own_rhas : Own 20:=fun _ _=>by go_simp
theorem own_rkey : Own 10:=fun _ _=>by go_simp
theorem own_ropen : Own 26:=fun _ _=>by go_simp
theorem own_rnew7 : Own 16:=fun _ _=>by go_simp

section
variable {P : Program} {ops : Array Oper} {C0 : World → Prop} {Q : Act → Prop} {N : Nat} {E : List (Nat × Value)} {o : Oper} {rest : List Oper} {k : Nat}
theorem f_skip {j t : Nat} {b : Bool} (hgd : o.guard = some (j,b)) (hj : (ops[j]?).bind (·.dst) = some t) (hN : Nat.blt t N = true) (ht : look E t = some (.bool (!b))) (hd : o.dst = some k) (hk : Nat.blt k N = true) (h : bF P ops C0 Q rest N ((k,undef) :: E)) : bF P ops C0 Q (o :: rest) N E:=fun a ha=>by
 have htN : t < a.tmps.size:=by rw [ha.size]; simpa using hN
 have h2:=ha.get t _ ht
 have h3 : a.tmps[t]? = some (.bool (!b)):=by
  simp only [Act.eval,Array.getD_eq_getD_getElem?] at h2;rw [Array.getElem?_eq_getElem htN] at h2 ⊢
  simpa using h2
 have hw : ¬ Region.wanted o (yielded ops a.tmps) = true:=by
  unfold Region.wanted
  rw [hgd]
  simp [yielded,hj,h3]
 unfold wpB
 rw [if_neg hw,hd];exact h _ (ha.put hk _)
theorem f_want {j t : Nat} {b : Bool} (hgd : o.guard = some (j,b)) (hj : (ops[j]?).bind (·.dst) = some t) (hN : Nat.blt t N = true) (ht : look E t = some (.bool b)) (h : bF P ops C0 Q ({ o with guard:=none } :: rest) N E) : bF P ops C0 Q (o :: rest) N E:=fun a ha=>by
 have h1:=h a ha
 have htN : t < a.tmps.size:=by rw [ha.size]; simpa using hN
 have h2:=ha.get t _ ht
 have h3 : a.tmps[t]? = some (.bool b):=by
  simp only [Act.eval,Array.getD_eq_getD_getElem?] at h2;rw [Array.getElem?_eq_getElem htN] at h2 ⊢
  simpa using h2
 have hw : Region.wanted o (yielded ops a.tmps) = true:=by
  unfold Region.wanted
  rw [hgd]
  simp [yielded,hj,h3]
 obtain ⟨dst,op,ty,pos,af,gd⟩:=o
 unfold wpB at h1 ⊢
 rw [if_pos hw];rw [if_pos (by rfl)] at h1;exact h1
end

def SK (ks : List (List UInt8)) (v : Value) : Prop:=∃ (i : Nat) (t : UInt8) (b s : List UInt8),i < ks.length ∧ v = STM i t b s ∧ b.length ≤ maxLen ∧ s.length = 64 ∧ rightB ks[i]! s (msg t b) = true
structure RgW (w : World) (base g m : Nat) (ks : List (List UInt8)) : Prop where
  fit : ks.length = 1 ∨ ks.length = 4 ∨ ks.length = 7
  gb : base ≤ g
  mb : base ≤ m
  keys : ∃ b o c,Blk w g 67 #[.slice (some ⟨b,o,none⟩) ks.length c,.map (some m)] ∧ base ≤ b ∧ HV w (some ⟨b,o,none⟩) ks ∧ ks.length ≤ c ∧ c ≤ 9223372036854775807
  map : ∃ es,MapK w m es (SK ks)
section
variable {w w' : World} {base g m : Nat} {ks : List (List UInt8)}
theorem RgW.keep (h : RgW w base g m ks) (hs : w.heap.size ≤ w'.heap.size) (hk : ∀ k,base ≤ k → k < w.heap.size → w'.heap[k]? = w.heap[k]?) : RgW w' base g m ks:=by
 obtain ⟨b,o,c,h1,h2,h3,h4,h5⟩:=h.keys;obtain ⟨es,h6⟩:=h.map;exact ⟨h.fit,h.gb,h.mb,⟨b,o,c,(hk g h.gb h1.lt).trans h1,h2,h3.keep hs fun b' o' e hlt=>by cases e; exact hk b h2 hlt,h4,h5⟩,es,h6.keep (hk m h.mb h6.lt)⟩
theorem RgW.later (h : RgW w base g m ks) (hb : Below w.heap.size w w') : RgW w' base g m ks:=h.keep hb.size fun k _ hlt=>hb.block k hlt
theorem RgW.pos (h : RgW w base g m ks) : 0 < ks.length:=by rcases h.fit with h | h | h <;> omega
theorem RgW.len (h : RgW w base g m ks) : ∀ l ∈ ks,l.length = 32:=by
 obtain ⟨b,o,c,_,_,h3,_⟩:=h.keys;exact h3.len
theorem SK.key (hf : ks.length = 1 ∨ ks.length = 4 ∨ ks.length = 7) : ∀ v,SK ks v → ∃ l,keyOf Tryd.prog 100 v = some l:=by
 rintro v ⟨i,t,b,s,hi,rfl,hb,hs,_⟩
 refine stm_key ?_ hb hs
 simp [Lit.wf,IntKind.min,IntKind.max,IntKind.signed,IntKind.bits]
 omega
end
abbrev ptr (g : Nat) : Value:=.pointer (some ⟨g,0,none⟩)
set_option maxRecDepth 100000 in
set_option maxHeartbeats 1000000 in
theorem rsize_f {base g m : Nat} {ks : List (List UInt8)} (w : World) (hR : RgW w base g m ks) : Calls Tryd.prog 22 #[ptr g] w fun e w'=>e = .returned (.int .i64 (ks.length : Int)) ∧ Below w.heap.size w w':=by
 refine calls_F (vs:=[ptr g]) 10 Tryd.func22 rfl (by rw [Tryd.ntmps22]; rfl) ?_;refine c_seq fun K hK=>?_;refine c_qF ?_;refine f_assign (.int .i64 0) rfl rfl rfl rfl rfl ?_;refine f_end fun w1 hw1=>hK _ _ ?_;clear hK K;refine c_seq fun K0 hK0=>?_;refine c_seq fun K hK=>?_;refine c_qF ?_;refine f_move (ptr g) rfl rfl rfl rfl rfl ?_;refine f_eqP (some ⟨g,0,none⟩) false rfl rfl rfl rfl rfl rfl rfl ?_;refine f_end fun w2 hw2=>hK _ _ ?_;clear hK K;refine c_cond false rfl ?_;rw [if_neg (by decide)];refine c_skip ?_;refine hK0 _ _ ?_;obtain ⟨b,o,c,h1,_⟩:=(hR.later (Up.step hw1 hw2)).keys;refine c_seq fun K hK=>?_;refine c_qF ?_;refine f_move (ptr g) rfl rfl rfl rfl rfl ?_;refine f_nilc ⟨g,0,none⟩ rfl rfl rfl rfl rfl ?_;refine f_fld g 0 0 rfl rfl rfl rfl rfl (rfld0 g) ?_;refine f_loadV ⟨g,0,none⟩ (.slice (some ⟨b,o,none⟩) ks.length c) (.inl rfl) rfl rfl rfl rfl rfl (fun _ h=>((h.blk h1).cell 0).trans rfl) ?_;refine f_lenH (some ⟨b,o,none⟩) ks.length c rfl rfl rfl rfl rfl ?_;refine f_assign (.int .i64 (ks.length : Int)) rfl rfl rfl rfl rfl ?_;refine f_end fun w3 hw3=>hK _ _ ?_;exact c_ret fun a ha=>bodyPost_ret (results_tmp rfl _ _ _) ha.defers ⟨congrArg Ending.returned (ha.get 2 _ rfl),(Up.step hw1 hw2).step hw3⟩
set_option maxRecDepth 100000 in
set_option maxHeartbeats 1000000 in
theorem rhas_any {v : Value} (n : Nat) (i : Int) (w : World) (hs : ∀ w',Up w w' → Calls Tryd.prog 22 #[v] w' fun e w''=>e = .returned (.int .i64 (n : Int)) ∧ Below w'.heap.size w' w'') :
  Calls Tryd.prog 20 #[v,.int .i64 i] w fun e w'=>e = .returned (.bool (decide (0 ≤ i ∧ i < n))) ∧ Below w.heap.size w w':=by
 refine calls_F (vs:=[v,.int .i64 i]) 13 Tryd.func20 rfl (by rw [Tryd.ntmps20]; rfl) ?_;refine c_seq fun K hK=>?_;refine c_qF ?_;refine f_assign (.bool false) rfl rfl rfl rfl rfl ?_;refine f_end fun w1 hw1=>hK _ _ ?_;clear hK K;refine c_seq fun K hK=>?_;refine c_qF ?_;refine f_move (.int .i64 i) rfl rfl rfl rfl rfl ?_;refine f_leqI 0 i (decide (0 ≤ i)) rfl rfl rfl rfl rfl rfl rfl ?_
 by_cases h0 : 0 ≤ i
 ·rw [decide_eq_true h0]
  refine f_move (.bool true) rfl rfl rfl rfl rfl ?_;refine f_want rfl rfl rfl rfl ?_;refine f_move (.int .i64 i) rfl rfl rfl rfl rfl ?_;refine f_want rfl rfl rfl rfl ?_;refine f_move v rfl rfl rfl rfl rfl ?_;refine f_want rfl rfl rfl rfl ?_;refine f_call #[v] (.int .i64 (n : Int)) rfl rfl rfl own_rsize (fun w2 h2=>hs w2 (Up.step hw1 h2)) rfl rfl ?_;refine f_want rfl rfl rfl rfl ?_;refine f_lssI i (n : Int) (decide (0 ≤ i ∧ i < n)) rfl rfl rfl rfl rfl rfl (by rw [decide_eq_decide]; omega) ?_;refine f_pick (.bool (decide (0 ≤ i ∧ i < n))) rfl rfl rfl rfl rfl rfl ?_;refine f_assign (.bool (decide (0 ≤ i ∧ i < n))) rfl rfl rfl rfl rfl ?_;refine f_end fun w3 hw3=>hK _ _ ?_;exact c_ret fun a ha=>bodyPost_ret (results_tmp rfl _ _ _) ha.defers ⟨congrArg Ending.returned (ha.get 4 _ rfl),Up.step hw1 hw3⟩
 ·rw [decide_eq_false h0]
  refine f_move (.bool false) rfl rfl rfl rfl rfl ?_;refine f_skip rfl rfl rfl rfl rfl rfl ?_;refine f_skip rfl rfl rfl rfl rfl rfl ?_;refine f_skip rfl rfl rfl rfl rfl rfl ?_;refine f_skip rfl rfl rfl rfl rfl rfl ?_;refine f_pickF (.bool false) rfl rfl rfl rfl rfl rfl ?_;refine f_assign (.bool false) rfl rfl rfl rfl rfl ?_;refine f_end fun w3 hw3=>hK _ _ ?_;exact c_ret fun a ha=>bodyPost_ret (results_tmp rfl _ _ _) ha.defers ⟨congrArg Ending.returned ((ha.get 4 _ rfl).trans (congrArg Value.bool (decide_eq_false (fun h=>h0 h.1)).symm)),Up.step hw1 hw3⟩
end Go.Proofs.YtlcbhbahchiofaaDoor
/-
  THE RING: New.
-/
namespace Go.Proofs.YtlcbhbahchiofaaDoor
open Go.RowKit Go.IntWalk Nums

section
variable {ops : Array Oper} {Q : Exit → Act → World → Prop} {N : Nat} {E : List (Nat × Value)} {w : World} {o : Oper} {rest : List Oper} {k : Nat}
theorem l_makeMap (hg : o.guard = none) (hd : o.dst = some k) (hk : Nat.blt k N = true) (ho : o.op = .makeMap 65 none)
  (hn : lF Tryd.prog ops Q rest N ((k,.map (some w.heap.size)) :: E) (w.alloc (.map #[] 0))) : lF Tryd.prog ops Q (o :: rest) N E w :=
 l_val _ hg hd hk (fun a _=>by
  have hr:=run_makeMap (P:=Tryd.prog) 65 w
  unfold execOp
  simp only [ho,Option.map_none,Sem.run_bind,hr,Result.andThen_ok,Sem.run_pure]) hn
end
theorem built_ring (g n c m : Nat) : Tryd.prog.built 67 [(0,.slice (some ⟨g,0,none⟩) n c),(1,.map (some m))] = some #[.slice (some ⟨g,0,none⟩) n c,.map (some m)]:=by kernel_rfl
set_option maxRecDepth 100000 in
set_option maxHeartbeats 1000000 in
theorem rnew7_yes {A : Option Addr} {ks : List (List UInt8)} {c : Nat} (hn : ks.length ≤ c) (hc : c ≤ 9223372036854775807) (hf : ks.length = 1 ∨ ks.length = 4 ∨ ks.length = 7) (hd : ks.Nodup) (w : World) (hA : HV w A ks) :
  Calls Tryd.prog 16 #[.slice A ks.length c] w fun e w'=>(∃ g m,e = .returned (.tuple #[ptr g,.int .i64 0]) ∧ RgW w' w.heap.size g m ks) ∧ Below w.heap.size w w':=by
 refine calls_F (vs:=[.slice A ks.length c]) 17 Tryd.func16 rfl (by rw [Tryd.ntmps16]; rfl) ?_;have hU:=Up.refl w;refine c_seq fun K hK=>?_;refine c_qF ?_;refine f_assign (.pointer none) rfl rfl rfl rfl rfl ?_;refine f_assign (.int .i64 0) rfl rfl rfl rfl rfl ?_;refine f_end fun w1 hw1=>hK _ _ ?_;replace hU:=hU.step hw1;clear hw1 hK K;refine c_seq fun K0 hK0=>?_;refine c_seq fun K hK=>?_;refine c_qF ?_;refine f_move (.slice A ks.length c) rfl rfl rfl rfl rfl ?_;refine f_lenH A ks.length c rfl rfl rfl rfl rfl ?_
 refine f_call #[.int .i64 (ks.length : Int)] (.bool true) rfl rfl rfl own_rfit (fun w2 h2=>by
  have:=rfit_f ks.length (by omega) w2
  rwa [decide_eq_true hf] at this) rfl rfl ?_
 refine f_not true false rfl rfl rfl rfl rfl rfl ?_;refine f_move (.bool false) rfl rfl rfl rfl rfl ?_;refine f_want rfl rfl rfl rfl ?_;refine f_move (.slice A ks.length c) rfl rfl rfl rfl rfl ?_;refine f_want rfl rfl rfl rfl ?_
 refine f_call #[.slice A ks.length c] (.bool false) rfl rfl rfl own_rtwice (fun w2 h2=>by
  have:=rtwice_f hn hc w2 (hA.later (hU.step h2))
  rwa [decide_eq_false (fun h=>h hd)] at this) rfl rfl ?_
 refine f_pickF (.bool false) rfl rfl rfl rfl rfl rfl ?_;refine f_end fun w2 hw2=>hK _ _ ?_;replace hU:=hU.step hw2;clear hw2 hK K;refine c_cond false rfl ?_;rw [if_neg (by decide)];refine c_skip ?_;refine hK0 _ _ ?_;clear hK0 K0
 have hpos : 0 < ks.length:=by omega
 refine c_seq fun K hK=>?_;refine c_lit ?_;refine l_move (.slice A ks.length c) rfl rfl rfl rfl rfl ?_
 refine l_call #[.slice A ks.length c] rfl rfl rfl own_hclone (clone_f (fun e=>by
  obtain ⟨b,o,h,_⟩:=hA hpos;rw [e] at h
  cases h) (by omega) w2 (hA.later hU)) rfl rfl ?_
 rintro e w3 ⟨⟨v,rfl,hG⟩,hb3⟩
 refine ⟨v,rfl,?_⟩;have hsz:=hU.size;replace hU:=hU.step hb3;have hG':=hG
 rcases hG.cut with ⟨_,h0⟩ | ⟨g,c',cs,rfl,hbg,hg,hn',hc',_,ht⟩
 ·rw [h0] at hpos
  cases hpos
 refine l_makeMap rfl rfl rfl rfl ?_;have hM:=MapK.new w3 (SK ks);have hal:=(Up.refl w3).alloc (.map #[] 0);have q1:=hU.size;replace hg:=hg.later hal;replace hU:=hU.step hal;generalize w3.alloc (.map #[] 0) = w4 at *;generalize w3.heap.size = m at *;refine l_ops 1 ?_;refine f_build [(0,.slice (some ⟨g,0,none⟩) ks.length c'),(1,.map (some m))] _ rfl rfl rfl rfl rfl (built_ring g ks.length c' m) ?_;refine f_tail fun w5 hw5=>?_;replace hg:=hg.later hw5;replace hM:=hM.keep (hw5.block m hM.lt);replace hU:=hU.step hw5;clear hw5;refine l_boxA #[.slice (some ⟨g,0,none⟩) ks.length c',.map (some m)] rfl rfl rfl rfl rfl fun w6 r hw6 hr b1=>?_
 have q2 : w.heap.size ≤ r:=by rw [hr]; exact hU.size
 replace hg:=hg.later hw6;replace hM:=hM.keep (hw6.block m hM.lt);replace hU:=hU.step hw6;clear hw6 hr;refine l_ops 2 ?_;refine f_assign (ptr r) rfl rfl rfl rfl rfl ?_;refine f_assign (.int .i64 0) rfl rfl rfl rfl rfl ?_;refine f_tail fun w7 hw7=>?_;refine l_nil ?_;refine hK _ _ ?_;refine c_ret fun a ha=>bodyPost_ret (results_tmp2 rfl _ _ _) ha.defers ?_;have hR : RgW w6 w.heap.size r m ks:=⟨hf,q2,q1,⟨g,0,c',b1,Nat.le_trans hsz hbg,hv_row hg hG'.1 ht,hn',hc'⟩,#[],hM⟩;refine ⟨⟨r,m,?_,hR.later hw7⟩,hU.step hw7⟩;have e1 : a.tmps.getD 2 undef = ptr r:=ha.get 2 _ rfl;have e2 : a.tmps.getD 3 undef = .int .i64 0:=ha.get 3 _ rfl;exact congrArg Ending.returned (show Value.tuple #[a.tmps.getD 2 undef,a.tmps.getD 3 undef] = _ by rw [e1,e2])
end Go.Proofs.YtlcbhbahchiofaaDoor
/-
  THE RING: Open.
-/
namespace Go.Proofs.YtlcbhbahchiofaaDoor
open Go.RowKit Go.IntWalk Nums

theorem fill_one (place : Nat → Option (Nat × Nat)) (i : Nat) (A Z : List Value) (o v : Value) (rest : List (Nat × Value)) (hp : place i = some (A.length,1)) (hv : v.cells = #[v]) :
  Instr.fill place (A ++ (o :: Z)).toArray ((i,v) :: rest) = Instr.fill place (A ++ (v :: Z)).toArray rest:=by
 rw [Instr.fill];simp only [hp,hv];rw [if_neg (by simp)]
 congr 1
 simp
def stz : List Value:=([.int .i64 0,.int .u8 0,.string ⟨#[]⟩] : List Value) ++ By z64
theorem built_stm (i : Int) (t : UInt8) (b : List UInt8) {s : List UInt8} (hs : s.length = 64) : Tryd.prog.built 100 [(0,.int .i64 i),(1,.int .u8 (t.toNat : Int)),(2,.string ⟨b.toArray⟩),(3,.agg (By s).toArray)] = some (#[Value.int .i64 i,.int .u8 (t.toNat : Int),.string ⟨b.toArray⟩] ++ (By s).toArray):=by
 rw [built_of (t:=100) (z:=stz.toArray) (pl:=[(0,1),(1,1),(2,1),(3,64)]) (by kernel_rfl)]
 show Instr.fill _ ([] ++ (Value.int .i64 0 :: (([.int .u8 0,.string ⟨#[]⟩] : List Value) ++ By z64))).toArray _ = _
 rw [fill_one _ 0 [] _ _ _ _ rfl rfl]
 show Instr.fill _ ([Value.int .i64 i] ++ (Value.int .u8 0 :: (([.string ⟨#[]⟩] : List Value) ++ By z64))).toArray _ = _
 rw [fill_one _ 1 [.int .i64 i] _ _ _ _ rfl rfl]
 show Instr.fill _ ([Value.int .i64 i,.int .u8 (t.toNat : Int)] ++ (Value.string ⟨#[]⟩ :: By z64)).toArray _ = _
 rw [fill_one _ 2 [.int .i64 i,.int .u8 (t.toNat : Int)] _ _ _ _ rfl rfl]
 show Instr.fill _ ([Value.int .i64 i,.int .u8 (t.toNat : Int),.string ⟨b.toArray⟩] ++ (By z64 ++ [])).toArray _ = _
 rw [fill_put _ 3 64 [.int .i64 i,.int .u8 (t.toNat : Int),.string ⟨b.toArray⟩] (By z64) [] (By s) [] rfl (by rw [By_len]; exact hs) (by rw [By_len]; rfl)];rw [Instr.fill]
 simp
section
variable {ops : Array Oper} {C0 : World → Prop} {Q : Act → Prop} {N : Nat} {E : List (Nat × Value)} {o : Oper} {rest : List Oper} {k : Nat}
theorem f_look {x y : Operand} (mv key : Value) (v : Value) (hg : o.guard = none) (hd : o.dst = some k) (hk : Nat.blt k N = true) (ho : o.op = .lookup 65 x y true) (hx : ev E x = some mv) (hy : ev E y = some key)
  (hr : ∀ w,C0 w → (Instr.lookup 65 mv key true).run Tryd.prog w = .ok v w) (hn : bF Tryd.prog ops C0 Q rest N ((k,v) :: E)) : bF Tryd.prog ops C0 Q (o :: rest) N E :=
 f_val _ hg hd hk (fun a ha w hw=>by
  have h1:=ha.eval hx;have h2:=ha.eval hy
  unfold execOp
  simp only [ho,h1,h2,Sem.run_bind,hr w hw,Result.andThen_ok,Sem.run_pure]) hn
end
theorem l_mapPut {ops : Array Oper} {Q : Exit → Act → World → Prop} {N : Nat} {E : List (Nat × Value)} {w : World} {o : Oper} {rest : List Oper} {x y z : Operand} {m : Nat} {es : Array MapEntry} {S : Value → Prop} (key : Value) (hg : o.guard = none) (hd : o.dst = none) (ho : o.op = .mapUpdate 65 x y z) (hx : ev E x = some (.map (some m))) (hy : ev E y = some key) (hz : ev E z = some (.agg #[]))
  (h : MapK w m es S) (hS : ∀ v,S v → ∃ l,keyOf Tryd.prog 100 v = some l) (hkey : S key) (hn : ∀ w' es',MapK w' m es' S → w.grownBy w' (some m) → lF Tryd.prog ops Q rest N E w') : lF Tryd.prog ops Q (o :: rest) N E w:=fun a ha=>by
 obtain ⟨w',es',hr,h1,h2⟩:=h.put hS hkey;have h3:=hn w' es' h1 h2 a ha;have e1:=ha.eval hx;have e2:=ha.eval hy;have e3:=ha.eval hz
 unfold wpList
 rw [if_pos (by simp [Region.wanted,hg])];refine .inl ?_
 unfold Oper.wp execOp
 simp only [ho,e1,e2,e3,Sem.run_bind,hr,Result.andThen_ok,Sem.run_pure,Oper.upon,hd];exact h3
theorem size_stm (i : Int) (t : UInt8) (b : List UInt8) {s : List UInt8} (hs : s.length = 64) : (#[Value.int .i64 i,.int .u8 (t.toNat : Int),.string ⟨b.toArray⟩] ++ (By s).toArray).size = 67:=by
 simp [By_len,hs]
theorem one_stm (i : Int) (t : UInt8) (b s : List UInt8) : ∀ v ∈ (#[Value.int .i64 i,.int .u8 (t.toNat : Int),.string ⟨b.toArray⟩] ++ (By s).toArray).toList,v.oneCell' = true:=by
 intro v hv
 simp only [Array.toList_append,List.mem_append] at hv
 rcases hv with hv | hv
 ·simp at hv
  rcases hv with rfl | rfl | rfl <;> rfl
 ·exact By_one s v hv
theorem info_stm : (Tryd.prog.info? 100).map (·.size) = some 67:=by kernel_rfl
section
variable {P : Program} {Rel : World → World → Prop} [hR : RelOk Rel] {ops : Array Oper} {C0 : World → Prop} {Q : Facts → Act → Prop} {N : Nat} {E : List (Nat × Value)} {Fa : Told} {o : Oper} {rest : List (Nat × Oper)} {i : Nat}
theorem g_nop (hg : o.guard = none) (hd : o.dst = none) (hf : farP i Fa = true) (h : ∀ a,Fr N E a → ∀ w,C0 w → Uses o Fa w → (execOp a.eval o).run P w = .ok .skip w) (hn : gF P Rel ops C0 Q rest N E Fa) : gF P Rel ops C0 Q ((i,o) :: rest) N E Fa:=fun a F ha hF=>by
 unfold wpG
 rw [if_pos (by simp [Region.wanted,hg])];refine ⟨fun v _=>v = undef,fun _ _ _ h _=>h,.inl ⟨undef,fun _ _ h=>h⟩,fun w hw he=>?_,fun v w hw _ hV=>hn _ _ (by dsimp only; rw [hd]; exact ha) (hF.up hf)⟩
 have h1:=h a ha w hw fun j p hj hed=>by
  obtain ⟨e,h1,h2,rfl⟩:=edgeTo_spec hed;exact hF _ (lookP_mem hj) w (he e h1 h2)
 dsimp only
 rw [h1];exact ⟨hR.below _ _ (Below.refl _ _),rfl⟩
end
theorem store_unit {ρ : Operand → Value} {o : Oper} {p x : Operand} {g t : Nat} {w : World} (ho : o.op = .store 101 p x) (hp : ρ p = .pointer (some ⟨g,0,none⟩)) (hx : ρ x = .agg #[]) (hb : Blk w g t #[]) : (execOp ρ o).run Tryd.prog w = .ok .skip w:=by
 have hr:=run_store_row (P:=Tryd.prog) w 101 g #[] #[] t hb (by kernel_rfl) rfl (fun v hv=>by simp at hv);rw [setRow_same hb] at hr
 unfold execOp
 simp only [ho,hp,hx,Sem.run_bind,hr,Result.andThen_ok,Sem.run_pure]
set_option maxRecDepth 100000 in
set_option maxHeartbeats 2000000 in
open Classical in
theorem ropen_f {base g0 m : Nat} {ks : List (List UInt8)} {bv : Value} {b s : List UInt8} (i : Nat) (t : UInt8) (hi : i < ks.length) (hs : s.length = 64) (w : World) (hT : Ta w) (hv : SB w bv b) (hb : b.length ≤ 140737488355312) (hR : RgW w base g0 m ks) :
  Calls Tryd.prog 26 #[ptr g0,.int .i64 (i : Int),.int .u8 (t.toNat : Int),bv,.agg (By s).toArray] w fun e w'=>e = .returned (.bool (rightB ks[i] s (msg t b))) ∧ RgW w' base g0 m ks ∧ w.grownBy w' (some m):=by
 have hgr : ∀ {a b : World},Up a b → a.grownBy b (some m):=fun h=>⟨h.os,h.tape,h.output,h.size,fun k hk _=>h.block k hk⟩;have hk32 : ks[i].length = 32:=hR.len _ (List.getElem_mem hi);refine calls_F (vs:=[ptr g0,.int .i64 (i : Int),.int .u8 (t.toNat : Int),bv,.agg (By s).toArray]) 52 Tryd.func26 rfl (by rw [Tryd.ntmps26]; rfl) ?_;have hU:=Up.refl w;refine c_seq fun K hK=>?_;refine c_lit ?_;refine l_boxA ((By s).toArray) rfl rfl rfl rfl rfl fun w1 g hw1 hg b1=>?_
 have q1 : w.heap.size ≤ g:=by rw [hg]; exact hU.size
 replace hU:=hU.step hw1;clear hw1 hg;refine l_assign (.bool false) rfl rfl rfl rfl rfl ?_;refine l_nil ?_;refine hK _ _ ?_;clear hK K;refine c_seq fun K0 hK0=>?_;refine c_seq fun K hK=>?_;refine c_qF ?_;refine f_move (ptr g0) rfl rfl rfl rfl rfl ?_;refine f_move (.int .i64 (i : Int)) rfl rfl rfl rfl rfl ?_
 refine f_call #[ptr g0,.int .i64 (i : Int)] (.bool true) rfl rfl rfl own_rhas (fun w2 h2=>by
  have:=rhas_any ks.length (i : Int) w2 fun w3 h3=>rsize_f w3 (hR.later (Up.step (Up.step hU h2) h3))
  rwa [decide_eq_true (show 0 ≤ (i : Int) ∧ (i : Int) < ks.length by omega)] at this) rfl rfl ?_
 refine f_not true false rfl rfl rfl rfl rfl rfl ?_;refine f_end fun w2 hw2=>hK _ _ ?_;clear hK K;refine c_cond false rfl ?_;rw [if_neg (by decide)];refine c_skip ?_;refine hK0 _ _ ?_;clear hK0 K0;replace b1:=b1.later hw2;replace hU:=hU.step hw2;clear hw2
 -- the statement
 refine c_seq fun K hK=>?_;refine c_lit ?_;refine l_ops 6 ?_;refine f_move (.int .i64 (i : Int)) rfl rfl rfl rfl rfl ?_;refine f_move (.int .u8 (t.toNat : Int)) rfl rfl rfl rfl rfl ?_;refine f_move bv rfl rfl rfl rfl rfl ?_;refine f_strB bv b rfl rfl rfl rfl rfl (fun _ h=>hv.later (hU.step h)) ?_;refine f_b64 g hs rfl rfl rfl rfl rfl (fun _ h=>(h.blk b1).range) ?_;refine f_build [(0,.int .i64 (i : Int)),(1,.int .u8 (t.toNat : Int)),(2,.string ⟨b.toArray⟩),(3,.agg (By s).toArray)] _ rfl rfl rfl rfl rfl (built_stm (i : Int) t b hs) ?_;refine f_tail fun w3 hw3=>?_;replace b1:=b1.later hw3;replace hU:=hU.step hw3;clear hw3;refine l_allocA stz.toArray rfl rfl rfl rfl (by kernel_rfl) fun w4 gs hw4 hgs b2=>?_
 have q2 : w.heap.size ≤ gs:=by rw [hgs]; exact hU.size
 have n12 : g ≠ gs:=by have:=b1.lt; omega
 replace b1:=b1.later hw4;replace hU:=hU.step hw4;clear hw4 hgs;obtain ⟨sc,hsc⟩ : ∃ sc,sc = #[Value.int .i64 (i : Int),.int .u8 (t.toNat : Int),.string ⟨b.toArray⟩] ++ (By s).toArray:=⟨_,rfl⟩;have hsz:=size_stm (i : Int) t b hs;have hone:=one_stm (i : Int) t b s
 have hstm : STM (i : Int) t b s = .agg sc:=by rw [hsc]; rfl
 rw [← hsc] at hsz hone ⊢;clear hsc;refine l_set gs _ sc rfl rfl rfl rfl rfl b2 (by rw [hsz]; exact info_stm) (by rw [hsz]; rfl) hone ?_;replace b1:=b1.rowFar n12 sc;replace b2:=b2.row sc;replace hU:=up_row hU q2 sc;generalize World.setRow _ gs sc = w5 at *;refine l_nil ?_;refine k_sub (E':=[(0,ptr g0),(1,.int .i64 (i : Int)),(2,.int .u8 (t.toNat : Int)),(3,bv),(9,ptr g),(11,ptr gs)]) ⟨rfl,rfl,rfl,rfl,rfl,rfl,trivial⟩ ?_;refine hK _ _ ?_;clear hK K
 -- is it kept?
 obtain ⟨bb,oo,c,h1,_,h3,_⟩:=(hR.later hU).keys;obtain ⟨es,hM⟩:=(hR.later hU).map
 have hkey : ∃ l,keyOf Tryd.prog 100 (.agg sc) = some l:=by
  rw [← hstm];refine stm_key ?_ (by unfold maxLen; omega) hs;have:=hR.fit
  simp [Lit.wf,IntKind.min,IntKind.max,IntKind.signed,IntKind.bits]
  omega
 obtain ⟨q,hq⟩ : ∃ q,q = decide (∃ e ∈ es.toList,e.key = .agg sc):=⟨_,rfl⟩
 have hlook : ∀ w',Up w5 w' → (Instr.lookup 65 (.map (some m)) (.agg sc) true).run Tryd.prog w' = .ok (.tuple #[.agg #[],.bool q]) w':=fun w' h=>by
  rw [hq];exact (hM.keep (h.block m hM.lt)).look (SK.key hR.fit) hkey
 refine c_seq fun K0 hK0=>?_;refine c_seq fun K hK=>?_;refine c_g 11 (by decide) (by kernel_rfl) (by kernel_rfl) ?_;refine g_op rfl ?_;refine f_move (ptr g0) rfl rfl rfl rfl rfl ?_;refine g_go ?_;refine g_op rfl ?_;refine f_nilc ⟨g0,0,none⟩ rfl rfl rfl rfl rfl ?_;refine g_go ?_;refine g_op rfl ?_;refine f_fld g0 0 1 rfl rfl rfl rfl rfl (rfld1 g0) ?_;refine g_go ?_;refine g_op rfl ?_;refine f_loadV ⟨g0,1,none⟩ (.map (some m)) (.inr rfl) rfl rfl rfl rfl rfl (fun _ h=>((h.1.blk h1).cell 1).trans rfl) ?_;refine g_go ?_;refine g_op rfl ?_;refine f_row gs 0 sc.toList _ rfl rfl rfl rfl rfl (fun _ h=>(h.1.blk b2).range) Tryd.underlying100 rfl (by rw [Array.length_toList,hsz]; exact info_stm) ?_;refine g_go ?_;refine g_op rfl ?_;refine f_look (.map (some m)) (.agg sc) (.tuple #[.agg #[],.bool q]) rfl rfl rfl rfl rfl rfl (fun _ h=>hlook _ h.1) ?_;refine g_go ?_;refine g_op rfl ?_;refine f_move (.tuple #[.agg #[],.bool q]) rfl rfl rfl rfl rfl ?_;refine g_go ?_;refine g_op rfl ?_;refine f_extract (.agg #[]) rfl rfl rfl rfl rfl rfl ?_;refine g_go ?_;refine g_op rfl ?_;refine f_extract (.bool q) rfl rfl rfl rfl rfl rfl ?_;refine g_go ?_;refine g_alloc #[] w5.heap.size rfl rfl rfl rfl rfl (by kernel_rfl) (fun _ h=>h.size) (fun g w w' h hr=>⟨h.1,h.2.later hr⟩) fun gu _ _ _ _=>?_;refine g_nop rfl rfl rfl (fun a ha w _ hu=>store_unit rfl (ha.eval rfl) (ha.eval rfl) (hu 9 _ rfl (by kernel_rfl)).2) ?_;refine g_end fun w6 hw6 _=>?_;replace b1:=b1.later hw6;replace b2:=b2.later hw6;replace hU:=hU.step hw6;replace h1:=h1.later hw6;replace h3:=h3.later hw6;replace hM:=hM.keep (hw6.block m hM.lt);clear hlook hw6;refine l_assign (.bool q) rfl rfl rfl rfl rfl ?_;refine l_nil ?_;refine k_sub (E':=[(0,ptr g0),(1,.int .i64 (i : Int)),(2,.int .u8 (t.toNat : Int)),(3,bv),(9,ptr g),(11,ptr gs),(13,.bool q)]) ⟨rfl,rfl,rfl,rfl,rfl,rfl,rfl,trivial⟩ ?_;refine hK _ _ ?_;clear hK K;refine c_seq fun K hK=>?_;refine c_qF ?_;refine f_move (.bool q) rfl rfl rfl rfl rfl ?_;refine f_end fun w7 hw7=>hK _ _ ?_;replace b1:=b1.later hw7;replace b2:=b2.later hw7;replace hU:=hU.step hw7;replace h1:=h1.later hw7;replace h3:=h3.later hw7;replace hM:=hM.keep (hw7.block m hM.lt);clear hK K hw7;refine c_cond q rfl ?_
 by_cases hin : ∃ e ∈ es.toList,e.key = .agg sc
 ·rw [decide_eq_true hin] at hq
  subst hq
  have hr : rightB ks[i] s (msg t b) = true:=by
   obtain ⟨e,he,hke⟩:=hin;obtain ⟨j,u,b',s',hj,hk,_,_,hrr⟩:=(hM.2 e he).2;rw [hke,← hstm] at hk;obtain ⟨e1,e2,e3,e4⟩:=stm_inj hk
   obtain rfl : i = j:=by omega
   subst e2 e3 e4
   rwa [getElem!_pos ks i hi] at hrr
  rw [if_pos rfl];refine c_seq fun K hK=>?_;refine c_qF ?_;refine f_assign (.bool true) rfl rfl rfl rfl rfl ?_;refine f_end fun w8 hw8=>hK _ _ ?_;refine c_ret ?_;exact k_then_ret fun a ha=>bodyPost_ret (results_tmp rfl _ _ _) ha.defers ⟨congrArg Ending.returned ((ha.get 10 _ rfl).trans (congrArg Value.bool hr.symm)),hR.later (hU.step hw8),hgr (hU.step hw8)⟩
 rw [decide_eq_false hin] at hq;subst hq;rw [if_neg (by decide)];refine c_skip ?_;refine hK0 _ _ ?_;clear hK0 K0
 -- it is verified
 obtain ⟨bb',oo',e,hlt,hcc⟩:=h3 hR.pos
 injection e with e
 injection e with e1 e2
 subst e1 e2;obtain ⟨hx1,hx2⟩:=hcc i ks[i] (List.getElem?_eq_getElem hi);refine c_seq fun K0 hK0=>?_;refine c_seq fun K hK=>?_;refine c_g 12 (by decide) (by kernel_rfl) (by kernel_rfl) ?_;refine g_op rfl ?_;refine f_move (ptr g0) rfl rfl rfl rfl rfl ?_;refine g_go ?_;refine g_op rfl ?_;refine f_nilc ⟨g0,0,none⟩ rfl rfl rfl rfl rfl ?_;refine g_go ?_;refine g_op rfl ?_;refine f_fld g0 0 0 rfl rfl rfl rfl rfl (rfld0 g0) ?_;refine g_go ?_;refine g_op rfl ?_;refine f_loadV ⟨g0,0,none⟩ (.slice (some ⟨bb,oo,none⟩) ks.length c) (.inl rfl) rfl rfl rfl rfl rfl (fun _ h=>((h.1.blk h1).cell 0).trans rfl) ?_;refine g_go ?_;refine g_op rfl ?_;refine f_move (.int .i64 (i : Int)) rfl rfl rfl rfl rfl ?_;refine g_go ?_;refine g_op rfl ?_;refine f_ix _ (i : Int) ⟨bb,oo + 32 * i,none⟩ rfl rfl rfl rfl rfl rfl (ixHs bb oo ks.length c i hi) ?_;refine g_go ?_;refine g_op rfl ?_;refine f_by bb (oo + 32 * i) hx1 rfl rfl rfl rfl rfl (fun _ h=>rangeAt_later hx2 (h.1.block bb hlt)) ?_;refine g_go ?_;refine g_op rfl ?_;refine f_move (.int .u8 (t.toNat : Int)) rfl rfl rfl rfl rfl ?_;refine g_go ?_;refine g_op rfl ?_;refine f_move bv rfl rfl rfl rfl rfl ?_;refine g_go ?_;refine g_op rfl ?_;refine f_b64 g hs rfl rfl rfl rfl rfl (fun _ h=>(h.1.blk b1).range) ?_;refine g_go ?_;refine g_op rfl ?_;refine f_call #[.agg (By ks[i]).toArray,.int .u8 (t.toNat : Int),bv,.agg (By s).toArray] (.bool (rightB ks[i] s (msg t b))) rfl rfl rfl own_owned (fun w1 h1=>owned_f t hk32 hs w1 (hT.below (hU.step h1.1)) (hv.later (hU.step h1.1)) hb) rfl rfl ?_;refine g_go ?_;refine g_op rfl ?_;refine f_not (rightB ks[i] s (msg t b)) (!rightB ks[i] s (msg t b)) rfl rfl rfl rfl rfl rfl ?_;refine g_go ?_;refine g_end fun w8 hw8 _=>?_;refine l_nil ?_;refine k_sub (E':=[(0,ptr g0),(11,ptr gs),(45,.bool (!rightB ks[i] s (msg t b)))]) ⟨rfl,rfl,rfl,trivial⟩ ?_;refine hK _ _ ?_;replace b2:=b2.later hw8;replace hU:=hU.step hw8;replace h1:=h1.later hw8;replace hM:=hM.keep (hw8.block m hM.lt);clear hK K hw8 hx2 hcc hlt h3 b1;refine c_cond (!rightB ks[i] s (msg t b)) rfl ?_
 by_cases hr : rightB ks[i] s (msg t b) = true
 ·rw [hr,Bool.not_true,if_neg (by decide)]
  refine c_skip ?_;refine hK0 _ _ ?_;clear hK0 K0;refine c_seq fun K hK=>?_;refine c_g 6 (by decide) (by kernel_rfl) (by kernel_rfl) ?_;refine g_op rfl ?_;refine f_move (ptr g0) rfl rfl rfl rfl rfl ?_;refine g_go ?_;refine g_op rfl ?_;refine f_nilc ⟨g0,0,none⟩ rfl rfl rfl rfl rfl ?_;refine g_go ?_;refine g_op rfl ?_;refine f_fld g0 0 1 rfl rfl rfl rfl rfl (rfld1 g0) ?_;refine g_go ?_;refine g_op rfl ?_;refine f_loadV ⟨g0,1,none⟩ (.map (some m)) (.inr rfl) rfl rfl rfl rfl rfl (fun _ h=>((h.1.blk h1).cell 1).trans rfl) ?_;refine g_go ?_;refine g_op rfl ?_;refine f_row gs 0 sc.toList _ rfl rfl rfl rfl rfl (fun _ h=>(h.1.blk b2).range) Tryd.underlying100 rfl (by rw [Array.length_toList,hsz]; exact info_stm) ?_;refine g_go ?_;refine g_op rfl ?_;refine f_build [] #[] rfl rfl rfl rfl rfl (by kernel_rfl) ?_;refine g_go ?_;refine g_end fun w9 hw9 _=>?_;replace hU:=hU.step hw9;replace hM:=hM.keep (hw9.block m hM.lt);refine l_mapPut (.agg sc) rfl rfl rfl rfl rfl rfl hM (SK.key hR.fit) ⟨i,t,b,s,hi,hstm.symm,by unfold maxLen; omega,hs,by rwa [getElem!_pos ks i hi]⟩ fun w10 es' hM' hg10=>?_;refine l_nil ?_;refine hK _ _ ?_;clear hK K
  have hRW : RgW w10 base g0 m ks:=by
   have h0:=hR.later hU;obtain ⟨b0,o0,c0,k1,k2,k3,k4,k5⟩:=h0.keys
   have hne : ∀ {x t cs},Blk w9 x t cs → x ≠ m:=fun {x t cs} hx e=>by
    obtain ⟨⟨cl,hmm⟩,_⟩:=hM;rw [← e] at hmm
    unfold Blk at hx
    rw [hx] at hmm
    cases hmm
   obtain ⟨b0',o0',e0,hlt0,hcc0⟩:=k3 h0.pos
   have hbne : b0 ≠ m:=fun e=>by
    obtain ⟨hl0,hr0⟩:=hcc0 0 ks[0] (List.getElem?_eq_getElem h0.pos)
    injection e0 with e0
    injection e0 with e1 e2
    subst e1 e2;have h5:=hr0 0 _ (List.getElem?_eq_getElem (by rw [By_len,hl0]; decide));obtain ⟨⟨cl,hmm⟩,_⟩:=hM;rw [World.cell?] at h5;simp only [e,hmm] at h5
    cases h5
   exact ⟨h0.fit,h0.gb,h0.mb,⟨b0,o0,c0,(hg10.block g0 k1.lt (fun e=>hne k1 (by injection e))).trans k1,k2,k3.keep hg10.size (fun b' o' e hlt=>by cases e; exact hg10.block _ hlt (fun e=>hbne (by injection e))),k4,k5⟩,es',hM'⟩
  refine c_seq fun K hK=>?_;refine c_qF ?_;refine f_assign (.bool true) rfl rfl rfl rfl rfl ?_;refine f_end fun w11 hw11=>hK _ _ ?_;exact c_ret fun a ha=>bodyPost_ret (results_tmp rfl _ _ _) ha.defers ⟨congrArg Ending.returned ((ha.get 10 _ rfl).trans (congrArg Value.bool hr.symm)),hRW.later hw11,((hgr hU).trans hg10).trans (hgr hw11)⟩
 ·have hr' : rightB ks[i] s (msg t b) = false:=by simpa using hr
  rw [hr',Bool.not_false,if_pos rfl];refine c_seq fun K hK=>?_;refine c_qF ?_;refine f_assign (.bool false) rfl rfl rfl rfl rfl ?_;refine f_end fun w9 hw9=>hK _ _ ?_;refine c_ret ?_;exact k_then_ret fun a ha=>bodyPost_ret (results_tmp rfl _ _ _) ha.defers ⟨congrArg Ending.returned (ha.get 10 _ rfl),hR.later (hU.step hw9),hgr (hU.step hw9)⟩
end Go.Proofs.YtlcbhbahchiofaaDoor
