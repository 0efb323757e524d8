/-
  SEVERAL TEXTS IN ONE: RgV, CtF, WrV, CtM, CtR, CtC, CtN, CtO, Vk, RgOne, RgLit, Ct1, CtP, CtM2, Vm, Vn, Vo.
-/
import Derived.Test.YtlcbhbahchiofaaDoorMm
import Derived.Test.YtlcbhbahchiofaaDoorMc
import Derived.Lib.SlBytesConst
import Derived.Test.YtlcbhbahchiofaaDoorMk
/-
  THE RING OVER STATES: what is read of it, what of it is owned (what was verified); its calls' contracts.
-/
namespace Go.Proofs.YtlcbhbahchiofaaDoor
open Go.RowKit Go.IntWalk Nums

structure RgI where
  g : Nat
  m : Nat
  b : Nat
  o : Nat
  c : Nat
def RingF (r : RgI) (ks : List (List UInt8)) (w : World) : Prop:=(ks.length = 1 ∨ ks.length = 4 ∨ ks.length = 7) ∧
  ObjF r.g 67 [.one (.v (.slice (some ⟨r.b,r.o,none⟩) ks.length r.c)),.one (.v (.map (some r.m)))] w ∧ Rd 32 (eY 32) (some ⟨r.b,r.o,none⟩) r.c ks w
instance {r : RgI} {ks : List (List UInt8)} : Pst (RingF r ks):=⟨fun _ _ ⟨h1,h2,h3⟩ hb=>⟨h1,Pst.later _ _ h2 hb,h3.later hb⟩⟩
def RingM (m : Nat) (ks : List (List UInt8)) : Res where
  holds w S:=(∃ es,MapK w m es (SK ks)) ∧ ∀ j,S j ↔ j = m
  keep:=fun ⟨⟨es,h1⟩,h2⟩ hk=>⟨⟨es,h1.keep (hk m ((h2 m).2 rfl))⟩,h2⟩
  lt:=fun ⟨⟨_,h1⟩,h2⟩ j hj=>by rw [(h2 j).1 hj]; exact h1.lt
set_option maxRecDepth 100000 in
theorem rsize_S (r : RgI) (ks : List (List UInt8)) : Spec 22 [ptr r.g] [] (RingF r ks) (one (.v (.int .i64 (ks.length : Int)))):=by
 refine spec_S [.c (.v (ptr r.g))] 10 Tryd.func22 rfl (by rw [Tryd.ntmps22]; rfl) (one_ok trivial) fun b=>?_;refine s_auto TY_ok rfl ?_;refine s_seq fun K hK=>?_;refine s_auto TY_ok rfl ?_;refine s_no rfl ?_;refine s_skip ?_;refine hK _ ?_;refine s_reg fun K hK=>?_;refine l_autoS TY_ok rfl ?_;refine l_ldO TY_ok rfl rfl rfl rfl rfl rfl (obj_fact fun w h _=>h.2.1) ?_;refine l_autoS TY_ok rfl ?_;refine s_end (hK _ ?_);exact s_ret (k_ret TY_ok () rfl (by decide) rfl rfl rfl (fun _ _ _=>trivial) (fun _ _=>trivial))
set_option maxRecDepth 100000 in
theorem rfaults_S (r : RgI) (ks : List (List UInt8)) : Spec 43 [ptr r.g] [] (RingF r ks) (one (.v (.int .i64 ((ks.length / 3 : Nat) : Int)))):=by
 refine spec_S [.c (.v (ptr r.g))] 6 Tryd.func43 rfl (by rw [Tryd.ntmps43]; rfl) (one_ok trivial) fun b=>?_;refine s_pure _ (fun w h _=>h.1) fun hf=>?_;refine s_auto TY_ok rfl ?_;refine s_regA TY_ok rfl fun K hK=>?_;refine l_callA [ptr r.g] rfl rfl rfl own_rsize rfl rfl (fun _ _=>rfl) (rsize_S r ks) (fun w h _=>h) fun _=>?_;refine l_autoS TY_ok rfl ?_;refine l_num 2 ((ks.length / 3 : Nat) : Int) rfl (wrapQ ks.length 3 (by omega)) ?_;refine s_end (hK _ ?_);exact s_ret (k_ret TY_ok () rfl (by decide) rfl rfl rfl (fun _ _ _=>trivial) (fun _ _=>trivial))
set_option maxRecDepth 100000 in
theorem rquorum_S (r : RgI) (ks : List (List UInt8)) : Spec 23 [ptr r.g] [] (RingF r ks) (one (.v (.int .i64 ((ks.length - ks.length / 3 : Nat) : Int)))):=by
 refine spec_S [.c (.v (ptr r.g))] 8 Tryd.func23 rfl (by rw [Tryd.ntmps23]; rfl) (one_ok trivial) fun b=>?_;refine s_pure _ (fun w h _=>h.1) fun hf=>?_;refine s_auto TY_ok rfl ?_;refine s_regA TY_ok rfl fun K hK=>?_;refine l_callA [ptr r.g] rfl rfl rfl own_rsize rfl rfl (fun _ _=>rfl) (rsize_S r ks) (fun w h _=>h) fun _=>?_;refine l_autoS TY_ok rfl ?_;refine l_callA [ptr r.g] rfl rfl rfl own_rfaults rfl rfl (fun _ _=>rfl) (rfaults_S r ks) (fun w h _=>h.2) fun _=>?_;refine l_autoS TY_ok rfl ?_;refine l_num 2 ((ks.length - ks.length / 3 : Nat) : Int) rfl (wrapI (by omega) (by omega) (by omega)) ?_;refine s_end (hK _ ?_);exact s_ret (k_ret TY_ok () rfl (by decide) rfl rfl rfl (fun _ _ _=>trivial) (fun _ _=>trivial))
set_option maxRecDepth 100000 in
theorem rhas_S (r : RgI) (ks : List (List UInt8)) (i : Int) : Spec 20 [ptr r.g,.int .i64 i] [] (RingF r ks) (one (.q (.c (.b (decide (0 ≤ i ∧ i < ks.length)))))):=by
 refine spec_S [.c (.v (ptr r.g)),.c (.v (.int .i64 i))] 13 Tryd.func20 rfl (by rw [Tryd.ntmps20]; rfl) (two_ok trivial trivial) fun b=>?_;refine s_auto TY_ok rfl ?_;refine s_regA TY_ok rfl fun K hK=>?_
 by_cases h0 : 0 ≤ i
 ·refine l_is 7 true rfl (decide_eq_true h0) ?_
  refine l_autoS TY_ok rfl ?_;refine l_callA [ptr r.g] rfl rfl rfl own_rsize rfl rfl (fun _ _=>rfl) (rsize_S r ks) (fun w h _=>h) fun _=>?_;refine l_autoS TY_ok rfl ?_;refine s_end (hK _ ?_);exact s_ret (k_retD TY_ok () rfl (by decide) rfl (by simp [retOf,h0,RV.den,SQ.den,SC.den]) trivial rfl (fun _ _ _=>trivial) (fun _ _=>trivial))
 ·refine l_is 7 false rfl (decide_eq_false h0) ?_
  refine l_autoS TY_ok rfl ?_;refine s_end (hK _ ?_);exact s_ret (k_retD TY_ok () rfl (by decide) rfl (by simp [retOf,h0,RV.den,SQ.den,SC.den]) trivial rfl (fun _ _ _=>trivial) (fun _ _=>trivial))
set_option maxRecDepth 100000 in
theorem rkey_S (r : RgI) (ks : List (List UInt8)) (i : Nat) (hi : i < ks.length) : Spec 10 [ptr r.g,.int .i64 (i : Int)] [] (RingF r ks) (one (.q (eY 32 ks[i]))):=by
 refine spec_S [.c (.v (ptr r.g)),.c (.v (.int .i64 (i : Int)))] 17 Tryd.func10 rfl (by rw [Tryd.ntmps10]; rfl) (two_ok trivial trivial) fun b=>?_;refine s_auto TY_ok rfl ?_;refine s_seq fun K hK=>?_;refine s_regA TY_ok rfl fun K1 hK1=>?_;refine l_callA [ptr r.g,.int .i64 (i : Int)] rfl rfl rfl own_rhas rfl rfl (fun _ _=>rfl) (rhas_S r ks i) (fun w h _=>h) fun _=>?_;refine l_is 7 true rfl (decide_eq_true (by omega)) ?_;refine l_autoS TY_ok rfl ?_;refine s_end (hK1 _ ?_);refine s_no rfl ?_;refine s_skip (hK _ ?_);refine s_regA TY_ok rfl fun K2 hK2=>?_;refine l_ldO TY_ok rfl rfl rfl rfl rfl rfl (obj_fact fun w h _=>h.2.2.1) ?_;refine l_autoS TY_ok rfl ?_;refine l_elem TY_ok rfl rfl rfl i rfl (List.getElem?_eq_getElem hi) rfl rfl (rd_fact fun w h _=>h.2.2.2) ?_;refine l_autoS TY_ok rfl ?_;refine s_end (hK2 _ ?_);exact s_ret (k_ret TY_ok () rfl (by decide) rfl rfl rfl (fun _ _ _=>trivial) (fun _ _=>trivial))
theorem Rd.hv {A : Option Addr} {c : Nat} {ks : List (List UInt8)} {w : World} (h : Rd 32 (eY 32) A c ks w) : HV w A ks:=fun hl=>by
 obtain ⟨b,o,e,hb,hr⟩:=h.2.2.2.2 hl;refine ⟨b,o,e,hb,fun i l hi=>⟨?_,hr i l hi⟩⟩;have:=(h.2.2.2.1 l (List.mem_of_getElem? hi)).2
 rwa [SQ.cl,Array.length_toList,eY,SQ.den,Value.cells,catP,Pt.cells,List.size_toArray,By_len] at this
theorem RgW.off {w : World} {base g0 m g t : Nat} {ks : List (List UInt8)} {cs : Array Value} (h : RgW w base g0 m ks) (hb : Blk w g t cs) : g ≠ m:=fun e=>by
 obtain ⟨es,⟨cl,hm⟩,_⟩:=h.map;rw [← e] at hm
 unfold Blk at hb
 rw [hb] at hm
 cases hm
instance : Pst Ta:=⟨fun _ _ h hb=>h.below hb⟩
theorem starL_one {r : Res} {w : World} {S : Nat → Prop} : starL [r] w S ↔ r.holds w S:=by
 constructor
 ·rintro ⟨S1,S2,h1,h2,h3,_⟩
  have e : S = S1:=funext fun k=>propext ⟨fun h=>((h3 k).1 h).resolve_right (h2 k),fun h=>(h3 k).2 (.inl h)⟩;rw [e];exact h1
 ·exact fun h=>⟨S,fun _=>False,h,fun _ h=>h,fun k=>⟨.inl,fun h=>h.elim id False.elim⟩,fun _ _ h=>h⟩
theorem RingF.w {r : RgI} {ks : List (List UInt8)} {w : World} {S : Nat → Prop} (h : RingF r ks w) (hm : (RingM r.m ks).holds w S) : RgW w 0 r.g r.m ks:=by
 obtain ⟨h1,h2,h3⟩:=h;exact ⟨h1,Nat.zero_le _,Nat.zero_le _,⟨r.b,r.o,r.c,h2.1,Nat.zero_le _,h3.hv,h3.1,h3.2.1⟩,hm.1⟩
theorem ropen_S (r : RgI) (ks : List (List UInt8)) {A : Option Addr} {c : Nat} {b s : List UInt8} (i : Nat) (t : UInt8) (hi : i < ks.length) (hs : s.length = 64) (hb : b.length ≤ 140737488355312) :
  Spec 26 [ptr r.g,.int .i64 (i : Int),.int .u8 (t.toNat : Int),.slice A b.length c,.agg (By s).toArray] [RingM r.m ks] (fun w=>RingF r ks w ∧ Ta w ∧ Rd 1 eB A c b w)
   { ret:=fun _ : Unit=>.q (.c (.b (rightB ks[i] s (msg t b)))),own:=fun _=>[RingM r.m ks] }:=fun w S X hS _ hF=>by
 obtain ⟨h1,h2,h3⟩:=hF.now;have hm:=starL_one.1 hS;refine (ropen_f i t hi hs w h2 h3.sb hb (h1.w hm)).mono ?_
 rintro e w' ⟨he,hR,hg⟩
 refine ⟨(),S,he,trivial,(Chg.of_grown hg).mono fun k _ hk=>(hm.2 k).2 (by injection hk with hk; exact hk.symm),starL_one.2 ⟨hR.map,hm.2⟩,fun _ h _=>h,fun _ _=>trivial,fun _ _=>trivial⟩
theorem rnew_S {A : Option Addr} {ks : List (List UInt8)} {c : Nat} (hf : ks.length = 1 ∨ ks.length = 4 ∨ ks.length = 7) (hd : ks.Nodup) :
  Spec 16 [.slice A ks.length c] [] (Rd 32 (eY 32) A c ks) { ret:=fun r : RgI=>.t [.c (.v (ptr r.g)),.c (.v (.int .i64 0))],own:=fun r=>[RingM r.m ks],n:=fun r=>RingF r ks }:=fun w S X hS _ hF=>by
 have h0:=hF.now;refine (rnew7_yes h0.1 h0.2.1 hf hd w h0.hv).mono ?_
 rintro e w' ⟨⟨g,m,rfl,hR⟩,hb⟩
 obtain ⟨bb,o,cc,h1,h2,h3,h4,h5⟩:=hR.keys;have hgm : g ≠ m:=hR.off h1
 have hbm : bb ≠ m:=fun e=>by
  obtain ⟨b',o',e',_,hr⟩:=h3 hR.pos
  injection e' with e'
  injection e' with e1 e2
  subst e1 e2
  obtain ⟨hl,hr⟩:=hr 0 ks[0]! (by
   have hp:=hR.pos;rw [getElem!_pos ks 0 hp]
   exact List.getElem?_eq_getElem hp)
  obtain ⟨es,⟨cl,hmm⟩,_⟩:=hR.map
  have h9 : 0 < (By ks[0]!).length:=by rw [By_len,hl]; decide
  have h8:=hr 0 (By ks[0]!)[0] (List.getElem?_eq_getElem h9);rw [World.cell?,e,hmm] at h8
  cases h8
 refine ⟨⟨g,m,bb,o,cc⟩,fun k=>k = m,rfl,fun x hx=>?_,Chg.of_up hb,starL_one.2 ⟨hR.map,fun _=>Iff.rfl⟩,fun k hk hlt=>?_,fun _ _=>trivial,fun w2 hw2=>⟨hR.fit,⟨?_,?_⟩,?_⟩⟩
 ·simp only [List.mem_cons,List.not_mem_nil,or_false] at hx
  rcases hx with rfl | rfl <;> trivial
 ·rw [hk] at hlt
  exact absurd (Nat.lt_of_lt_of_le hlt hR.mb) (Nat.lt_irrefl _)
 ·exact (hw2.block g h1.lt fun hk=>hk.elim (fun hk=>Nat.lt_irrefl _ (Nat.lt_of_lt_of_le hk hR.gb)) hgm).trans h1
 ·exact fun p hp=>by
   simp only [List.mem_cons,List.not_mem_nil,or_false] at hp
   rcases hp with rfl | rfl <;> exact ⟨trivial,rfl,rfl⟩
 ·have h6 : Rd 32 (eY 32) (some ⟨bb,o,none⟩) cc ks w':=⟨h4,h5,fun h=>(by cases h),okF_Y fun l hl=>hR.len l hl,fun hl=>by
   obtain ⟨b',o',e',h7,hr⟩:=h3 hl
   exact ⟨b',o',e',h7,fun i x hi=>(hr i x hi).2⟩⟩
  exact h6.keep hw2.size fun b' e hlt=>hw2.block b' hlt fun hk=>by
   simp only [Option.map_some,Option.some.injEq] at e;subst e;exact hk.elim (fun hk=>Nat.lt_irrefl _ (Nat.lt_of_lt_of_le hk h2)) hbm
theorem seal_S {A : Option Addr} {c : Nat} {seed b : List UInt8} (t : UInt8) (hs : seed.length = 32) (hb : b.length ≤ 140737488355312) :
  Spec 8 [.agg (By seed).toArray,.int .u8 (t.toNat : Int),.slice A b.length c] [] (fun w=>Ta w ∧ Rd 1 eB A c b w) (one (.q (eY 64 (sgSig seed (msg t b))))) :=
 Spec.pure (eY_ok (sgSig_len _ _)).1 fun w h=>seal_f t hs w h.1 h.2.sb hb
theorem owned_S {A : Option Addr} {c : Nat} {key sig b : List UInt8} (t : UInt8) (hk : key.length = 32) (hs : sig.length = 64) (hb : b.length ≤ 140737488355312) :
  Spec 9 [.agg (By key).toArray,.int .u8 (t.toNat : Int),.slice A b.length c,.agg (By sig).toArray] [] (fun w=>Ta w ∧ Rd 1 eB A c b w) (one (.q (.c (.b (rightB key sig (msg t b)))))) :=
 Spec.pure trivial fun w h=>owned_f t hk hs w h.1 h.2.sb hb
theorem public_S {seed : List UInt8} (hs : seed.length = 32) : Spec 15 [.agg (By seed).toArray] [] Ta (one (.q (eY 32 (sgKey seed)))) :=
 Spec.pure (eY_ok (sgKey_len _)).1 fun w h=>public_f hs w h
end Go.Proofs.YtlcbhbahchiofaaDoor
/-
  CERTIFICATES: the first right share of a replica.
-/
namespace Go.Proofs.YtlcbhbahchiofaaDoor
open Go.RowKit Go.IntWalk Nums

abbrev Share:=Int × List UInt8
def eSh (x : Share) : SQ:=.p [.one (.v (.int .i64 x.1)),.agg 64 (By x.2).toArray]
theorem eSh_ok {x : Share} (h : x.2.length = 64) : OkP (eSh x).parts1 ∧ (eSh x).cl.length = 65:=by
 have h1 : (By x.2).toArray.size = 64:=by rw [List.size_toArray,By_len,h]
 refine ⟨fun p hp=>?_,?_⟩
 ·rcases List.mem_cons.1 hp with rfl | hp
  ·exact ⟨trivial,rfl,rfl⟩
  ·rw [List.mem_singleton.1 hp]
   exact ⟨h1,By_one x.2⟩
 ·rw [SQ.cl,Array.length_toList]
  show (catP [Pt.one (.v (.int .i64 x.1)),.agg 64 (By x.2).toArray]).size = 65
  rw [catP_cons,Array.size_append]
  simp [Pt.cells,catP,By_len,h]
theorem eSh_len {x : Share} (h : OkP (eSh x).parts1) : x.2.length = 64:=by
 have h1:=(h (.agg 64 (By x.2).toArray) (by simp [eSh,SQ.parts1])).1
 rwa [List.size_toArray,By_len] at h1
noncomputable def isR (key m : List UInt8) (i : Int) (x : Share) : Bool:=decide (x.1 = i) && rightB key x.2 m
noncomputable def firstR (key m : List UInt8) (i : Int) (l : List Share) : Option (List UInt8):=(l.find? (isR key m i)).map (·.2)
def retR : Option (List UInt8) → RV
  | some s=>.t [eY 64 s,.c (.v (.bool true))]
  | none=>.t [eY 64 (List.replicate 64 0),.c (.v (.bool false))]
theorem own_cfirst : Own 24:=fun _ _=>by go_simp
theorem find_take {α : Type} (p : α → Bool) (l : List α) (i : Nat) {x : α} (h : ∀ y ∈ l.take i,p y = false) (hx : l[i]? = some x) (hp : p x = true) : l.find? p = some x:=by
 have e : l = l.take i ++ x :: l.drop (i + 1):=by
  have hlt:=(List.getElem?_eq_some_iff.1 hx).1;have:=List.take_append_drop i l;rw [List.drop_eq_getElem_cons hlt,(List.getElem?_eq_some_iff.1 hx).2] at this;exact this.symm
 rw [e,List.find?_append,List.find?_eq_none.2 (fun y hy=>by rw [h y hy]; decide),Option.none_or,List.find?_cons_of_pos hp]
theorem take_next {α : Type} {p : α → Prop} {l : List α} {i : Nat} {x : α} (h : ∀ y ∈ l.take i,p y) (hx : l[i]? = some x) (hp : p x) : ∀ y ∈ l.take (i + 1),p y:=fun y hy=>by
 rw [List.take_add_one,hx] at hy
 rcases List.mem_append.1 hy with hy | hy
 ·exact h y hy
 ·simp at hy
  rw [hy];exact hp
set_option maxRecDepth 100000 in
set_option maxHeartbeats 2000000 in
theorem cfirst_S (r : RgI) (ks : List (List UInt8)) {A A2 : Option Addr} {c c2 : Nat} {bd : List UInt8} (l : List Share) (i : Nat) (t : UInt8) (hi : i < ks.length) (hb : bd.length ≤ 140737488355312) :
  Spec 24 [ptr r.g,.int .i64 (i : Int),.int .u8 (t.toNat : Int),.slice A bd.length c,.slice A2 l.length c2] [RingM r.m ks] (fun w=>(RingF r ks w ∧ Ta w ∧ Rd 1 eB A c bd w) ∧ Rd 65 eSh A2 c2 l w)
   { ret:=fun _ : Unit=>retR (firstR ks[i] (msg t bd) i l),own:=fun _=>[RingM r.m ks] }:=by
 refine spec_S [.c (.v (ptr r.g)),.c (.v (.int .i64 (i : Int))),.c (.v (.int .u8 (t.toNat : Int))),.c (.v (.slice A bd.length c)),.c (.v (.slice A2 l.length c2))] 37 Tryd.func24 rfl (by rw [Tryd.ntmps24]; rfl) (more_ok trivial (more_ok trivial (more_ok trivial (two_ok trivial trivial)))) fun b=>?_;refine s_pure (l.length ≤ 9223372036854775807 ∧ ∀ x ∈ l,x.2.length = 64) (fun w h _=>⟨Nat.le_trans h.2.1 h.2.2.1,fun x hx=>eSh_len (h.2.2.2.2.1 x hx).1⟩) fun ⟨hl,hs⟩=>?_;refine s_auto TY_ok rfl ?_;refine s_seq fun K hK=>?_;refine s_auto TY_ok rfl ?_;refine s_block ?_
 let F : Nat → Env:=fun j=>⟨[(16,.v (.int .i64 (j : Int))),(15,.v (.int .i64 (l.length : Int))),(14,.v (.slice A2 l.length c2)),(0,.v (ptr r.g)),(1,.v (.int .i64 (i : Int))),(2,.v (.int .u8 (t.toNat : Int))),(3,.v (.slice A bd.length c)),(10,.a 10 0)],
  [⟨10,none,35,[.agg 64 (By (List.replicate 64 0)).toArray]⟩],[RingM r.m ks],fun w=>(RingF r ks w ∧ Ta w ∧ Rd 1 eB A c bd w) ∧ Rd 65 eSh A2 c2 l w,fun _=>True⟩
 refine c_weak (e':=F 0) ⟨⟨rfl,rfl,rfl,rfl,rfl,rfl,rfl,rfl,trivial⟩,⟨rfl,rfl,trivial⟩,.refl _,fun _ h _=>h,fun _ h=>h⟩ (s_loop (fun j=>l.length - j) F (fun j=>j ≤ l.length ∧ ∀ y ∈ l.take j,isR ks[i] (msg t bd) i y = false) ?_ 0 ⟨Nat.zero_le _,by simp⟩)
 rintro j ⟨hj,hno⟩
 refine s_auto TY_ok rfl ?_;refine s_seq fun K1 hK1=>?_;refine s_ifD ((j : Int) < (l.length : Int)) rfl (fun hlt=>?_) (fun hge=>?_)
 ·have hlt : j < l.length:=by omega
  obtain ⟨x,hx⟩ : ∃ x,l[j]? = some x:=⟨_,List.getElem?_eq_getElem hlt⟩;have hx64:=hs x (List.mem_of_getElem? hx);refine s_skip (hK1 _ ?_);refine s_seq fun K2 hK2=>?_;refine s_block ?_;refine s_regA TY_ok rfl fun K3 hK3=>?_;refine l_elem TY_ok rfl rfl rfl j rfl hx rfl rfl (rd_fact fun w h _=>h.2) ?_;refine l_autoS TY_ok rfl ?_;refine s_end (hK3 _ ?_);refine s_regA TY_ok rfl fun K5 hK5=>?_
  have hnext : isR ks[i] (msg t bd) i x = false → ∀ e : Env,Weak e ⟨[(16,.v (.int .i64 (j : Int))),(15,.v (.int .i64 (l.length : Int))),(14,.v (.slice A2 l.length c2)),(0,.v (ptr r.g)),(1,.v (.int .i64 (i : Int))),(2,.v (.int .u8 (t.toNat : Int))),(3,.v (.slice A bd.length c)),(10,.a 10 0)],(F j).L,[RingM r.m ks],(F j).F,fun _=>True⟩ → kS b K2 37 e:=fun hf e hw=>by
   refine k_weak hw (hK2 _ ?_);refine s_autoE TY_ok rfl ?_;exact k_next (j + 1) ⟨hlt,take_next hno hx hf⟩ (by omega) ⟨⟨congrArg some (congrArg SV.v (congrArg (Value.int .i64) (wrapI rfl (by omega) (by omega)))),rfl,rfl,rfl,rfl,rfl,rfl,rfl,trivial⟩,⟨rfl,rfl,trivial⟩,.refl _,fun _ h _=>h,fun _ h=>h⟩
  by_cases h1 : x.1 = (i : Int)
  ·refine l_is 24 true rfl (decide_eq_true h1) ?_
   refine l_autoS TY_ok rfl ?_;refine l_callA [ptr r.g,.int .i64 (i : Int),.int .u8 (t.toNat : Int),.slice A bd.length c,.agg (By x.2).toArray] rfl rfl rfl own_ropen rfl rfl (fun _ _=>rfl) (ropen_S r ks i t hi hx64 hb) (fun w h _=>h.1) fun _=>?_;refine l_autoS TY_ok rfl ?_;refine s_end (hK5 _ ?_);refine s_if (rightB ks[i] x.2 (msg t bd)) rfl (fun h2=>?_) (fun h2=>?_)
   ·have hf : l.find? (isR ks[i] (msg t bd) i) = some x:=find_take _ l j hno hx (by rw [isR,decide_eq_true h1,h2]; rfl)
    have hfr : firstR ks[i] (msg t bd) i l = some x.2:=by rw [firstR,hf]; rfl
    refine s_auto TY_ok rfl ?_;exact s_ret (k_ret TY_ok () rfl (by decide) rfl (congrArg retR hfr) rfl (fun _ _ _=>trivial) (fun _ _=>trivial))
   ·exact s_skip (hnext (by rw [isR,h2,Bool.and_false]) _ ⟨⟨rfl,rfl,rfl,rfl,rfl,rfl,rfl,rfl,trivial⟩,⟨rfl,rfl,trivial⟩,.refl _,fun _ h _=>h.2,fun _ h=>h.2⟩)
  ·refine l_is 24 false rfl (decide_eq_false h1) ?_
   refine l_autoS TY_ok rfl ?_;refine s_end (hK5 _ ?_);refine s_no rfl ?_;exact s_skip (hnext (by rw [isR,decide_eq_false h1,Bool.false_and]) _ ⟨⟨rfl,rfl,rfl,rfl,rfl,rfl,rfl,rfl,trivial⟩,⟨rfl,rfl,trivial⟩,.refl _,fun _ h _=>h,fun _ h=>h⟩)
 ·obtain rfl : j = l.length:=by omega
  rw [List.take_length] at hno
  have hfr : firstR ks[i] (msg t bd) i l = none:=by
   rw [firstR,List.find?_eq_none.2 fun y hy=>by rw [hno y hy]; decide]
   rfl
  refine s_exit (k_pass (k_pass (k_out ?_)));refine hK _ ?_;refine s_auto TY_ok rfl ?_;exact s_ret (k_ret TY_ok () rfl (by decide) rfl (congrArg retR hfr) rfl (fun _ _ _=>trivial) (fun _ _=>trivial))
end Go.Proofs.YtlcbhbahchiofaaDoor
/-
  WRITING BYTES, over states: contracts of Join.
-/
namespace Go.Proofs.YtlcbhbahchiofaaDoor
open Go.RowKit Go.IntWalk

theorem own_join : Own 21:=fun _ _=>by go_simp
theorem join_S {A : Option Addr} {c : Nat} (ss : List Seg) (ht : (ss.map Seg.l).flatten.length ≤ 281474976710656) : Spec 21 [.slice A ss.length c] [] (fun w=>Rd 1 eSeg A c ss w ∧ ∀ s ∈ ss,s.rd w)
  { ret:=fun g : Nat=>.v (.slice (some ⟨g,0,none⟩) (ss.map Seg.l).flatten.length (ss.map Seg.l).flatten.length),n:=fun g=>Rd 1 eB (some ⟨g,0,none⟩) (ss.map Seg.l).flatten.length (ss.map Seg.l).flatten }:=fun w S X hS _ hF=>by
 obtain ⟨h1,h2⟩:=hF.now;have hj:=join_any A (ss.map Seg.l) c w.heap.size w (parts_of h1 h2) (Nat.le_refl _) (by rw [List.length_map]; exact h1.1) h1.2.1 ht;rw [List.length_map] at hj;refine hj.mono ?_
 rintro e w' ⟨he,ho,hb⟩
 refine ⟨w.heap.size,S,he,trivial,Chg.of_up hb,hS.keep fun k hk=>hb.block k (hS.lt k hk),fun _ h _=>h,fun _ _=>trivial,?_⟩;have h3 : (OwnS w.heap.size 5 1 eB (some ⟨w.heap.size,0,none⟩) (ss.map Seg.l).flatten.length (ss.map Seg.l).flatten).holds w' fun j=>(some (⟨w.heap.size,0,none⟩ : Addr)).map (·.block) = some j:=⟨okF_B _,by rw [flat_B]; exact ho,fun _=>Iff.rfl⟩;have h4:=OwnS.rd h3
 intro w2 hw2
 refine h4.keep hw2.size fun b' e hlt=>hw2.block b' hlt ?_;simp only [Option.map_some,Option.some.injEq] at e;subst e
 rintro (h5 | h5)
 ·exact Nat.lt_irrefl _ h5
 ·exact Nat.lt_irrefl _ (hS.lt _ h5)
end Go.Proofs.YtlcbhbahchiofaaDoor
/-
  CERTIFICATES: Make.
-/
namespace Go.Proofs.YtlcbhbahchiofaaDoor
open Go.RowKit Go.IntWalk Nums

structure CV where
  body : List UInt8
  sg : List Int
  si : List (List UInt8)
structure CI where
  A0 : Option Addr
  c0 : Nat
  A1 : Option Addr
  c1 : Nat
  A2 : Option Addr
  c2 : Nat
def eC (i : CI) (c : CV) : SQ:=.p [.one (.v (.slice i.A0 c.body.length i.c0)),.one (.v (.slice i.A1 c.sg.length i.c1)),.one (.v (.slice i.A2 c.si.length i.c2))]
theorem eC_ok (i : CI) (c : CV) : (eC i c).Ok:=fun p hp=>by
 simp only [List.mem_cons,List.not_mem_nil,or_false] at hp
 rcases hp with rfl | rfl | rfl <;> exact ⟨trivial,rfl,rfl⟩
def CertF (i : CI) (c : CV) (w : World) : Prop:=Rd 1 eB i.A0 i.c0 c.body w ∧ Rd 1 eI i.A1 i.c1 c.sg w ∧ Rd 64 (eY 64) i.A2 i.c2 c.si w
instance {i : CI} {c : CV} : Pst (CertF i c):=⟨fun _ _ h hb=>⟨h.1.later hb,h.2.1.later hb,h.2.2.later hb⟩⟩
def ci0 : CI:=⟨none,0,none,0,none,0⟩
def cv0 : CV:=⟨[],[],[]⟩
theorem certF0 (w : World) : CertF ci0 cv0 w:=⟨Rd.nil _ _ _,Rd.nil _ _ _,Rd.nil _ _ _⟩
noncomputable def gotL (ks : List (List UInt8)) (m : List UInt8) (l : List Share) (i : Nat) : List (Nat × List UInt8):=(List.range i).filterMap fun j : Nat=>(firstR (ks[j]!) m j l).map fun s=>(j,s)
theorem gotL_next (ks : List (List UInt8)) (m : List UInt8) (l : List Share) (i : Nat) : gotL ks m l (i + 1) = gotL ks m l i ++ ((firstR (ks[i]!) m i l).map fun s=>(i,s)).toList:=by
 unfold gotL
 rw [List.range_succ,List.filterMap_append];rw [List.filterMap_cons]
 cases firstR (ks[i]!) m i l <;> simp only [Option.map_none,Option.map_some,List.filterMap_nil,Option.toList]
theorem gotL_pre (ks : List (List UInt8)) (m : List UInt8) (l : List Share) (i d : Nat) : gotL ks m l i <+: gotL ks m l (i + d):=by
 induction d with
 | zero=>exact List.prefix_rfl
 | succ d ih =>
  rw [← Nat.add_assoc,gotL_next];exact ih.trans (List.prefix_append _ _)
theorem gotL_take (ks : List (List UInt8)) (m : List UInt8) (l : List Share) {i n : Nat} (h : i ≤ n) : (gotL ks m l n).take (gotL ks m l i).length = gotL ks m l i:=by
 obtain ⟨t,ht⟩:=gotL_pre ks m l i (n - i);rw [show i + (n - i) = n by omega] at ht;rw [← ht,List.take_left]
theorem gotL_le (ks : List (List UInt8)) (m : List UInt8) (l : List Share) (i : Nat) : (gotL ks m l i).length ≤ i:=by
 induction i with
 | zero=>exact Nat.le_of_eq rfl
 | succ i ih =>
  rw [gotL_next,List.length_append]
  have : (((firstR (ks[i]!) m i l).map fun s=>(i,s)).toList).length ≤ 1:=by cases firstR (ks[i]!) m i l <;> simp
  omega
noncomputable def sgL (ks : List (List UInt8)) (m : List UInt8) (l : List Share) (i : Nat) : List Int:=(gotL ks m l i).map fun x=>(x.1 : Int)
noncomputable def siL (ks : List (List UInt8)) (m : List UInt8) (l : List Share) (i : Nat) : List (List UInt8):=(gotL ks m l i).map (·.2)
theorem firstR_len {key m : List UInt8} {i : Int} {l : List Share} {s : List UInt8} (hs : ∀ x ∈ l,x.2.length = 64) (h : firstR key m i l = some s) : s.length = 64:=by
 unfold firstR at h
 cases hf : l.find? (isR key m i) with
 | none=>rw [hf] at h; cases h
 | some x =>
  rw [hf] at h;simp only [Option.map_some,Option.some.injEq] at h;rw [← h];exact hs x (List.mem_of_find?_eq_some hf)
noncomputable def makeC (ks : List (List UInt8)) (m bd : List UInt8) (l : List Share) : Option CV :=
  if (gotL ks m l ks.length).length < ks.length - ks.length / 3 then none
  else some ⟨bd,((gotL ks m l ks.length).take (ks.length - ks.length / 3)).map fun x=>(x.1 : Int),((gotL ks m l ks.length).take (ks.length - ks.length / 3)).map (·.2)⟩
def retC (i : CI) : Option CV → RV
  | some c=>.t [eC i c,.c (.v (.int .i64 0))]
  | none=>.t [eC ci0 cv0,.c (.v (.int .i64 80))]
theorem own_make : Own 11:=fun _ _=>by go_simp
set_option maxRecDepth 100000 in
set_option maxHeartbeats 4000000 in
theorem make_S (r : RgI) (ks : List (List UInt8)) {A A2 : Option Addr} {c c2 : Nat} {bd : List UInt8} (l : List Share) (t : UInt8) (hb : bd.length ≤ 140737488355312) :
  Spec 11 [ptr r.g,.int .u8 (t.toNat : Int),.slice A bd.length c,.slice A2 l.length c2] [RingM r.m ks] (fun w=>(RingF r ks w ∧ Ta w ∧ Rd 1 eB A c bd w) ∧ Rd 65 eSh A2 c2 l w)
   { ret:=fun i : CI=>retC i (makeC ks (msg t bd) bd l),own:=fun _=>[RingM r.m ks],n:=fun i w=>∀ cv,makeC ks (msg t bd) bd l = some cv → CertF i cv w }:=by
 refine spec_S [.c (.v (ptr r.g)),.c (.v (.int .u8 (t.toNat : Int))),.c (.v (.slice A bd.length c)),.c (.v (.slice A2 l.length c2))] 65 Tryd.func11 rfl (by rw [Tryd.ntmps11]; rfl) (more_ok trivial (more_ok trivial (two_ok trivial trivial))) fun b=>?_;refine s_pure (ks.length ≤ 7 ∧ ∀ x ∈ l,x.2.length = 64) (fun w h _=>⟨by have:=h.1.1.1; omega,fun x hx=>eSh_len (h.2.2.2.2.1 x hx).1⟩) fun ⟨hl,hs⟩=>?_;refine s_auto TY_ok rfl ?_;refine s_seq fun K hK=>?_;refine s_auto TY_ok rfl ?_;refine s_no rfl ?_;refine s_skip (hK _ ?_);refine s_regA TY_ok rfl fun K1 hK1=>?_;refine l_list TY_ok b.B.heap.size [⟨A,c,bd⟩] (fe:=eSeg) rfl rfl rfl rfl rfl (fun _=>rfl) rfl (by decide) (by decide) (okF_seg _) (Nat.le_refl _) fun P=>?_;refine l_free 0 rfl ?_;refine l_callA [.slice P 1 1] rfl rfl rfl own_join rfl rfl (fun _ _=>rfl) (join_S (A:=P) (c:=1) [⟨A,c,bd⟩] (by simp; omega)) (fun w h _=>⟨h.1,fun s hs=>by rw [List.mem_singleton.1 hs]; exact h.2.1.2.2⟩) fun gb=>?_
 have e0 : (List.map Seg.l [⟨A,c,bd⟩]).flatten = bd:=by simp
 rw [e0];refine l_autoS TY_ok rfl ?_
 let mB:=msg t bd
 have hmB : msg t bd = mB:=rfl
 let F : Nat × Option Addr × Nat × Option Addr × Nat → Env:=fun ⟨j,B1,d1,B2,d2⟩=>⟨[(11,.v (.int .i64 (j : Int))),(0,.v (ptr r.g)),(1,.v (.int .u8 (t.toNat : Int))),(2,.v (.slice A bd.length c)),(3,.v (.slice A2 l.length c2)),(8,.a 8 0),(10,.a 10 0)],
  [⟨10,none,45,[.one (.v (.slice (some ⟨gb,0,none⟩) bd.length bd.length)),.one (.v (.slice B1 (sgL ks mB l j).length d1)),.one (.v (.slice B2 (siL ks mB l j).length d2))]⟩,⟨8,none,45,[.one (.v (.slice none 0 0)),.one (.v (.slice none 0 0)),.one (.v (.slice none 0 0))]⟩],
  [RingM r.m ks,OwnS b.B.heap.size 3 1 eI B1 d1 (sgL ks mB l j),OwnS b.B.heap.size 35 64 (eY 64) B2 d2 (siL ks mB l j)],
  fun w=>(RingF r ks w ∧ Ta w ∧ Rd 1 eB A c bd w) ∧ Rd 65 eSh A2 c2 l w,Rd 1 eB (some ⟨gb,0,none⟩) bd.length bd⟩
 refine s_end (hK1 _ ?_);refine s_nil0 b.B.heap.size 35 64 (eY 64) ?_;refine s_nil0 b.B.heap.size 3 1 eI ?_;refine s_seq fun K2 hK2=>?_
 have hend : ∀ x : Nat × Option Addr × Nat × Option Addr × Nat,x.1 ≤ ks.length → (gotL ks mB l x.1).length ≤ ks.length - ks.length / 3 → (x.1 = ks.length ∨ ¬ (gotL ks mB l x.1).length < ks.length - ks.length / 3) → ∀ e,Weak e (F x) → kS b K2 65 e:=by
  rintro ⟨j,B1,d1,B2,d2⟩ hj hq hor e hw
  dsimp only at hj hq hor
  have hql : (sgL ks mB l j).length = (gotL ks mB l j).length:=List.length_map _;refine k_weak hw (hK2 _ ?_);refine s_seq fun K9 hK9=>?_;refine s_regD 6 (by decide) (by kernel_rfl) (by kernel_rfl) fun K10 hK10 G S w0 hst=>?_;refine g_autoS TY_ok hst rfl ?_;refine g_callS hst [ptr r.g] rfl rfl rfl own_rquorum rfl rfl (fun _=>rfl) (rquorum_S r ks) trivial (fun _ _ w h=>h.fact.1.1) ?_;refine g_autoS TY_ok hst rfl ?_;refine g_endS hst ?_;refine s_end (hK10 _ ?_);refine s_ifD (((sgL ks mB l j).length : Int) < ((ks.length - ks.length / 3 : Nat) : Int)) rfl (fun h2=>?_) (fun h2=>?_)
  ·have hjn : j = ks.length:=by
    rcases hor with h | h
    ·exact h
    ·exact absurd (show (gotL ks mB l j).length < ks.length - ks.length / 3 by omega) h
   have hmk : makeC ks mB bd l = none:=by
    unfold makeC
    rw [if_pos (by rw [← hjn]; omega)]
   refine s_auto TY_ok rfl ?_
   exact s_ret (k_freeM 2 rfl (Nat.le_refl _) (k_freeM 1 rfl (Nat.le_refl _) (k_ret TY_ok ci0 rfl (by decide) rfl (congrArg (retC ci0) hmk) rfl (fun _ _ _=>trivial) (fun w _ cv h=>by
    rw [show makeC ks (msg t bd) bd l = none from hmk] at h
    cases h))))
  ·have hle : (gotL ks mB l j).length = ks.length - ks.length / 3:=by omega
   have hmk : makeC ks mB bd l = some ⟨bd,sgL ks mB l j,siL ks mB l j⟩:=by
    have h3:=gotL_take ks mB l hj;rw [hle] at h3
    unfold makeC
    rw [if_neg (by rw [← hle]; have:=(gotL_pre ks mB l j (ks.length - j)).length_le; rw [show j + (ks.length - j) = ks.length by omega] at this; omega),h3]
    rfl
   refine s_skip (hK9 _ ?_);refine s_auto TY_ok rfl ?_
   exact s_ret (k_freeM 2 rfl (Nat.le_refl _) (k_freeM 1 rfl (Nat.le_refl _) (k_ret TY_ok ⟨some ⟨gb,0,none⟩,bd.length,B1,d1,B2,d2⟩ rfl (by decide) rfl (congrArg (retC _) hmk) rfl (fun _ _ _=>trivial) (fun w hM cv h=>by
    rw [show makeC ks (msg t bd) bd l = some ⟨bd,sgL ks mB l j,siL ks mB l j⟩ from hmk] at h
    injection h with h
    rw [← h]
    exact ⟨hM.2.2,hM.1,hM.2.1⟩))))
 refine s_auto TY_ok rfl ?_;refine s_block ?_;refine c_weak (e':=F (0,none,0,none,0)) ⟨⟨rfl,rfl,rfl,rfl,rfl,rfl,rfl,trivial⟩,⟨rfl,rfl,rfl,rfl,trivial⟩,.trans (.cons _ (.swap _ _ _)) (.swap _ _ _),fun _ h _=>h.2.2,fun _ h=>h.1⟩ (s_loop (fun j=>ks.length - j.1) F (fun j=>j.1 ≤ ks.length ∧ (gotL ks mB l j.1).length ≤ ks.length - ks.length / 3) ?_ (0,none,0,none,0) ⟨Nat.zero_le _,Nat.zero_le _⟩)
 rintro ⟨j,B1,d1,B2,d2⟩ ⟨hj,hq⟩
 have hql : (sgL ks mB l j).length = (gotL ks mB l j).length:=List.length_map _;have hqs : (siL ks mB l j).length = (gotL ks mB l j).length:=List.length_map _;have hgl:=gotL_le ks mB l j;refine s_seq fun K3 hK3=>?_;refine s_regD 12 (by decide) (by kernel_rfl) (by kernel_rfl) fun K4 hK4 G S w0 hst=>?_;refine g_autoS TY_ok hst rfl ?_;refine g_callS hst [ptr r.g] rfl rfl rfl own_rsize rfl rfl (fun _=>rfl) (rsize_S r ks) trivial (fun _ _ w h=>h.fact.1.1) ?_;refine g_autoS TY_ok hst rfl ?_
 by_cases h1 : (j : Int) < (ks.length : Int)
 ·refine g_is 25 true rfl (decide_eq_true h1) ?_
  refine g_autoS TY_ok hst rfl ?_;refine g_callS hst [ptr r.g] rfl rfl rfl own_rquorum rfl rfl (fun _=>rfl) (rquorum_S r ks) trivial (fun _ _ w h=>h.fact.1.1) ?_;refine g_autoS TY_ok hst rfl ?_;refine g_endS hst ?_;refine s_end (hK4 _ ?_);refine s_ifD (((sgL ks mB l j).length : Int) < ((ks.length - ks.length / 3 : Nat) : Int)) rfl (fun h2=>?_) (fun h2=>?_)
  ·refine s_skip (hK3 _ ?_)
   refine s_seq fun K5 hK5=>?_;refine s_block ?_
   have hj' : j < ks.length:=by omega
   cases hfr : firstR ks[j] mB j l with
   | none =>
    have hc:=cfirst_S r ks l j t hj' hb (A:=A) (A2:=A2) (c:=c) (c2:=c2);rw [hmB,hfr] at hc;refine s_regA TY_ok rfl fun K7 hK7=>?_;refine l_callA [ptr r.g,.int .i64 (j : Int),.int .u8 (t.toNat : Int),.slice A bd.length c,.slice A2 l.length c2] rfl rfl rfl own_cfirst rfl rfl (fun _ _=>rfl) hc (fun w h _=>h) fun _=>?_;refine l_autoS TY_ok rfl ?_;refine s_end (hK7 _ ?_);refine s_auto TY_ok rfl ?_;refine s_no rfl ?_;refine s_skip (hK5 _ ?_);refine s_autoE TY_ok rfl ?_
    have hg : gotL ks mB l (j + 1) = gotL ks mB l j:=by rw [gotL_next,getElem!_pos ks j hj',hfr]; exact List.append_nil _
    have hg1 : sgL ks mB l (j + 1) = sgL ks mB l j:=congrArg (List.map _) hg;have hg2 : siL ks mB l (j + 1) = siL ks mB l j:=congrArg (List.map _) hg;rw [← hg1,← hg2];refine k_next (j + 1,B1,d1,B2,d2) ⟨hj',by rw [hg]; exact hq⟩ (by omega) ⟨⟨congrArg some (congrArg SV.v (congrArg (Value.int .i64) (wrapI rfl (by omega) (by omega)))),rfl,rfl,rfl,rfl,rfl,rfl,trivial⟩,⟨rfl,rfl,rfl,rfl,trivial⟩,.refl _,fun _ h _=>h.2,fun _ h=>h.2⟩
   | some s =>
    have hc:=cfirst_S r ks l j t hj' hb (A:=A) (A2:=A2) (c:=c) (c2:=c2);have hsl:=firstR_len hs hfr;rw [hmB,hfr] at hc;refine s_regA TY_ok rfl fun K7 hK7=>?_;refine l_callA [ptr r.g,.int .i64 (j : Int),.int .u8 (t.toNat : Int),.slice A bd.length c,.slice A2 l.length c2] rfl rfl rfl own_cfirst rfl rfl (fun _ _=>rfl) hc (fun w h _=>h) fun _=>?_;refine l_autoS TY_ok rfl ?_;refine s_end (hK7 _ ?_);refine s_auto TY_ok rfl ?_;refine s_yes rfl ?_;refine s_regA TY_ok rfl fun K8 hK8=>?_;refine l_push TY_ok 1 (j : Int) rfl rfl rfl rfl rfl rfl rfl (eI_ok _) (by decide) (by decide) (by rw [hql]; show (_ + 1) * 8 ≤ _; omega) (by rw [hql]; omega) (Nat.le_refl _) fun B1' d1'=>?_;refine l_autoS TY_ok rfl ?_;refine s_end (hK8 _ ?_);refine s_lit ?_;refine l_autoS TY_ok rfl ?_;refine l_push TY_ok 2 s rfl rfl rfl rfl rfl rfl rfl (eY_ok hsl) (by decide) (by decide) (by rw [hqs]; show (_ + 1) * 64 ≤ _; omega) (by rw [hqs]; omega) (Nat.le_refl _) fun B2' d2'=>?_;refine l_autoS TY_ok rfl ?_;refine s_end ?_;refine hK5 _ ?_;refine s_autoE TY_ok rfl ?_
    have hg : gotL ks mB l (j + 1) = gotL ks mB l j ++ [(j,s)]:=by rw [gotL_next,getElem!_pos ks j hj',hfr]; rfl
    have hg1 : sgL ks mB l (j + 1) = sgL ks mB l j ++ [(j : Int)]:=by unfold sgL; rw [hg,List.map_append]; rfl
    have hg2 : siL ks mB l (j + 1) = siL ks mB l j ++ [s]:=by unfold siL; rw [hg,List.map_append]; rfl
    rw [← hg1,← hg2];refine k_next (j + 1,B1',d1',B2',d2') ⟨hj',by rw [hg,List.length_append]; simp only [List.length_singleton]; omega⟩ (by omega) ⟨⟨congrArg some (congrArg SV.v (congrArg (Value.int .i64) (wrapI rfl (by omega) (by omega)))),rfl,rfl,rfl,rfl,rfl,rfl,trivial⟩,⟨rfl,rfl,rfl,rfl,trivial⟩,.refl _,fun _ h _=>h.2,fun _ h=>h.2⟩
  ·refine s_exit (k_pass (k_pass (k_out ?_)))
   exact hend (j,B1,d1,B2,d2) hj hq (.inr (by show ¬ (gotL ks mB l j).length < _; omega)) _ ⟨⟨rfl,rfl,rfl,rfl,rfl,rfl,rfl,trivial⟩,⟨rfl,rfl,rfl,rfl,trivial⟩,.refl _,fun _ h _=>h,fun _ h=>h⟩
 ·refine g_is 25 false rfl (decide_eq_false h1) ?_
  refine g_autoS TY_ok hst rfl ?_;refine g_endS hst ?_;refine s_end (hK4 _ ?_);refine s_no rfl ?_;refine s_exit (k_pass (k_pass (k_out ?_)));exact hend (j,B1,d1,B2,d2) hj hq (.inl (by show j = _; omega)) _ ⟨⟨rfl,rfl,rfl,rfl,rfl,rfl,rfl,trivial⟩,⟨rfl,rfl,rfl,rfl,trivial⟩,.refl _,fun _ h _=>h,fun _ h=>h⟩
end Go.Proofs.YtlcbhbahchiofaaDoor
/-
  CERTIFICATES: rising.
-/
namespace Go.Proofs.YtlcbhbahchiofaaDoor
open Go.RowKit Go.IntWalk

def risingB (n : Int) : Int → List Int → Bool
  | _,[]=>true
  | last,s :: l=>decide (last < s) && decide (s < n) && risingB n s l
theorem own_rising : Own 25:=fun _ _=>by go_simp
def lastI (l : List Int) (i : Nat) : Int:=if i = 0 then -1 else l[i - 1]!
theorem rising_at (n : Int) : ∀ (l : List Int) (last : Int) (i : Nat),risingB n last (l.take i) = true → i < l.length →
  risingB n last (l.take (i + 1)) = (decide ((if i = 0 then last else l[i - 1]!) < l[i]!) && decide (l[i]! < n))
 | [],_,_,_,h=>absurd h (by simp)
 | s :: l,last,0,_,_=>by simp [risingB]
 | s :: l,last,i + 1,h,hi=>by
  simp only [List.take_succ_cons,risingB,Bool.and_eq_true,decide_eq_true_eq] at h ⊢;obtain ⟨⟨h1,h2⟩,h3⟩:=h;rw [rising_at n l s i h3 (by simpa using hi)]
  cases i with
  | zero=>simp [h1,h2]
  | succ i=>simp [h1,h2]
theorem rising_more (n : Int) : ∀ (l : List Int) (last : Int) (i : Nat),risingB n last (l.take i) = false → risingB n last l = false
 | [],_,_,h=>by simp [risingB] at h
 | s :: l,last,0,h=>by simp [risingB] at h
 | s :: l,last,i + 1,h=>by
  simp only [List.take_succ_cons,risingB,Bool.and_eq_false_iff] at h ⊢
  rcases h with h | h
  ·exact .inl h
  ·exact .inr (rising_more n l s i h)
set_option maxRecDepth 100000 in
set_option maxHeartbeats 1000000 in
theorem rising_S {A : Option Addr} {c : Nat} (l : List Int) (n : Int) : Spec 25 [.slice A l.length c,.int .i64 n] [] (Rd 1 eI A c l) (one (.q (.c (.b (risingB n (-1) l))))):=by
 refine spec_S [.c (.v (.slice A l.length c)),.c (.v (.int .i64 n))] 24 Tryd.func25 rfl (by rw [Tryd.ntmps25]; rfl) (two_ok trivial trivial) fun b=>?_;refine s_pure (l.length ≤ 9223372036854775807) (fun w h _=>Nat.le_trans h.1 h.2.1) fun hl=>?_;refine s_auto TY_ok rfl ?_;refine s_auto TY_ok rfl ?_;refine s_seq fun K hK=>?_;refine s_auto TY_ok rfl ?_;refine s_block ?_
 let F : Nat → Env:=fun i=>⟨[(10,.v (.int .i64 (i : Int))),(9,.v (.int .i64 (l.length : Int))),(8,.v (.slice A l.length c)),(1,.v (.int .i64 n)),(5,.v (.int .i64 (lastI l i)))],[],[],Rd 1 eI A c l,fun _=>True⟩
 refine c_weak (e':=F 0) ⟨⟨rfl,rfl,rfl,rfl,rfl,trivial⟩,trivial,.refl _,fun _ h _=>h,fun _ h=>h⟩ (s_loop (fun i=>l.length - i) F (fun i=>i ≤ l.length ∧ risingB n (-1) (l.take i) = true) ?_ 0 ⟨Nat.zero_le _,by simp [risingB]⟩)
 rintro i ⟨hi,hr⟩
 refine s_auto TY_ok rfl ?_;refine s_seq fun K1 hK1=>?_;refine s_ifD ((i : Int) < (l.length : Int)) rfl (fun hlt=>?_) (fun hge=>?_)
 ·have hlt : i < l.length:=by omega
  have hx : l[i]? = some l[i]!:=by rw [getElem!_pos l i hlt]; exact List.getElem?_eq_getElem hlt
  refine s_skip (hK1 _ ?_);refine s_seq fun K2 hK2=>?_;refine s_block ?_;refine s_regA TY_ok rfl fun K3 hK3=>?_;refine l_elem TY_ok rfl rfl rfl i rfl hx rfl rfl (rd_fact fun w h _=>h) ?_;refine l_autoS TY_ok rfl ?_;refine s_end (hK3 _ ?_);refine s_seq fun K4 hK4=>?_;refine s_regA TY_ok rfl fun K5 hK5=>?_;have hat : risingB n (-1) (l.take (i + 1)) = (decide (lastI l i < l[i]!) && decide (l[i]! < n)):=rising_at n l (-1) i hr hlt
  have hno : ∀ {e : Env},risingB n (-1) (l.take (i + 1)) = false → lookS e.E 4 = some (.v (.bool false)) → e.L = [] → e.R = [] → (∀ w,e.F w → e.F w) → kS b (bodyPost Tryd.prog Tryd.f25 (endS b (one (.q (.c (.b (risingB n (-1) l)))))) .ret) 24 e:=fun {e} hf he hL hR _=>by
   obtain ⟨E,L,R,F,M⟩:=e
   dsimp only at he hL hR
   subst hL hR;exact k_retD TY_ok () (rs:=[.tmp 4]) (qs:=[.c (.v (.bool false))]) rfl (by decide) (by simp only [resS,he]) (by rw [rising_more n l (-1) (i + 1) hf]; rfl) trivial rfl (fun _ _ _=>trivial) (fun _ _=>trivial)
  by_cases h1 : l[i]! ≤ lastI l i
  ·have hf : risingB n (-1) (l.take (i + 1)) = false:=by
    rw [hat,decide_eq_false (Int.not_lt.2 h1),Bool.false_and]
   refine l_is 17 true rfl (decide_eq_true h1) ?_;refine l_autoS TY_ok rfl ?_;refine s_end (hK5 _ ?_);refine s_yes rfl ?_;refine s_auto TY_ok rfl ?_;exact s_ret (hno hf rfl rfl rfl fun _ h=>h)
  ·refine l_is 17 false rfl (decide_eq_false h1) ?_
   refine l_autoS TY_ok rfl ?_;refine s_end (hK5 _ ?_);refine s_ifD (l[i]! ≥ n) rfl (fun h2=>?_) (fun h2=>?_)
   ·have hf : risingB n (-1) (l.take (i + 1)) = false:=by
     rw [hat,decide_eq_false (Int.not_lt.2 h2),Bool.and_false]
    refine s_auto TY_ok rfl ?_;exact s_ret (hno hf rfl rfl rfl fun _ h=>h)
   ·refine s_skip (hK4 _ ?_)
    refine s_autoE TY_ok rfl ?_;refine hK2 _ ?_;refine s_autoE TY_ok rfl ?_;refine k_next (i + 1) ⟨hlt,?_⟩ (by omega) ⟨⟨congrArg some (congrArg SV.v (congrArg (Value.int .i64) (wrapI rfl (by omega) (by omega)))),rfl,rfl,rfl,rfl,trivial⟩,trivial,.refl _,fun _ h _=>h,fun _ h=>h⟩;rw [hat,decide_eq_true (Int.not_le.1 h1),decide_eq_true (Int.not_le.1 h2)]
    rfl
 ·obtain rfl : i = l.length:=by omega
  rw [List.take_length] at hr;refine s_exit (k_pass (k_pass (k_out ?_)));refine hK _ ?_;refine s_auto TY_ok rfl ?_;exact s_ret (k_retD TY_ok () rfl (by decide) rfl (by rw [hr]; rfl) trivial rfl (fun _ _ _=>trivial) (fun _ _=>trivial))
end Go.Proofs.YtlcbhbahchiofaaDoor
/-
  CERTIFICATES: Check.
-/
namespace Go.Proofs.YtlcbhbahchiofaaDoor
open Go.RowKit Go.IntWalk Nums

theorem eY_len {n : Nat} {l : List UInt8} (h : OkP (eY n l).parts1) : l.length = n:=by
 have h1:=(h (.agg n (By l).toArray) (by simp [eY,SQ.parts1])).1
 rwa [List.size_toArray,By_len] at h1
theorem rising_in {n : Int} : ∀ {l : List Int} {last : Int},risingB n last l = true → ∀ x ∈ l,last < x ∧ x < n
 | [],_,_,_,h=>by cases h
 | s :: l,last,h,x,hx=>by
  simp only [risingB,Bool.and_eq_true,decide_eq_true_eq] at h
  rcases List.mem_cons.1 hx with rfl | hx
  ·exact h.1
  ·have:=rising_in h.2 x hx
   exact ⟨by omega,this.2⟩
noncomputable def okB (ks : List (List UInt8)) (m : List UInt8) (sg : List Int) (si : List (List UInt8)) : Bool:=(sg.zip si).all fun x=>rightB (ks[x.1.toNat]!) x.2 m
noncomputable def checkE (ks : List (List UInt8)) (m : List UInt8) (c : CV) : Int :=
  if c.sg.length = ks.length - ks.length / 3 ∧ c.sg.length = c.si.length then
    if risingB ks.length (-1) c.sg = true then if okB ks m c.sg c.si = true then 0 else 60
    else 81
  else 80
theorem all_at {α : Type} {p : α → Bool} {l : List α} {i : Nat} {x : α} (h : (l.take i).all p = true) (hx : l[i]? = some x) : (l.take (i + 1)).all p = p x:=by
 rw [List.take_add_one,hx,List.all_append,h]
 simp
theorem all_no {α : Type} {p : α → Bool} {l : List α} {i : Nat} (h : (l.take i).all p = false) : l.all p = false:=by
 rw [← List.take_append_drop i l,List.all_append,h]
 rfl
theorem own_check : Own 12:=fun _ _=>by go_simp
set_option maxRecDepth 100000 in
set_option maxHeartbeats 4000000 in
theorem check_S (r : RgI) (ks : List (List UInt8)) (ci : CI) (cv : CV) (t : UInt8) (hb : cv.body.length ≤ 140737488355312) :
  Spec 12 [ptr r.g,.int .u8 (t.toNat : Int),(eC ci cv).den] [RingM r.m ks] (fun w=>RingF r ks w ∧ Ta w ∧ CertF ci cv w)
   { ret:=fun _ : Unit=>.v (.int .i64 (checkE ks (msg t cv.body) cv)),own:=fun _=>[RingM r.m ks] }:=by
 refine spec_S [.c (.v (ptr r.g)),.c (.v (.int .u8 (t.toNat : Int))),eC ci cv] 55 Tryd.func12 rfl (by rw [Tryd.ntmps12]; rfl) (more_ok trivial (two_ok trivial (eC_ok _ _))) fun b=>?_;refine s_pure (ks.length ≤ 7 ∧ cv.sg.length ≤ 9223372036854775807 ∧ ∀ x ∈ cv.si,x.length = 64) (fun w h _=>⟨by have:=h.1.1; omega,Nat.le_trans h.2.2.2.1.1 h.2.2.2.1.2.1,fun x hx=>eY_len (h.2.2.2.2.2.2.2.1 x hx).1⟩) fun ⟨hk,hl,hs⟩=>?_;refine s_auto TY_ok rfl ?_;refine s_auto TY_ok rfl ?_;refine s_seq fun K hK=>?_;refine s_regA TY_ok rfl fun K1 hK1=>?_;refine l_callA [ptr r.g] rfl rfl rfl own_rquorum rfl rfl (fun _ _=>rfl) (rquorum_S r ks) (fun w h _=>h.1) fun _=>?_;refine l_autoS TY_ok rfl ?_
 have hend : ∀ (e : Env) (v : Int),lookS e.E 6 = some (.v (.int .i64 v)) → e.R = [RingM r.m ks] → checkE ks (msg t cv.body) cv = v → kS b (bodyPost Tryd.prog Tryd.f12 (endS b { ret:=fun _ : Unit=>.v (.int .i64 (checkE ks (msg t cv.body) cv)),own:=fun _=>[RingM r.m ks] }) .ret) 55 e:=fun e v he hR hv=>by
  obtain ⟨E,L,R,F,M⟩:=e
  dsimp only at he hR
  subst hR;exact k_ret TY_ok () (rs:=[.tmp 6]) (qs:=[.c (.v (.int .i64 v))]) rfl (by decide) (by simp only [resS,he]) (by rw [hv]; rfl) rfl (fun _ _ _=>trivial) (fun _ _=>trivial)
 by_cases h1 : ¬ cv.sg.length = ks.length - ks.length / 3
 ·refine l_is 21 true rfl (decide_eq_true (by omega)) ?_
  refine l_autoS TY_ok rfl ?_;refine s_end (hK1 _ ?_);refine s_yes rfl ?_;refine s_auto TY_ok rfl ?_;exact s_ret (hend _ 80 rfl rfl (if_neg fun h=>h1 h.1))
 have h1 : cv.sg.length = ks.length - ks.length / 3:=Decidable.not_not.1 h1;refine l_is 21 false rfl (decide_eq_false (by omega)) ?_;refine l_autoS TY_ok rfl ?_;refine s_end (hK1 _ ?_);refine s_ifD ((cv.sg.length : Int) ≠ (cv.si.length : Int)) rfl (fun h2=>?_) (fun h2=>?_)
 ·refine s_auto TY_ok rfl ?_
  exact s_ret (hend _ 80 rfl rfl (if_neg fun h=>h2 (by omega)))
 have h2 : cv.sg.length = cv.si.length:=by omega
 refine s_skip (hK _ ?_);refine s_seq fun K2 hK2=>?_;refine s_regD 6 (by decide) (by kernel_rfl) (by kernel_rfl) fun K3 hK3 G S w0 hst=>?_;refine g_autoS TY_ok hst rfl ?_;refine g_callS hst [ptr r.g] rfl rfl rfl own_rsize rfl rfl (fun _=>rfl) (rsize_S r ks) trivial (fun _ _ w h=>h.fact.2.1) ?_;refine g_autoS TY_ok hst rfl ?_;refine g_callS hst [.slice ci.A1 cv.sg.length ci.c1,.int .i64 (ks.length : Int)] rfl rfl rfl own_rising rfl rfl (fun _=>rfl) (rising_S cv.sg ks.length) trivial (fun _ _ w h=>h.fact.2.2.2.2.1) ?_;refine g_autoS TY_ok hst rfl ?_;refine g_endS hst ?_;refine s_end (hK3 _ ?_);refine s_if (!risingB ks.length (-1) cv.sg) rfl (fun h3=>?_) (fun h3=>?_)
 ·refine s_auto TY_ok rfl ?_
  exact s_ret (hend _ 81 rfl rfl (by unfold checkE; rw [if_pos ⟨h1,h2⟩,if_neg (by simpa using h3)]))
 have h3 : risingB ks.length (-1) cv.sg = true:=by simpa using h3
 refine s_skip (hK2 _ ?_);refine s_seq fun K4 hK4=>?_;refine s_auto TY_ok rfl ?_;refine s_block ?_
 let F : Nat → Env:=fun j=>⟨[(37,.v (.int .i64 (j : Int))),(36,.v (.int .i64 (cv.sg.length : Int))),(35,.v (.slice ci.A1 cv.sg.length ci.c1)),(0,.v (ptr r.g)),(1,.v (.int .u8 (t.toNat : Int))),(6,.v (.int .i64 0)),(5,.a 5 0)],
  [⟨5,none,45,[.one (.v (.slice ci.A0 cv.body.length ci.c0)),.one (.v (.slice ci.A1 cv.sg.length ci.c1)),.one (.v (.slice ci.A2 cv.si.length ci.c2))]⟩],[RingM r.m ks],fun w=>RingF r ks w ∧ Ta w ∧ CertF ci cv w,fun _=>True⟩
 refine c_weak (e':=F 0) ⟨⟨rfl,rfl,rfl,rfl,rfl,rfl,rfl,trivial⟩,⟨rfl,rfl,trivial⟩,.refl _,fun _ h _=>h.2,fun _ h=>trivial⟩ (s_loop (fun j=>cv.sg.length - j) F (fun j=>j ≤ cv.sg.length ∧ ((cv.sg.zip cv.si).take j).all (fun x=>rightB (ks[x.1.toNat]!) x.2 (msg t cv.body)) = true) ?_ 0 ⟨Nat.zero_le _,rfl⟩)
 rintro j ⟨hj,hok⟩
 refine s_auto TY_ok rfl ?_;refine s_seq fun K5 hK5=>?_;refine s_ifD ((j : Int) < (cv.sg.length : Int)) rfl (fun hlt=>?_) (fun hge=>?_)
 ·have hlt : j < cv.sg.length:=by omega
  obtain ⟨x,hx⟩ : ∃ x,cv.sg[j]? = some x:=⟨_,List.getElem?_eq_getElem hlt⟩;obtain ⟨y,hy⟩ : ∃ y,cv.si[j]? = some y:=⟨_,List.getElem?_eq_getElem (by omega)⟩;have hy64:=hs y (List.mem_of_getElem? hy);have hr:=rising_in h3 x (List.mem_of_getElem? hx);obtain ⟨k,rfl⟩ : ∃ k : Nat,x = (k : Int):=⟨x.toNat,by omega⟩
  have hkk : k < ks.length:=by omega
  have hnext : ((cv.sg.zip cv.si).take (j + 1)).all (fun x=>rightB (ks[x.1.toNat]!) x.2 (msg t cv.body)) = rightB ks[k] y (msg t cv.body):=by
   rw [all_at (x:=((k : Int),y)) hok ((List.getElem?_zip_eq_some (z:=((k : Int),y))).2 ⟨hx,hy⟩),Int.toNat_natCast,getElem!_pos ks k hkk]
  refine s_skip (hK5 _ ?_);refine s_seq fun K6 hK6=>?_;refine s_block ?_;refine s_regA TY_ok rfl fun K7 hK7=>?_;refine l_elem TY_ok rfl rfl rfl j rfl hx rfl rfl (rd_fact fun w h _=>h.2.2.2.1) ?_;refine l_autoS TY_ok rfl ?_;refine s_end (hK7 _ ?_);refine s_regD 10 (by decide) (by kernel_rfl) (by kernel_rfl) fun K9 hK9 G S w0 hst=>?_;refine g_autoS TY_ok hst rfl ?_;refine g_elem TY_ok hst rfl rfl rfl j rfl hy rfl rfl (rd_fact fun w h _=>h.2.2.2.2) ?_;refine g_autoS TY_ok hst rfl ?_;refine g_endS hst ?_;refine l_callA [ptr r.g,.int .i64 (k : Int),.int .u8 (t.toNat : Int),.slice ci.A0 cv.body.length ci.c0,.agg (By y).toArray] rfl rfl rfl own_ropen rfl rfl (fun _ _=>rfl) (ropen_S r ks k t hkk hy64 hb) (fun w h _=>⟨h.1,h.2.1,h.2.2.1⟩) fun _=>?_;refine l_autoS TY_ok rfl ?_;refine s_end (hK9 _ ?_);refine s_if (!rightB ks[k] y (msg t cv.body)) rfl (fun h4=>?_) (fun h4=>?_)
  ·refine s_auto TY_ok rfl ?_
   refine s_ret (hend _ 60 rfl rfl ?_)
   unfold checkE
   have h4 : rightB ks[k] y (msg t cv.body) = false:=by simpa using h4
   have h5 : okB ks (msg t cv.body) cv.sg cv.si = false:=by
    rw [h4] at hnext;exact all_no hnext
   rw [if_pos ⟨h1,h2⟩,if_pos h3,if_neg (by rw [h5]; decide)]
  ·have h4 : rightB ks[k] y (msg t cv.body) = true:=by simpa using h4
   refine s_skip (hK6 _ ?_);refine s_autoE TY_ok rfl ?_;exact k_next (j + 1) ⟨hlt,by rw [hnext,h4]⟩ (by omega) ⟨⟨congrArg some (congrArg SV.v (congrArg (Value.int .i64) (wrapI rfl (by omega) (by omega)))),rfl,rfl,rfl,rfl,rfl,rfl,trivial⟩,⟨rfl,rfl,trivial⟩,.refl _,fun _ h _=>h.2,fun _ h=>trivial⟩
 ·obtain rfl : j = cv.sg.length:=by omega
  refine s_exit (k_pass (k_pass (k_out ?_)));refine hK4 _ ?_;refine s_auto TY_ok rfl ?_;refine s_ret (hend _ 0 rfl rfl ?_)
  unfold checkE
  rw [List.take_of_length_le (by rw [List.length_zip]; omega)] at hok;rw [if_pos ⟨h1,h2⟩,if_pos h3,if_pos (show okB ks (msg t cv.body) cv.sg cv.si = true from hok)]
end Go.Proofs.YtlcbhbahchiofaaDoor
/-
  CERTIFICATES: without a ring.
-/
namespace Go.Proofs.YtlcbhbahchiofaaDoor
open Go.RowKit Go.IntWalk Nums

set_option maxRecDepth 100000 in
theorem make_nil (x : Value) (y z : SQ) (_hx : x.oneCell' = true) (hy : y.Ok) (hz : z.Ok) :
  Spec 11 [.pointer none,x,y.den,z.den] [] (fun _=>True) (one (retC ci0 none)):=by
 refine spec_S [.c (.v (.pointer none)),.c (.v x),y,z] 65 Tryd.func11 rfl (by rw [Tryd.ntmps11]; rfl) (more_ok trivial (more_ok trivial (two_ok hy hz))) fun b=>?_;refine s_auto TY_ok rfl ?_;refine s_seq fun K hK=>?_;refine s_auto TY_ok rfl ?_;refine s_yes rfl ?_;refine s_auto TY_ok rfl ?_;exact s_ret (k_ret TY_ok () rfl (by decide) rfl rfl rfl (fun _ _ _=>trivial) (fun _ _=>trivial))
set_option maxRecDepth 100000 in
theorem check_nil (x : Value) (ci : CI) (cv : CV) :
  Spec 12 [.pointer none,x,(eC ci cv).den] [] (fun _=>True) (one (.v (.int .i64 80))):=by
 refine spec_S [.c (.v (.pointer none)),.c (.v x),eC ci cv] 55 Tryd.func12 rfl (by rw [Tryd.ntmps12]; rfl) (more_ok trivial (two_ok trivial (eC_ok _ _))) fun b=>?_;refine s_auto TY_ok rfl ?_;refine s_auto TY_ok rfl ?_;refine s_seq fun K hK=>?_;refine s_regA TY_ok rfl fun K1 hK1=>?_;refine l_autoS TY_ok rfl ?_;refine s_end (hK1 _ ?_);refine s_yes rfl ?_;refine s_auto TY_ok rfl ?_;exact s_ret (k_ret TY_ok () rfl (by decide) rfl rfl rfl (fun _ _ _=>trivial) (fun _ _=>trivial))
end Go.Proofs.YtlcbhbahchiofaaDoor
/-
  CERTIFICATES: the statements' ring, shares that are picked.
-/
namespace Go.Proofs.YtlcbhbahchiofaaDoor
open Go.RowKit Go.IntWalk Nums

theorem own_of8 : Own 7:=fun _ _=>by go_simp
theorem keyL_next (n : Nat) : keyL (n + 1) = keyL n ++ [sgKey (seedL 2 n)]:=by simp [keyL,List.range_succ]
theorem seedsL_at {b : UInt8} {n i : Nat} (h : i < n) : (seedsL b n)[i]? = some (seedL b i):=by simp [seedsL,h]
set_option maxRecDepth 100000 in
set_option maxHeartbeats 2000000 in
theorem of_S (f n : Nat) (hf : n = 3 * f + 1) (hn : n ≤ 7) : Spec 7 [.int .i64 (f : Int)] [] Ta
  { ret:=fun x : RgI × Option Addr × Nat=>.t [.c (.v (ptr x.1.g)),.c (.v (.slice x.2.1 n x.2.2))],own:=fun x=>[RingM x.1.m (keyL n)],n:=fun x w=>RingF x.1 (keyL n) w ∧ Rd 32 (eY 32) x.2.1 x.2.2 (seedsL 2 n) w }:=by
 refine spec_S [.c (.v (.int .i64 (f : Int)))] 33 Tryd.func7 rfl (by rw [Tryd.ntmps7]; rfl) (one_ok trivial) fun b=>?_;refine s_auto TY_ok rfl ?_;refine s_regA TY_ok rfl fun K1 hK1=>?_;have e1 : IntKind.i64.wrap (3 * (f : Int)) = 3 * (f : Int):=wrapI rfl (by omega) (by omega)
 have e2 : IntKind.i64.wrap (IntKind.i64.wrap (3 * (f : Int)) + 1) = (n : Int):=by rw [e1]; exact wrapI (by omega) (by omega) (by omega)
 refine l_num 12 (n : Int) rfl e2 ?_;refine l_callA [.int .i64 (n : Int),.int .u8 ((2 : UInt8).toNat : Int)] rfl rfl rfl own_seeds rfl rfl (fun _ _=>rfl) (seeds_S n 2 (by omega)) (fun w h _=>trivial) fun ⟨A,c⟩=>?_;refine l_autoS TY_ok rfl ?_;refine s_end (hK1 _ ?_);refine s_auto TY_ok rfl ?_;refine s_nil0 b.B.heap.size 40 32 (eY 32) ?_;refine s_seq fun K hK=>?_;refine s_auto TY_ok rfl ?_;refine s_block ?_
 let F : Nat × Option Addr × Nat → Env:=fun ⟨j,A2,c2⟩=>⟨[(16,.v (.int .i64 (j : Int))),(15,.v (.int .i64 (n : Int))),(14,.v (.slice A n c)),(4,.v (.slice A n c)),(5,.v (.slice A2 (keyL j).length c2))],[],[OwnS b.B.heap.size 40 32 (eY 32) A2 c2 (keyL j)],Ta,Rd 32 (eY 32) A c (seedsL 2 n)⟩
 refine c_weak (e':=F (0,none,0)) ⟨⟨rfl,rfl,rfl,rfl,rfl,trivial⟩,trivial,.refl _,fun _ h _=>h.2,fun _ h=>h.1⟩ (s_loop (fun j=>n - j.1) F (fun j=>j.1 ≤ n) ?_ (0,none,0) (Nat.zero_le _))
 rintro ⟨j,A2,c2⟩ hj
 dsimp only at hj
 refine s_auto TY_ok rfl ?_;refine s_seq fun K3 hK3=>?_;refine s_ifD ((j : Int) < (n : Int)) rfl (fun hlt=>?_) (fun hge=>?_)
 ·have hlt : j < n:=by omega
  refine s_skip (hK3 _ ?_);refine s_seq fun K4 hK4=>?_;refine s_block ?_;refine s_reg fun K5 hK5=>?_;refine l_elem TY_ok rfl rfl rfl j rfl (seedsL_at hlt) (seedsL_len 2 n).symm rfl (rd_fact fun w _ h=>h) ?_;refine l_autoS TY_ok rfl ?_;refine s_end (hK5 _ ?_);refine s_lit ?_;refine l_autoS TY_ok rfl ?_;refine l_callA [.agg (By (seedL 2 j)).toArray] rfl rfl rfl own_public rfl rfl (fun _ _=>rfl) (public_S (seedL_len 2 j)) (fun w h _=>h) fun _=>?_;refine l_push TY_ok 0 (sgKey (seedL 2 j)) rfl rfl rfl rfl rfl rfl rfl (eY_ok (sgKey_len _)) (by decide) (by decide) (by rw [keyL_len]; show (_ + 1) * 32 ≤ _; omega) (by rw [keyL_len]; omega) (Nat.le_refl _) fun A' c'=>?_;refine l_autoS TY_ok rfl ?_;refine s_end (hK4 _ ?_);refine s_autoE TY_ok rfl ?_;rw [← keyL_next];exact k_next (j + 1,A',c') (by show j + 1 ≤ n; omega) (by show n - (j + 1) < n - j; omega) ⟨⟨congrArg some (congrArg SV.v (congrArg (Value.int .i64) (wrapI rfl (by omega) (by omega)))),rfl,rfl,rfl,rfl,trivial⟩,trivial,.refl _,fun _ h _=>h.2,fun _ h=>h.2⟩
 ·obtain rfl : j = n:=by omega
  refine s_exit (k_pass (k_pass (k_out ?_)));refine hK _ ?_;refine s_regA TY_ok rfl fun K6 hK6=>?_;refine l_free 0 rfl ?_;refine l_callA [.slice A2 (keyL j).length c2] rfl rfl rfl own_rnew7 rfl rfl (fun _ _=>rfl) (rnew_S (by rw [keyL_len]; omega) (keyL_nodup hn)) (fun w h _=>h.1) fun r=>?_;refine l_autoS TY_ok rfl ?_;refine s_end (hK6 _ ?_);refine s_auto TY_ok rfl ?_;exact s_ret (k_ret TY_ok (r,A,c) rfl (by decide) rfl rfl rfl (fun _ _ _=>trivial) (fun _ h=>⟨h.1,h.2⟩))
end Go.Proofs.YtlcbhbahchiofaaDoor
/-
  LITERALS OF BYTES, over states.
-/
namespace Go.Proofs.YtlcbhbahchiofaaDoor
open Go.RowKit Go.IntWalk

theorem rd_alloc {w : World} {m : Nat × Nat} (l : List UInt8) (hm : l.length ≤ 9223372036854775807) : Rd 1 eB (some ⟨w.heap.size,0,none⟩) l.length l (w.alloc (.cells (By l).toArray 5 m)):=by
 have hc : (w.alloc (.cells (By l).toArray 5 m)).heap[w.heap.size]? = some (.cells (By l).toArray 5 m):=heap_alloc_new w _;have hsz : (w.alloc (.cells (By l).toArray 5 m)).heap.size = w.heap.size + 1:=World.size_alloc _ _;refine ⟨Nat.le_refl _,hm,fun h=>(by cases h),okF_B l,fun _=>⟨w.heap.size,0,rfl,by rw [hsz]; exact Nat.lt_succ_self _,fun i x hi j v hj=>?_⟩⟩
 cases j with
 | zero =>
  have e : v = .int .u8 (x.toNat : Int):=(Option.some.inj ((show (eB x).cl[0]? = some (.int .u8 (x.toNat : Int)) from rfl).symm.trans hj)).symm;rw [cell_of_row _ _ _ _ _ _ hc,e];obtain ⟨h1,h2⟩:=List.getElem?_eq_some_iff.1 hi;have h3:=By_at? h1;rw [getElem!_pos l i h1,h2] at h3
  simpa using h3
 | succ j =>
  have : (eB x).cl[j + 1]? = none:=rfl;rw [this] at hj
  cases hj
section
variable {b : Base} {ops : Array Oper} {Q : Exit → Act → World → Prop} {N : Nat} {E : SE} {L : List LV} {R : List Res} {F M : World → Prop} {o o2 : Oper} {rest : List Oper} {k k2 : Nat}
theorem l_litS {n : Nat} {parts : Array (Nat × Operand)} (l : List UInt8) (hg : o.guard = none) (hd : o.dst = some k) (hk : Nat.blt k N = true) (ho : o.op = .buildSlice 22 n parts) (hp : ∀ G : Nat → Nat,parts.toList.map (fun p=>(p.1,(evS E p.2).map (SV.den G))) = ((l.map fun x=>(eB x).den).zipIdx 0).map fun x=>(x.2,some x.1))
  (hn : l.length = n) (h0 : 0 < n) (h24 : n ≤ 16777216) (hf : lookS E k = none) (hg2 : o2.guard = none) (hd2 : o2.dst = some k2) (hk2 : Nat.blt k2 N = true) (ho2 : o2.op = .convert 22 22 (.tmp k))
  (hc : ∀ g,lS Tryd.prog b ops Q N rest ⟨(k2,.v (.slice (some ⟨g,0,none⟩) n n)) :: E,L,R,F,fun w=>Rd 1 eB (some ⟨g,0,none⟩) n l w ∧ M w⟩) : lS Tryd.prog b ops Q N (o :: o2 :: rest) ⟨E,L,R,F,M⟩:=fun a w ⟨G,S,h1,h2,h3⟩=>by
 obtain ⟨ht,ie,z,hi,hz,hsz,hbs,hzs,_⟩:=slS_ok (T:=TY) TY_ok (t:=22) (e:=5) (k:=1) (bs:=1) rfl
 have hr:=run_lit (P:=Tryd.prog) ht hi hz hsz (l.map fun x=>(eB x).den) n (parts.map fun (i,x)=>(i,a.eval x)) (by rw [Array.toList_map]; exact map_parts h1 _ _ (hp G)) (by rw [List.length_map,hn]) (by omega) (by omega) (fun v hv=>by
  obtain ⟨x,hx,rfl⟩:=List.mem_map.1 hv
  rfl) w
 have e1 : ((l.map fun x=>(eB x).den).flatMap fun v=>v.cells.toList) = By l:=by rw [List.flatMap_map,← flat_B]; rfl
 rw [e1] at hr;subst hn
 refine wpl_go (v:=.slice (some ⟨w.heap.size,0,none⟩) l.length l.length) (w':=w.alloc (.cells (By l).toArray 5)) (oneS hg) (by
  unfold execOp
  simp only [ho,Sem.run_bind,hr,Result.andThen_ok,Sem.run_pure]) ?_
 rw [hd];have f1:=h1.putFar (k:=k) (by rw [look_den,hf]; rfl) (.slice (some ⟨w.heap.size,0,none⟩) l.length l.length);have e2 : (a.put (some k) (.slice (some ⟨w.heap.size,0,none⟩) l.length l.length)).eval (.tmp k) = .slice (some ⟨w.heap.size,0,none⟩) l.length l.length:=eval_put_same h1 hk _;have hr2:=Lib.run_convert_bytes_const (P:=Tryd.prog) w 22 5 (By l).toArray l.length l.length Tryd.underlying22 Tryd.underlying5
 refine wpl_go (v:=.slice (some ⟨w.heap.size,0,none⟩) l.length l.length) (w':=w.alloc (.cells (By l).toArray 5 ((By l).toArray.size,(By l).toArray.size + 1))) (oneS hg2) (by
  unfold execOp
  simp only [ho2,e2,Sem.run_bind,hr2,Result.andThen_ok,Sem.run_pure]) ?_
 rw [hd2];have h4:=rd_alloc (w:=w) (m:=((By l).toArray.size,(By l).toArray.size + 1)) l (by omega);have h5:=h3.later ((Below.refl w.heap.size w).alloc (Nat.le_refl _) (.cells (By l).toArray 5 ((By l).toArray.size,(By l).toArray.size + 1)));refine hc w.heap.size _ _ ⟨G,S,f1.put hk2 _,h2.cons trivial,h5.andM fun w2 hw2=>h4.keep hw2.size fun g e hlt=>hw2.block g hlt fun hx=>?_⟩;simp only [Option.map_some,Option.some.injEq] at e;subst e
 rcases hx with hx | hx
 ·exact Nat.lt_irrefl _ (Nat.lt_of_lt_of_le hx h3.chg.size)
 ·exact Nat.lt_irrefl _ (h3.lt _ hx)
end
end Go.Proofs.YtlcbhbahchiofaaDoor
/-
  PLAIN NUMBERS: the ring's first signature (the seed 3, TagPrepare, 'a'), and that it is none under TagCommit, reckoned.
-/
namespace Go.Proofs.YtlcbhbahchiofaaDoor
open Nums

end Go.Proofs.YtlcbhbahchiofaaDoor
/-
  LITERAL SLICES OF HASHES; '==' of error numbers; what stays where a ring's map was written.
-/
namespace Go.Proofs.YtlcbhbahchiofaaDoor
open Go.RowKit Go.IntWalk Nums

open Classical in
theorem rightB_own7 (seed m : List UInt8) : rightB (sgKey seed) (sgSig seed m) m = true:=by
 unfold rightB
 exact decide_eq_true (right_own seed m)
theorem msg_ca : msg 4 [97] = [119,105,116,97,110,4,0,0,0,0,0,0,0,1,97]:=by decide
end Go.Proofs.YtlcbhbahchiofaaDoor
/-
  CERTIFICATES: what must be answered first.
-/
namespace Go.Proofs.YtlcbhbahchiofaaDoor
open Go.RowKit Go.IntWalk Nums

theorem msg_ra : msg 5 [97] = [119,105,116,97,110,5,0,0,0,0,0,0,0,1,97]:=by decide
open Classical in
theorem first_no8 : rightB (sgKey (seedL 2 0)) (sgSig (seedL 2 0) (msg 5 [97])) (msg 4 [97]) = false:=by
 rw [msg_ra,msg_ca,seedL_one]
 unfold rightB
 exact decide_eq_false not_c8
theorem keyL_one : keyL 1 = [sgKey (seedL 2 0)]:=by simp [keyL]
theorem make_one (key b sig : List UInt8) (m : List UInt8) (h : rightB key sig m = true) : makeC [key] m b [(0,sig)] = some ⟨b,[0],[sig]⟩:=by
 have h1 : gotL [key] m [(0,sig)] 1 = [(0,sig)]:=by
  have h2 : firstR key m 0 [(0,sig)] = some sig:=by
   simp [firstR,isR,h]
  simp [gotL,List.range_succ,h2]
 unfold makeC
 rw [show [key].length = 1 from rfl,h1]
 rfl
theorem check_one (key b sig m : List UInt8) : checkE [key] m ⟨b,[0],[sig]⟩ = if rightB key sig m = true then 0 else 60:=by
 have h1 : okB [key] m [0] [sig] = rightB key sig m:=by
  simp [okB]
 simp [checkE,h1,risingB]
theorem own_first8 : Own 6:=fun _ _=>by go_simp
set_option maxRecDepth 100000 in
set_option maxHeartbeats 2000000 in
theorem first_S : Spec 6 [] [] Ta (one (.v (.bool true))):=by
 refine spec_S [] 50 Tryd.func6 rfl (by rw [Tryd.ntmps6]; rfl) (fun _ h=>(by cases h)) fun b=>?_;refine s_auto TY_ok rfl ?_;refine s_regA TY_ok rfl fun K1 hK1=>?_;refine l_callA [.int .i64 ((0 : Nat) : Int)] rfl rfl rfl own_of8 rfl rfl (fun _ _=>rfl) (of_S 0 1 rfl (by decide)) (fun w h _=>h) fun ⟨r,A,c⟩=>?_;refine l_autoS TY_ok rfl ?_;refine s_end (hK1 _ ?_);refine s_regA TY_ok rfl fun K2 hK2=>?_;refine l_litS [97] rfl rfl rfl rfl (fun _=>rfl) rfl (by decide) (by decide) rfl rfl rfl rfl rfl fun g1=>?_;refine l_autoS TY_ok rfl ?_;refine l_elem TY_ok rfl rfl rfl 0 rfl (seedsL_at (by decide)) rfl rfl (rd_fact fun w _ h=>h.2.1.2) ?_;refine l_litS [97] rfl rfl rfl rfl (fun _=>rfl) rfl (by decide) (by decide) rfl rfl rfl rfl rfl fun g2=>?_;have hse:=seal_S (A:=some ⟨g2,0,none⟩) (c:=1) (seed:=seedL 2 0) (b:=[97]) 5 (seedL_len 2 0) (by decide);have hsl:=sgSig_len (seedL 2 0) (msg 5 [97]);have hy:=rightB_own7 (seedL 2 0) (msg 5 [97]);have hn:=first_no8;rw [keyL_one] at *;have hm1:=make_one (sgKey (seedL 2 0)) [97] _ _ hy;generalize sgKey (seedL 2 0) = key at *;generalize sgSig (seedL 2 0) (msg 5 [97]) = sg at *;refine l_call0 [.agg (By (seedL 2 0)).toArray,.int .u8 ((5 : UInt8).toNat : Int),.slice (some ⟨g2,0,none⟩) [(97 : UInt8)].length 1] rfl rfl rfl own_seal rfl rfl (fun _ _=>rfl) hse (fun w h hM=>⟨h.2,hM.1⟩) fun _=>?_;refine l_autoS TY_ok rfl ?_;refine l_list TY_ok b.B.heap.size [((0 : Int),sg)] (fe:=eSh) rfl rfl rfl rfl rfl (fun _=>rfl) rfl (by decide) (by decide) (fun x hx=>by rw [List.mem_singleton.1 hx]; exact eSh_ok hsl) (Nat.le_refl _) fun P=>?_;refine l_free 0 rfl ?_;refine l_R [RingM r.m [key]] rfl ?_;have hmk:=make_S r [key] (A:=some ⟨g1,0,none⟩) (A2:=P) (c:=1) (c2:=1) (bd:=[97]) [((0 : Int),sg)] 5 (by decide);rw [hm1] at hmk;refine l_callA [ptr r.g,.int .u8 ((5 : UInt8).toNat : Int),.slice (some ⟨g1,0,none⟩) [(97 : UInt8)].length 1,.slice P 1 1] rfl rfl rfl own_make rfl rfl (fun _ _=>rfl) hmk (fun w h hM=>⟨⟨hM.2.2.2.1.1,h.2.2.2,hM.2.2.1⟩,h.1⟩) fun ci=>?_;refine l_autoS TY_ok rfl ?_;refine s_end (hK2 _ ?_);refine s_regA TY_ok rfl fun K3 hK3=>?_;refine l_is 26 true rfl (by decide) ?_;refine l_autoS TY_ok rfl ?_;refine l_is 32 true rfl (decide_eq_true rfl) ?_;refine l_autoS TY_ok rfl ?_;have hk1:=check_S r [key] ci ⟨[97],[0],[sg]⟩ 5 (by show 1 ≤ _; decide);rw [check_one,if_pos hy] at hk1;refine l_callA [ptr r.g,.int .u8 ((5 : UInt8).toNat : Int),(eC ci ⟨[97],[0],[sg]⟩).den] rfl rfl rfl own_check rfl rfl (fun _ _=>rfl) hk1 (fun w h hM=>⟨hM.2.2.2.2.1.1,h.2.2.2.2,hM.1 _ rfl⟩) fun _=>?_;refine l_autoS TY_ok rfl ?_;refine l_is 38 true rfl (by decide) ?_;refine l_autoS TY_ok rfl ?_;have hk2:=check_S r [key] ci ⟨[97],[0],[sg]⟩ 4 (by show 1 ≤ _; decide);rw [check_one,if_neg (by rw [hn]; decide)] at hk2;refine l_callA [ptr r.g,.int .u8 ((4 : UInt8).toNat : Int),(eC ci ⟨[97],[0],[sg]⟩).den] rfl rfl rfl own_check rfl rfl (fun _ _=>rfl) hk2 (fun w h hM=>⟨hM.2.2.2.2.2.1.1,h.2.2.2.2.2,hM.2.1 _ rfl⟩) fun _=>?_
 refine l_autoS TY_ok rfl ?_;refine l_is 44 true rfl (by decide) ?_;refine l_autoS TY_ok rfl ?_;have hk3:=check_S r [key] ci0 cv0 5 (by decide);rw [show checkE [key] (msg 5 cv0.body) cv0 = 80 by simp [checkE,cv0]] at hk3;refine l_callA [ptr r.g,.int .u8 ((5 : UInt8).toNat : Int),(eC ci0 cv0).den] rfl rfl rfl own_check rfl rfl (fun _ _=>rfl) hk3 (fun w h hM=>⟨hM.2.2.2.2.2.2.1.1,h.2.2.2.2.2.2,certF0 w⟩) fun _=>?_;refine l_autoS TY_ok rfl ?_;refine s_end (hK3 _ ?_);exact s_ret (k_drop 0 rfl (k_retD TY_ok () rfl (by decide) rfl rfl trivial rfl (fun _ _ _=>trivial) (fun _ _=>trivial)))
end Go.Proofs.YtlcbhbahchiofaaDoor
/-
  CERTIFICATES: what Make makes is right; shares that are picked.
-/
namespace Go.Proofs.YtlcbhbahchiofaaDoor
open Go.RowKit Go.IntWalk Nums

theorem rising_of {n : Int} : ∀ {l : List Int} {last : Int},l.Pairwise (· < ·) → (∀ x ∈ l,last < x ∧ x < n) → risingB n last l = true
 | [],_,_,_=>rfl
 | s :: l,last,h,hb=>by
  rw [List.pairwise_cons] at h;simp only [risingB,Bool.and_eq_true,decide_eq_true_eq];exact ⟨hb s List.mem_cons_self,rising_of h.2 fun x hx=>⟨h.1 x hx,(hb x (List.mem_cons_of_mem _ hx)).2⟩⟩
theorem gotL_sub (ks : List (List UInt8)) (m : List UInt8) (l : List Share) : ∀ i,((gotL ks m l i).map (·.1)).Sublist (List.range i)
 | 0=>List.Sublist.slnil
 | i + 1=>by
  rw [gotL_next,List.map_append,List.range_succ];refine (gotL_sub ks m l i).append ?_
  cases firstR (ks[i]!) m i l with
  | none=>exact List.nil_sublist _
  | some s=>exact List.Sublist.refl _
theorem gotL_mem {ks : List (List UInt8)} {m : List UInt8} {l : List Share} : ∀ {i : Nat} {x : Nat × List UInt8},x ∈ gotL ks m l i → x.1 < i ∧ firstR (ks[x.1]!) m x.1 l = some x.2
 | 0,_,h=>by cases h
 | i + 1,x,h=>by
  rw [gotL_next] at h
  rcases List.mem_append.1 h with h | h
  ·have:=gotL_mem h
   exact ⟨by omega,this.2⟩
  ·cases hf : firstR (ks[i]!) m i l with
   | none=>rw [hf] at h; cases h
   | some s =>
    rw [hf] at h;simp only [Option.map_some,Option.toList_some,List.mem_singleton] at h;subst h;exact ⟨Nat.lt_succ_self _,hf⟩
theorem firstR_right {key m : List UInt8} {i : Int} {l : List Share} {s : List UInt8} (h : firstR key m i l = some s) : rightB key s m = true:=by
 unfold firstR at h
 cases hf : l.find? (isR key m i) with
 | none=>rw [hf] at h; cases h
 | some x =>
  rw [hf] at h;simp only [Option.map_some,Option.some.injEq] at h;have:=List.find?_some hf;simp only [isR,Bool.and_eq_true] at this;rw [← h];exact this.2
theorem make_check {ks : List (List UInt8)} {m bd : List UInt8} {l : List Share} {cv : CV} (h : makeC ks m bd l = some cv) : checkE ks m cv = 0 ∧ cv.body = bd:=by
 unfold makeC at h
 split at h
 ·cases h
 ·rename_i hq
  injection h with h
  subst h;refine ⟨?_,rfl⟩;generalize hT : (gotL ks m l ks.length).take (ks.length - ks.length / 3) = T
  have hlen : T.length = ks.length - ks.length / 3:=by rw [← hT,List.length_take]; omega
  have hmem : ∀ x ∈ T,x ∈ gotL ks m l ks.length:=fun x hx=>List.mem_of_mem_take (by rw [hT]; exact hx)
  have hsub : (T.map (·.1)).Sublist (List.range ks.length):=by
   refine List.Sublist.trans ?_ (gotL_sub ks m l ks.length);rw [← hT];exact (List.take_sublist _ _).map _
  have hr : risingB ks.length (-1) (T.map fun x=>(x.1 : Int)) = true:=by
   have e : (T.map fun x=>(x.1 : Int)) = (T.map (·.1)).map fun i : Nat=>(i : Int):=by rw [List.map_map]; rfl
   refine rising_of ?_ fun x hx=>?_
   ·rw [e,List.pairwise_map]
    exact (List.pairwise_lt_range.sublist hsub).imp fun h=>by omega
   ·obtain ⟨y,hy,rfl⟩:=List.mem_map.1 hx
    have:=(gotL_mem (hmem y hy)).1
    omega
  have hok : okB ks m (T.map fun x=>(x.1 : Int)) (T.map (·.2)) = true:=by
   unfold okB
   rw [List.zip_map',List.all_map,List.all_eq_true]
   intro x hx
   exact firstR_right (gotL_mem (hmem x hx)).2
  unfold checkE
  rw [if_pos (by simp [hlen]),if_pos hr,if_pos hok]
def keepB (l : List UInt8) (i : Nat) : Bool:=decide (l.length ≤ i) || decide (0 < (l[i]!).toNat % 3)
def pickL (all : List Share) (l : List UInt8) (i : Nat) : List Share:=(List.range i).filterMap fun j=>if keepB l j = true then all[j]? else none
theorem pickL_next (all : List Share) (l : List UInt8) (i : Nat) : pickL all l (i + 1) = pickL all l i ++ (if keepB l i = true then all[i]? else none).toList:=by
 unfold pickL
 rw [List.range_succ,List.filterMap_append,List.filterMap_cons]
 cases (if keepB l i = true then all[i]? else none) <;> simp
theorem pickL_le (all : List Share) (l : List UInt8) (i : Nat) : (pickL all l i).length ≤ i:=by
 unfold pickL
 have:=List.length_filterMap_le (fun j=>if keepB l j = true then all[j]? else none) (List.range i)
 rwa [List.length_range] at this
theorem own_some8 : Own 13:=fun _ _=>by go_simp
set_option maxRecDepth 100000 in
set_option maxHeartbeats 2000000 in
theorem some_S {A A2 : Option Addr} {c c2 : Nat} (all : List Share) (l : List UInt8) (hn : all.length ≤ 200) : Spec 13 [.slice A all.length c,.slice A2 l.length c2] [] (fun w=>Rd 65 eSh A c all w ∧ Rd 1 eB A2 c2 l w)
  { ret:=fun x : Option Addr × Nat=>.v (.slice x.1 (pickL all l all.length).length x.2),n:=fun x=>Rd 65 eSh x.1 x.2 (pickL all l all.length) }:=by
 refine spec_S [.c (.v (.slice A all.length c)),.c (.v (.slice A2 l.length c2))] 33 Tryd.func13 rfl (by rw [Tryd.ntmps13]; rfl) (two_ok trivial trivial) fun b=>?_;refine s_pure (∀ x ∈ all,OkP (eSh x).parts1 ∧ (eSh x).cl.length = 65) (fun w h _=>h.1.2.2.2.1) fun hs=>?_;refine s_auto TY_ok rfl ?_;refine s_auto TY_ok rfl ?_;refine s_nil0 b.B.heap.size 37 65 eSh ?_;refine s_seq fun K hK=>?_;refine s_auto TY_ok rfl ?_;refine s_block ?_
 let F : Nat × Option Addr × Nat → Env:=fun ⟨j,B,d⟩=>⟨[(9,.v (.int .i64 (j : Int))),(8,.v (.int .i64 (all.length : Int))),(0,.v (.slice A all.length c)),(1,.v (.slice A2 l.length c2)),(5,.v (.slice B (pickL all l j).length d))],[],[OwnS b.B.heap.size 37 65 eSh B d (pickL all l j)],fun w=>Rd 65 eSh A c all w ∧ Rd 1 eB A2 c2 l w,fun _=>True⟩
 refine c_weak (e':=F (0,none,0)) ⟨⟨rfl,rfl,rfl,rfl,rfl,trivial⟩,trivial,.refl _,fun _ h _=>h,fun _ h=>h⟩ (s_loop (fun j=>all.length - j.1) F (fun j=>j.1 ≤ all.length) ?_ (0,none,0) (Nat.zero_le _))
 rintro ⟨j,B,d⟩ hj
 dsimp only at hj
 refine s_auto TY_ok rfl ?_;refine s_seq fun K1 hK1=>?_;refine s_ifD ((j : Int) < (all.length : Int)) rfl (fun hlt=>?_) (fun hge=>?_)
 ·have hlt : j < all.length:=by omega
  obtain ⟨x,hx⟩ : ∃ x,all[j]? = some x:=⟨_,List.getElem?_eq_getElem hlt⟩;refine s_skip (hK1 _ ?_);refine s_seq fun K2 hK2=>?_;refine s_block ?_;refine s_auto TY_ok rfl ?_;have hpl:=pickL_le all l j
  have hno : keepB l j = false → ∀ e : Env,Weak e ⟨[(9,.v (.int .i64 (j : Int))),(8,.v (.int .i64 (all.length : Int))),(0,.v (.slice A all.length c)),(1,.v (.slice A2 l.length c2)),(5,.v (.slice B (pickL all l j).length d))],[],[OwnS b.B.heap.size 37 65 eSh B d (pickL all l j)],fun w=>Rd 65 eSh A c all w ∧ Rd 1 eB A2 c2 l w,fun _=>True⟩ → kS b K2 33 e:=fun hf e hw=>by
   refine k_weak hw (hK2 _ ?_);refine s_autoE TY_ok rfl ?_
   have e1 : pickL all l (j + 1) = pickL all l j:=by rw [pickL_next,if_neg (by rw [hf]; decide)]; exact List.append_nil _
   rw [← e1];exact k_next (j + 1,B,d) (by show j + 1 ≤ _; omega) (by show _ - (j + 1) < _ - j; omega) ⟨⟨congrArg some (congrArg SV.v (congrArg (Value.int .i64) (wrapI rfl (by omega) (by omega)))),rfl,rfl,rfl,rfl,trivial⟩,trivial,.refl _,fun _ h _=>h,fun _ h=>h⟩
  refine s_regA TY_ok rfl fun K3 hK3=>?_
  by_cases h1 : (j : Int) ≥ (l.length : Int)
  ·have hkp : keepB l j = true:=by unfold keepB; rw [decide_eq_true (by omega),Bool.true_or]
   refine l_is 16 true rfl (decide_eq_true h1) ?_;refine l_autoS TY_ok rfl ?_;refine s_end (hK3 _ ?_);refine s_yes rfl ?_;refine s_lit ?_;refine l_autoS TY_ok rfl ?_;refine l_elem TY_ok rfl rfl rfl j rfl hx rfl rfl (rd_fact fun w h _=>h.1) ?_;refine l_push TY_ok 0 x rfl rfl rfl rfl rfl rfl rfl (hs x (List.mem_of_getElem? hx)) (by decide) (by decide) (by show (_ + 1) * 72 ≤ _; omega) (by omega) (Nat.le_refl _) fun B' d'=>?_;refine l_autoS TY_ok rfl ?_;refine s_end (hK2 _ ?_);refine s_autoE TY_ok rfl ?_
   have e1 : pickL all l (j + 1) = pickL all l j ++ [x]:=by rw [pickL_next,if_pos hkp,hx]; rfl
   rw [← e1];exact k_next (j + 1,B',d') (by show j + 1 ≤ _; omega) (by show _ - (j + 1) < _ - j; omega) ⟨⟨congrArg some (congrArg SV.v (congrArg (Value.int .i64) (wrapI rfl (by omega) (by omega)))),rfl,rfl,rfl,rfl,trivial⟩,trivial,.refl _,fun _ h _=>h,fun _ h=>h⟩
  ·have hlj : j < l.length:=by omega
   have hy : l[j]? = some l[j]!:=by rw [getElem!_pos l j hlj]; exact List.getElem?_eq_getElem hlj
   refine l_is 16 false rfl (decide_eq_false h1) ?_;refine l_autoS TY_ok rfl ?_;refine l_elem TY_ok rfl rfl rfl j rfl hy rfl rfl (rd_fact fun w h _=>h.2) ?_;refine l_autoS TY_ok rfl ?_;refine s_end (hK3 _ ?_)
   have hm : ((l[j]!.toNat : Int).tmod 3) = ((l[j]!.toNat % 3 : Nat) : Int):=by rw [Int.tmod_eq_emod_of_nonneg (by omega)]; rfl
   refine s_ifD (((l[j]!.toNat : Int).tmod 3) > 0) rfl (fun h2=>?_) (fun h2=>?_)
   ·have hkp : keepB l j = true:=by unfold keepB; rw [decide_eq_true (p:=0 < _) (by omega),Bool.or_true]
    refine s_lit ?_;refine l_autoS TY_ok rfl ?_;refine l_elem TY_ok rfl rfl rfl j rfl hx rfl rfl (rd_fact fun w h _=>h.1) ?_;refine l_push TY_ok 0 x rfl rfl rfl rfl rfl rfl rfl (hs x (List.mem_of_getElem? hx)) (by decide) (by decide) (by show (_ + 1) * 72 ≤ _; omega) (by omega) (Nat.le_refl _) fun B' d'=>?_;refine l_autoS TY_ok rfl ?_;refine s_end (hK2 _ ?_);refine s_autoE TY_ok rfl ?_
    have e1 : pickL all l (j + 1) = pickL all l j ++ [x]:=by rw [pickL_next,if_pos hkp,hx]; rfl
    rw [← e1];exact k_next (j + 1,B',d') (by show j + 1 ≤ _; omega) (by show _ - (j + 1) < _ - j; omega) ⟨⟨congrArg some (congrArg SV.v (congrArg (Value.int .i64) (wrapI rfl (by omega) (by omega)))),rfl,rfl,rfl,rfl,trivial⟩,trivial,.refl _,fun _ h _=>h,fun _ h=>h⟩
   ·have hkp : keepB l j = false:=by unfold keepB; rw [decide_eq_false (by omega),decide_eq_false (by omega)]; rfl
    refine s_skip (hno hkp _ ⟨⟨rfl,rfl,rfl,rfl,rfl,trivial⟩,trivial,.refl _,fun _ h _=>h,fun _ h=>h⟩)
 ·obtain rfl : j = all.length:=by omega
  refine s_exit (k_pass (k_pass (k_out ?_)));refine hK _ ?_;refine s_auto TY_ok rfl ?_;exact s_ret (k_freeM 0 rfl (Nat.le_refl _) (k_ret TY_ok (B,d) rfl (by decide) rfl rfl rfl (fun _ _ _=>trivial) (fun _ h=>h.1)))
end Go.Proofs.YtlcbhbahchiofaaDoor
/-
  CERTIFICATES: Make, said with one shape of its answers.
-/
namespace Go.Proofs.YtlcbhbahchiofaaDoor
open Go.RowKit Go.IntWalk Nums

def cvOf (o : Option CV) : CV:=o.getD cv0
def errOf : Option CV → Int
  | some _=>0
  | none=>80
theorem make_S2 (r : RgI) (ks : List (List UInt8)) {A A2 : Option Addr} {c c2 : Nat} {bd : List UInt8} (l : List Share) (t : UInt8) (hb : bd.length ≤ 140737488355312) :
  Spec 11 [ptr r.g,.int .u8 (t.toNat : Int),.slice A bd.length c,.slice A2 l.length c2] [RingM r.m ks] (fun w=>(RingF r ks w ∧ Ta w ∧ Rd 1 eB A c bd w) ∧ Rd 65 eSh A2 c2 l w)
   { ret:=fun i : CI=>.t [eC i (cvOf (makeC ks (msg t bd) bd l)),.c (.v (.int .i64 (errOf (makeC ks (msg t bd) bd l))))],own:=fun _=>[RingM r.m ks],n:=fun i=>CertF i (cvOf (makeC ks (msg t bd) bd l)) }:=fun w S X h1 h2 h3 =>
 (make_S r ks l t hb w S X h1 h2 h3).mono fun e w' h=>by
  cases ho : makeC ks (msg t bd) bd l with
  | none =>
   rw [ho] at h;obtain ⟨i,S',g1,g2,g3,g4,g5,g6,g7⟩:=h;exact ⟨ci0,S',g1,g2,g3,g4,g5,fun _ _=>trivial,fun w2 _=>certF0 w2⟩
  | some cv =>
   rw [ho] at h;obtain ⟨i,S',g1,g2,g3,g4,g5,g6,g7⟩:=h;exact ⟨i,S',g1,g2,g3,g4,g5,fun _ _=>trivial,g7.imp fun w2 h2=>h2 cv rfl⟩
end Go.Proofs.YtlcbhbahchiofaaDoor
/-
  MORE STEPS, over states: equality of bools, of rows of bytes, of strings; bytes as strings; xor, min, cuts.
-/
namespace Go.Proofs.YtlcbhbahchiofaaDoor
open Go.RowKit Go.IntWalk

section
variable {P : Program} {b : Base} {ops : Array Oper} {Q : Exit → Act → World → Prop} {N : Nat} {E : SE} {L : List LV} {R : List Res} {F M : World → Prop} {o : Oper} {rest : List Oper} {k : Nat}
theorem l_op (v : SV) (hv : v.Ok) (hg : o.guard = none) (hd : o.dst = some k) (hk : Nat.blt k N = true) (h : ∀ (G : Nat → Nat) (a : Act) (w : World),Fr N (denE G E) a → (execOp a.eval o).run P w = .ok (.value (v.den G)) w)
  (hn : lS P b ops Q N rest ⟨(k,v) :: E,L,R,F,M⟩) : lS P b ops Q N (o :: rest) ⟨E,L,R,F,M⟩:=fun a w ⟨G,S,h1,h2,h3⟩=>by
 refine wpl_go (oneS hg) (h G a w h1) ?_;rw [hd];exact hn _ w ⟨G,S,h1.put hk _,h2.cons hv,h3⟩
theorem l_opV (v : SV) (hv : v.Ok) (hg : o.guard = none) (hd : o.dst = some k) (hk : Nat.blt k N = true) (h : ∀ (G : Nat → Nat) (S : Nat → Prop) (a : Act) (w : World),Fr N (denE G E) a → View G S L R F M w → (execOp a.eval o).run P w = .ok (.value (v.den G)) w)
  (hn : lS P b ops Q N rest ⟨(k,v) :: E,L,R,F,M⟩) : lS P b ops Q N (o :: rest) ⟨E,L,R,F,M⟩:=fun a w ⟨G,S,h1,h2,h3⟩=>by
 refine wpl_go (oneS hg) (h G S a w h1 h3.view) ?_;rw [hd];exact hn _ w ⟨G,S,h1.put hk _,h2.cons hv,h3⟩
variable {T' : List Oper} {G : Nat → Nat} {S : Nat → Prop} {w0 : World} {grest : List (Nat × Oper)} {i : Nat}
theorem g_opS (v : SV) (hv : v.Ok) (hg : o.guard = none) (hd : o.dst = some k) (hk : Nat.blt k N = true) (h : ∀ (G : Nat → Nat) (a : Act) (w : World),Fr N (denE G E) a → (execOp a.eval o).run P w = .ok (.value (v.den G)) w)
  (hn : gS P b ops Q N T' G w0 grest ((k,v) :: E)) : gS P b ops Q N T' G w0 ((i,o) :: grest) E:=fun hE =>
 g_op rfl (fun a ha=>b_val (by simp [Region.wanted,hg]) (fun w _=>h G a w ha) (by
  rw [hd]
  exact g_go (o:=o) (hn (hE.cons hv)) _ (ha.put hk _)))
end
section
variable {N : Nat} {E : SE} {o : Oper} {x y : Operand} {t t' : TypeId}
theorem run_eqBool {u v : SV} {p q : Bool} (ho : o.op = .binOp .eql 4 x y t') (hx : evS E x = some u) (hy : evS E y = some v) (hu : ∀ G,u.den G = .bool p) (hv : ∀ G,v.den G = .bool q) : ∀ (G : Nat → Nat) (a : Act) (w : World),Fr N (denE G E) a → (execOp a.eval o).run Tryd.prog w = .ok (.value ((SV.b (p == q)).den G)) w:=fun G a w ha=>by
 have h1:=ha.eval (evS_ok hx);have h2:=ha.eval (evS_ok hy);rw [hu G] at h1;rw [hv G] at h2
 unfold execOp
 simp only [ho,h1,h2,SV.den,SQ.den,SC.den]
 cases p <;> cases q <;> go_simp
theorem run_neqY {n : Nat} {l m : List UInt8} (ho : o.op = .binOp .neq t x y t') (hx : evS E x = some (.q (eY n l))) (hy : evS E y = some (.q (eY n m))) (ht : Tryd.prog.underlying t = some (.array n 5)) (hg : Tryd.prog.eqGuardType Tryd.prog.depth t = false) (hl : l.length = n) (hm : m.length = n) :
  ∀ (G : Nat → Nat) (a : Act) (w : World),Fr N (denE G E) a → (execOp a.eval o).run Tryd.prog w = .ok (.value ((SV.b (!decide (l = m))).den G)) w:=fun G a w ha=>by
 have h1 : a.eval x = .agg (By l).toArray:=ha.eval (evS_ok hx);have h2 : a.eval y = .agg (By m).toArray:=ha.eval (evS_ok hy)
 unfold execOp
 simp only [ho,h1,h2,Sem.run_bind,run_eqGuard_agg (hm:=hg),Result.andThen_ok,binOp,Op.equal,Op.maxDepth,equalIn_bytes 9998 n t l m ht hl hm w,Sem.run_pure]
 rfl
abbrev vS (l : List UInt8) : SV:=.v (.string ⟨l.toArray⟩)
theorem run_neqS {l m : List UInt8} (ho : o.op = .binOp .neq 9 x y t') (hx : evS E x = some (vS l)) (hy : evS E y = some (vS m)) :
  ∀ (G : Nat → Nat) (a : Act) (w : World),Fr N (denE G E) a → (execOp a.eval o).run Tryd.prog w = .ok (.value ((SV.b (!decide (l = m))).den G)) w:=fun G a w ha=>by
 have h1 : a.eval x = .string ⟨l.toArray⟩:=ha.eval (evS_ok hx);have h2 : a.eval y = .string ⟨m.toArray⟩:=ha.eval (evS_ok hy)
 unfold execOp
 simp only [ho,h1,h2]
 by_cases e : l = m <;> go_simp <;> first | rfl | (rw [show (l == m) = false from by simpa using e]; rfl)
theorem run_xor {m n : Int} (ho : o.op = .binOp .xor 5 x y t') (hx : evS E x = some (.v (.int .u8 m))) (hy : evS E y = some (.v (.int .u8 n))) :
  ∀ (G : Nat → Nat) (a : Act) (w : World),Fr N (denE G E) a → (execOp a.eval o).run Tryd.prog w = .ok (.value ((SV.v (.int .u8 (bits .xor .u8 m n))).den G)) w:=fun G a w ha=>by
 have h1 : a.eval x = .int .u8 m:=ha.eval (evS_ok hx);have h2 : a.eval y = .int .u8 n:=ha.eval (evS_ok hy)
 unfold execOp
 simp only [ho,h1,h2]
 go_simp
 rfl
theorem run_min {p q : Nat} (ho : o.op = .call { callee:=.builtin .min,args:=#[x,y],argTypes:=#[3,3] }) (hx : evS E x = some (.v (.int .i64 (p : Int)))) (hy : evS E y = some (.v (.int .i64 (q : Int)))) :
  ∀ (G : Nat → Nat) (a : Act) (w : World),Fr N (denE G E) a → (execOp a.eval o).run Tryd.prog w = .ok (.value ((SV.v (.int .i64 ((min p q : Nat) : Int))).den G)) w:=fun G a w ha=>by
 have h1 : a.eval x = .int .i64 (p : Int):=ha.eval (evS_ok hx);have h2 : a.eval y = .int .i64 (q : Int):=ha.eval (evS_ok hy)
 unfold execOp
 simp only [ho];generalize a.eval = ρ at *
 show _ = Result.ok (Next.value (.int .i64 ((min p q : Nat) : Int))) w
 go_simp
 split <;> omega
theorem run_sizeOf {P : Program} {e : TypeId} {k : Nat} (he : (P.info? e).map (·.size) = some k) (w : World) : (sizeOf e).run P w = .ok k w:=by
 cases hq : P.info? e with
 | none=>simp [hq] at he
 | some ie =>
  have hs : ie.size = k:=by simpa [hq] using he
  simp [sizeOf,typeInfo,hq,hs]
theorem run_cutHi {A : Option Addr} {n c j sz : Nat} {e : TypeId} (he : (Tryd.prog.info? e).map (·.size) = some sz) (hj : j ≤ c) (hA : A = none → c = 0) (ho : o.op = .slice t x none (some y) none) (hu : Tryd.prog.underlying t = some (.slice e)) (hx : evS E x = some (.v (.slice A n c))) (hy : evS E y = some (.v (.int .i64 (j : Int)))) :
  ∀ (G : Nat → Nat) (a : Act) (w : World),Fr N (denE G E) a → (execOp a.eval o).run Tryd.prog w = .ok (.value ((SV.v (.slice A j c)).den G)) w:=fun G a w ha=>by
 have h1 : a.eval x = .slice A n c:=ha.eval (evS_ok hx);have h2 : a.eval y = .int .i64 (j : Int):=ha.eval (evS_ok hy)
 have h3 : (j : Int) ≤ (c : Int):=by omega
 have h4 : (0 : Int) ≤ (j : Int):=by omega
 have h5:=run_sizeOf he w
 unfold execOp
 simp only [ho];generalize a.eval = ρ at *;simp only [Option.map,h1,h2]
 show _ = Result.ok (Next.value (.slice A j c)) w
 cases A with
 | none =>
  have:=hA rfl;obtain rfl : c = 0:=this
  obtain rfl : j = 0:=by omega
  go_simp
 | some ad=>go_simp
end
section
variable {b : Base} {ops : Array Oper} {Q : Exit → Act → World → Prop} {N : Nat} {E : SE} {L : List LV} {R : List Res} {F M : World → Prop} {o : Oper} {rest : List Oper} {k : Nat}
theorem l_strB {x : Operand} {A : Option Addr} {c : Nat} (l : List UInt8) (hg : o.guard = none) (hd : o.dst = some k) (hk : Nat.blt k N = true) (ho : o.op = .convert 22 9 x) (hx : evS E x = some (.v (.slice A l.length c)))
  (h : ∀ G S w,View G S L R F M w → Rd 1 eB A c l w) (hn : lS Tryd.prog b ops Q N rest ⟨(k,vS l) :: E,L,R,F,M⟩) : lS Tryd.prog b ops Q N (o :: rest) ⟨E,L,R,F,M⟩ :=
 l_f (vS l) trivial (fun G S w C0 Q' hv h0 hQ=>f_strB (.slice A l.length c) l hg hd hk ho (evS_ok hx) (fun w' hw'=>by rw [h0 w' hw']; exact (h G S w hv).sb) hQ) (by rw [ho]; rfl) hn
end
end Go.Proofs.YtlcbhbahchiofaaDoor
/-
  FROM A CONTRACT TO A LAW'S ROW.
-/
namespace Go.Proofs.YtlcbhbahchiofaaDoor
open Go.RowKit Go.IntWalk

theorem spec_law {f : FuncId} {args : List Value} {F : World → Prop} [Pst F] (h : Spec f args [] F (one (.v (.bool true)))) {W : World} (hF : F W) : Calls Tryd.prog f args.toArray W fun e W'=>e = .returned (.bool true) ∧ Below W.heap.size W W' :=
 (h W (fun _=>False) (fun _=>False) (fun _ h=>h) (fun _ h=>h.elim) (Stb.of_pst hF fun _ _ h=>h.elim id id)).mono fun _ _ ⟨_,_,h1,_,h2,_⟩=>⟨h1,h2.up fun _ _ h=>h⟩
theorem Rd.of_sl {A : Option Addr} {c : Nat} {l : List UInt8} {W : World} (h : SL W 0 W.heap.size A l c) : Rd 1 eB A c l W:=(Rd.of_sb ⟨A,c,rfl,h⟩).2
end Go.Proofs.YtlcbhbahchiofaaDoor
/-
  CELLS WITHIN ROWS, over states: a byte of a variable's row, a byte of a row in a slice of one's own; a slice appended to one's own.
-/
namespace Go.Proofs.YtlcbhbahchiofaaDoor
open Go.RowKit Go.IntWalk

theorem run_ixArr {P : Program} {t e : TypeId} {n sz : Nat} (ht : P.underlying t = some (.array n e)) (he : (P.info? e).map (·.size) = some sz) (g o : Nat) (K : IntKind) (i : Nat) (hi : i < n) (w : World) :
  (Instr.indexAt t (.pointer (some ⟨g,o,none⟩)) (.int K (i : Int))).run P w = .ok (.pointer (some ⟨g,o + sz * i,none⟩)) w:=by
 cases hq : P.info? e with
 | none=>simp [hq] at he
 | some ie =>
  have hs : ie.size = sz:=by simpa [hq] using he
  have h1 : (i : Int) < (n : Int):=by omega
  have h2 : (0 : Int) ≤ (i : Int):=by omega
  simp [Instr.indexAt,asIntOf,Instr.sureAddr,run_underlying ht,sizeOf,typeInfo,hq,hs,Addr.add_mid,Nat.mul_comm,hi]
section
variable {P : Program} {T : List TyR} {b : Base} {ops : Array Oper} {Q : Exit → Act → World → Prop} {N : Nat} {E : SE} {L : List LV} {R : List Res} {F M : World → Prop} {o : Oper} {rest : List Oper} {k : Nat} {t e : TypeId} {x y z : Operand} {K : IntKind} {j off n sz g : Nat}
theorem runO_ixA (i : Nat) (ho : o.op = .indexAddr t x y) (ht : P.underlying t = some (.array n e)) (he : (P.info? e).map (·.size) = some sz) (hx : evS E x = some (.a j off)) (hy : evS E y = some (.v (.int K (i : Int)))) (hi : i < n) :
  ∀ (G : Nat → Nat) (a : Act) (w : World),Fr N (denE G E) a → (execOp a.eval o).run P w = .ok (.value ((SV.a j (off + sz * i)).den G)) w:=fun G a w ha=>by
 have e1:=ha.eval (evS_ok hx);have e2:=ha.eval (evS_ok hy)
 unfold execOp
 simp only [ho,e1,e2,SV.den,SQ.den,SC.den,Sem.run_bind,run_ixArr ht he _ _ _ _ hi,Result.andThen_ok,Sem.run_pure]
theorem runO_ixP (i : Nat) (ho : o.op = .indexAddr t x y) (ht : P.underlying t = some (.array n e)) (he : (P.info? e).map (·.size) = some sz) (hx : evS E x = some (.v (.pointer (some ⟨g,off,none⟩)))) (hy : evS E y = some (.v (.int K (i : Int)))) (hi : i < n) :
  ∀ (G : Nat → Nat) (a : Act) (w : World),Fr N (denE G E) a → (execOp a.eval o).run P w = .ok (.value ((SV.v (.pointer (some ⟨g,off + sz * i,none⟩))).den G)) w:=fun G a w ha=>by
 have e1:=ha.eval (evS_ok hx);have e2:=ha.eval (evS_ok hy)
 unfold execOp
 simp only [ho,e1,e2,SV.den,SQ.den,SC.den,Sem.run_bind,run_ixArr ht he _ _ _ _ hi,Result.andThen_ok,Sem.run_pure]
theorem runO_ixS {c : Nat} (i : Nat) (ho : o.op = .indexAddr t x y) (ht : P.underlying t = some (.slice e)) (he : (P.info? e).map (·.size) = some sz) (hx : evS E x = some (.v (.slice (some ⟨g,off,none⟩) n c))) (hy : evS E y = some (.v (.int K (i : Int)))) (hi : i < n) :
  ∀ (G : Nat → Nat) (a : Act) (w : World),Fr N (denE G E) a → (execOp a.eval o).run P w = .ok (.value ((SV.v (.pointer (some ⟨g,off + sz * i,none⟩))).den G)) w:=fun G a w ha=>by
 have e1:=ha.eval (evS_ok hx);have e2:=ha.eval (evS_ok hy)
 unfold execOp
 simp only [ho,e1,e2,SV.den,SQ.den,SC.den,Sem.run_bind,run_index ht he _ _ _ _ _ _ hi,Result.andThen_ok,Sem.run_pure]
theorem runO_ldA {d : TypeDesc} {ps : List Pt} (v : Value) (ho : o.op = .load t x) (hx : evS E x = some (.a j off)) (hl : lookL L j = some ps) (hv : (catP ps)[off]? = some v) (hu : P.underlying t = some d) (hr : d.isRow = false) :
  ∀ (G : Nat → Nat) (S : Nat → Prop) (a : Act) (w : World),Fr N (denE G E) a → View G S L R F M w → (execOp a.eval o).run P w = .ok (.value ((SV.v v).den G)) w:=fun G S a w ha hvw=>by
 obtain ⟨z,hz,rfl,rfl⟩:=lookL_mem hl;have hb:=(hvw.var z hz).1
 have hc : w.cell? ⟨G z.j,off,none⟩ = some v:=by rw [hb.cell]; exact hv
 have e1:=ha.eval (evS_ok hx)
 unfold execOp
 simp only [ho,e1,SV.den,SQ.den,SC.den,run_load_cell hu hr hc,Sem.run_bind,Sem.run_pure,Result.andThen_ok]
theorem l_stA {ps : List Pt} {v : Value} (ps' : List Pt) (hg : o.guard = none) (hd : o.dst = none) (ho : o.op = .store t x z) (hx : evS E x = some (.a j off)) (hz : evS E z = some (.v v)) (hl : lookL L j = some ps) (ht : (P.info? t).map (·.size) = some 1) (h1 : v.cells = #[v]) (h2 : v.oneCell' = true) (hlt : off < (catP ps).size) (hp : OkP ps')
  (hs : (catP ps').toList = (catP ps).toList.set off v) (hn : lS P b ops Q N rest ⟨E,putL L j ps',R,F,M⟩) : lS P b ops Q N (o :: rest) ⟨E,L,R,F,M⟩:=fun a w ⟨G,S,f1,f2,f3⟩=>by
 obtain ⟨u,hu,rfl,rfl⟩:=lookL_mem hl;have e1:=f1.eval (evS_ok hx);have e2:=f1.eval (evS_ok hz);have hst:=run_store_part (P:=P) (t:=t) (v:=v) (off:=off) (f3.at u hu) (by rw [ht,h1]; rfl) (by rw [h1]; exact hlt) (by rw [h1]; intro u hu; simp at hu; subst hu; exact h2)
 have e3 : ((catP u.ps).toList.take off ++ v.cells.toList ++ (catP u.ps).toList.drop (off + v.cells.size)).toArray = catP ps':=by
  apply Array.ext'
  rw [hs,List.set_eq_take_append_cons_drop,if_pos (by simpa using hlt),h1]
  simp
 rw [e3] at hst
 refine wpl_skip (w':=w.setRow (G u.j) (catP ps')) (oneS hg) (by
  unfold execOp
  simp only [ho,e1,e2,SV.den,SQ.den,SC.den,hst,Sem.run_bind,Sem.run_pure,Result.andThen_ok]) ?_
 rw [hd];exact hn _ _ ⟨G,S,f1,f2,f3.set (lookL_name hl) hp⟩
end
section
variable {α : Type} {fe : α → SQ} {l : List α} {P : Program} {T : List TyR} {b : Base} {ops : Array Oper} {Q : Exit → Act → World → Prop} {N : Nat} {E : SE} {L : List LV} {R : List Res} {F M : World → Prop} {o : Oper} {rest : List Oper} {k : Nat} {t e : TypeId} {x y z : Operand} {A : Option Addr} {lo c sz bs g m : Nat}
theorem OwnS.cell {w : World} {S : Nat → Prop} (h : (OwnS lo e sz fe (some ⟨g,0,none⟩) c l).holds w S) {v : Value} (hv : (flatF fe l)[m]? = some v) : w.cell? ⟨g,m,none⟩ = some v:=by
 obtain ⟨h1,h2,_⟩:=h
 rcases h2.2 with ⟨h4,_⟩ | ⟨g',cap,cur,hv',_,hg,_,_,_,ht⟩
 ·injection h4 with h6
  cases h6
 ·injection hv' with h6
  injection h6 with h6
  injection h6 with h6
  subst h6;have hB : Blk w g e cur:=hg;rw [hB.cell];rw [← ht,List.getElem?_take] at hv
  split at hv
  ·simpa using hv
  ·cases hv
theorem runO_ldC {d : TypeDesc} (i : Nat) (v : Value) (hi : R[i]? = some (OwnS lo e sz fe (some ⟨g,0,none⟩) c l)) (ho : o.op = .load t x) (hx : evS E x = some (.v (.pointer (some ⟨g,m,none⟩)))) (hv : (flatF fe l)[m]? = some v) (hu : P.underlying t = some d) (hr : d.isRow = false) :
  ∀ (G : Nat → Nat) (S : Nat → Prop) (a : Act) (w : World),Fr N (denE G E) a → View G S L R F M w → (execOp a.eval o).run P w = .ok (.value ((SV.v v).den G)) w:=fun G S a w ha hvw=>by
 obtain ⟨S1,_,h1,_⟩:=hvw.res.at hi;have e1:=ha.eval (evS_ok hx)
 unfold execOp
 simp only [ho,e1,SV.den,SQ.den,SC.den,run_load_cell hu hr (OwnS.cell h1 hv),Sem.run_bind,Sem.run_pure,Result.andThen_ok]
theorem l_stC {v : Value} (i : Nat) (l' : List α) (hi : R[i]? = some (OwnS lo e sz fe (some ⟨g,0,none⟩) c l)) (hg : o.guard = none) (hd : o.dst = none) (ho : o.op = .store t x z) (hx : evS E x = some (.v (.pointer (some ⟨g,m,none⟩)))) (hz : evS E z = some (.v v)) (ht : (P.info? t).map (·.size) = some 1) (h1 : v.cells = #[v]) (h2 : v.oneCell' = true)
  (hm : m < (flatF fe l).length) (hl : l'.length = l.length) (hok : OkF sz fe l') (hf : flatF fe l' = (flatF fe l).set m v)
  (hc : lS P b ops Q N rest ⟨E,L,R.set i (OwnS lo e sz fe (some ⟨g,0,none⟩) c l'),F,M⟩) : lS P b ops Q N (o :: rest) ⟨E,L,R,F,M⟩:=fun a w ⟨G,S,f1,f2,f3⟩=>by
 obtain ⟨S1,⟨hokl,hrow,hS1⟩,hput⟩:=f3.put hi
 rcases hrow.2 with ⟨h6,h7⟩ | ⟨g',cap,cur,hv,hb,hg',hnc,hmx,hcs,htk⟩
 ·injection h6 with h6
  cases h6
 injection hv with v1 _ v2
 injection v1 with v1
 injection v1 with v1
 subst v1;have hB : Blk w g e cur:=hg';have e1:=f1.eval (evS_ok hx);have e2:=f1.eval (evS_ok hz)
 have hmc : m < cur.size:=by
  rw [← htk,List.length_take] at hm;have : cur.toList.length = cur.size:=Array.length_toList
  omega
 have hst:=run_store_part (P:=P) (t:=t) (v:=v) (off:=m) hB (by rw [ht,h1]; rfl) (by rw [h1]; exact hmc) (by rw [h1]; intro u hu; simp at hu; subst hu; exact h2)
 have e3 : (cur.toList.take m ++ v.cells.toList ++ cur.toList.drop (m + v.cells.size)) = cur.toList.set m v:=by
  rw [List.set_eq_take_append_cons_drop,if_pos (by simpa using hmc),h1]
  simp
 rw [e3] at hst;have hB':=hB.row (cur.toList.set m v).toArray
 obtain ⟨S'',h12⟩:=hput (OwnS lo e sz fe (some ⟨g,0,none⟩) c l') (w.setRow g (cur.toList.set m v).toArray) S1 ((Chg.row w g _).mono fun k _ hk=>(hS1 k).2 (by rw [hk]; rfl))
  ⟨hok,⟨by rw [flatF_len hok,hl],.inr ⟨g,cap,_,by rw [hl,v2],hb,hB',by rw [hl]; exact hnc,hmx,by simpa using hcs,by
   rw [hl,hf,← htk]
   show List.take _ (cur.toList.set m v) = _
   rw [List.take_set]⟩⟩,hS1⟩ (fun k hk _=>hk)
 refine wpl_skip (w':=w.setRow g (cur.toList.set m v).toArray) (oneS hg) (by
  unfold execOp
  simp only [ho,e1,e2,SV.den,SQ.den,SC.den,hst,Sem.run_bind,Sem.run_pure,Result.andThen_ok]) ?_
 rw [hd];exact hc _ _ ⟨G,S'',f1,f2,h12⟩
theorem l_list0 (lo : Nat) (fe : α → SQ) (hg : o.guard = none) (hd : o.dst = some k) (hk : Nat.blt k N = true) (ho : o.op = .buildSlice t 0 #[]) (hlo : lo ≤ b.B.heap.size)
  (hr : ∀ w : World,(Instr.buildSlice t 0 #[]).run P w = .ok (.slice (some ⟨w.heap.size,0,none⟩) 0 0) (w.alloc (.cells #[] e)))
  (hc : ∀ A,lS P b ops Q N rest ⟨(k,.v (.slice A 0 0)) :: E,L,OwnS lo e sz fe A 0 [] :: R,F,M⟩) : lS P b ops Q N (o :: rest) ⟨E,L,R,F,M⟩:=fun a w ⟨G,S,h1,h2,h3⟩=>by
 refine wpl_go (v:=.slice (some ⟨w.heap.size,0,none⟩) 0 0) (w':=w.alloc (.cells #[] e)) (oneS hg) (by
  unfold execOp
  simp only [ho,List.map_toArray,List.map_nil,Sem.run_bind,hr,Result.andThen_ok,Sem.run_pure]) ?_
 rw [hd];obtain ⟨S',h4⟩:=h3.gain ((Below.refl w.heap.size w).alloc (Nat.le_refl _) (.cells #[] e)) (OwnS.new (lo:=lo) (e:=e) (k:=sz) (fe:=fe) (l:=[]) w (Nat.le_trans hlo h3.chg.size) (fun _ h=>(by cases h)) (Nat.zero_le _)) (fun j hj=>Nat.le_of_eq hj.symm);exact hc _ _ _ ⟨G,S',h1.put hk _,h2.cons trivial,h4⟩
theorem l_appY {A2 : Option Addr} {n c2 : Nat} (hT : OkT P T) (i : Nat) (m : List α) (hg : o.guard = none) (hd : o.dst = some k) (hk : Nat.blt k N = true) (ho : o.op = .call { callee:=.builtin .append,args:=#[x,y],argTypes:=#[t,t] }) (hs : slS T t = some (e,sz,bs)) (hx : evS E x = some (.v (.slice A n c))) (hy : evS E y = some (.v (.slice A2 m.length c2)))
  (hi : R[i]? = some (OwnS lo e sz fe A c l)) (hn : n = l.length) (hrd : ∀ G S w,View G S L R F M w → Rd sz fe A2 c2 m w) (h0 : 0 < sz) (hb : (l.length + m.length) * bs ≤ 140737488355328) (hm : l.length + m.length ≤ 9223372036854775807 - 64) (hlo : lo ≤ b.B.heap.size)
  (hc : ∀ A' c',lS P b ops Q N rest ⟨(k,.v (.slice A' (l ++ m).length c')) :: E,L,R.set i (OwnS lo e sz fe A' c' (l ++ m)),F,M⟩) : lS P b ops Q N (o :: rest) ⟨E,L,R,F,M⟩:=fun a w ⟨G,S,f1,f2,f3⟩=>by
 have hR:=hrd G S w f3.view;obtain ⟨S1,h5,hput⟩:=f3.put hi;have e1:=f1.eval (evS_ok hx);have e2:=f1.eval (evS_ok hy);subst hn
 have key : ∃ A' c' w' S',(Builtin.append_ #[t,t] o.type #[.slice A l.length c,.slice A2 m.length c2]).run P w = .ok (.slice A' (l ++ m).length c') w' ∧ Chg S1 w w' ∧ (OwnS lo e sz fe A' c' (l ++ m)).holds w' S' ∧ ∀ k,S' k → k < w.heap.size → S1 k:=by
  cases hA2 : A2 with
  | none =>
   have hc2:=hR.2.2.1 hA2;have hml : m = []:=List.eq_nil_of_length_eq_zero (by have:=hR.1; omega);subst hml;subst hc2;obtain ⟨ht,ie,zz,hie,hz,hsz,hbs,hzs,_⟩:=slS_ok hT hs;have hr:=run_append_owned_none (P:=P) w lo t o.type e ie sz ht hie _ l.length (flatF fe l) h5.2.1;refine ⟨A,c,w,S1,by rw [List.append_nil]; exact hr,Chg.refl _ _,by rw [List.append_nil]; exact h5,fun _ h _=>h⟩
  | some ad =>
   refine OwnS.grow hT (d:=c2) (ad:=ad) o.type hs h0 h5 hR.2.2.2.1 (fun j v hj=>?_) hb hm (Nat.le_trans hlo f3.chg.size);have hlen:=flatF_len hR.2.2.2.1;have hjl:=(List.getElem?_eq_some_iff.1 hj).1
   have hml : 0 < m.length:=by
    rcases Nat.eq_zero_or_pos m.length with h | h
    ·rw [hlen,h,Nat.zero_mul] at hjl
     omega
    ·exact h
   obtain ⟨bb,oo,e,_,hcell⟩:=hR.2.2.2.2 hml;rw [hA2] at e
   injection e with e
   subst e
   have hq : j / sz < m.length:=by
    rw [hlen] at hjl;exact Nat.div_lt_of_lt_mul (by rwa [Nat.mul_comm] at hjl)
   obtain ⟨B,Z,h9,h10,_⟩:=flatF_split hR.2.2.2.1 (List.getElem?_eq_getElem hq);have hmod:=Nat.div_add_mod j sz;have hlt:=Nat.mod_lt j h0;have hcl:=(hR.2.2.2.1 _ (List.getElem_mem hq)).2
   have hv : (fe m[j / sz]).cl[j % sz]? = some v:=by
    rw [h9,List.getElem?_append_right (by omega),h10,List.getElem?_append_left (by omega)] at hj
    rwa [show j - sz * (j / sz) = j % sz by omega] at hj
   have:=hcell (j / sz) _ (List.getElem?_eq_getElem hq) (j % sz) v hv;rw [Addr.add_mid]
   rwa [Nat.add_assoc,hmod] at this
 obtain ⟨A',c',w',S',hr,hch,ho',hS'⟩:=key;obtain ⟨S'',h6⟩:=hput _ _ _ hch ho' hS'
 refine wpl_go (v:=.slice A' (l ++ m).length c') (w':=w') (oneS hg) (by
  unfold execOp
  simp only [ho,resolve,invoke,builtin,Sem.run_bind,Sem.run_pure,Result.andThen_ok,List.map_toArray,List.map_cons,List.map_nil,e1,e2,SV.den,SQ.den,SC.den,hr]) ?_
 rw [hd];exact hc A' c' _ _ ⟨G,S'',f1.put hk _,f2.cons trivial,h6⟩
end
section
variable {α : Type} {P : Program} {T : List TyR} {b : Base} {ops : Array Oper} {Q : Exit → Act → World → Prop} {N : Nat} {E : SE} {L : List LV} {R : List Res} {F M : World → Prop} {T' : List Oper} {G : Nat → Nat} {S : Nat → Prop} {w0 : World} {rest : List (Nat × Oper)} {o : Oper} {i k sz bs : Nat} {t e : TypeId} {z : Operand}
theorem g_opV (hst : StW b G S L R F M w0) (v : SV) (hv : v.Ok) (hg : o.guard = none) (hd : o.dst = some k) (hk : Nat.blt k N = true) (h : ∀ (G : Nat → Nat) (S : Nat → Prop) (a : Act) (w : World),Fr N (denE G E) a → View G S L R F M w → (execOp a.eval o).run P w = .ok (.value (v.den G)) w)
  (hn : gS P b ops Q N T' G w0 rest ((k,v) :: E)) : gS P b ops Q N T' G w0 ((i,o) :: rest) E:=fun hE =>
 g_op rfl (fun a ha=>b_val (by simp [Region.wanted,hg]) (fun w hw=>h G S a w ha (hst.later hw.1).view) (by
  rw [hd]
  exact g_go (o:=o) (hn (hE.cons hv)) _ (ha.put hk _)))
theorem g_list1 {q : SQ} (hT : OkT P T) (hst : StW b G S L R F M w0) (fe : α → SQ) (x : α) (hg : o.guard = none) (hd : o.dst = some k) (hk : Nat.blt k N = true) (ho : o.op = .buildSlice t 1 #[(0,z)]) (hs : slS T t = some (e,sz,bs)) (hz : evS E z = some (.q q)) (hq : fe x = q) (hx : OkP (fe x).parts1 ∧ (fe x).cl.length = sz) (h0 : 0 < sz) (h24 : sz ≤ 16777216)
  (hn : ∀ g,lS P b ops Q N T' ⟨(k,.v (.slice (some ⟨g,0,none⟩) 1 1)) :: E,L,R,F,fun w=>Rd sz fe (some ⟨g,0,none⟩) 1 [x] w ∧ M w⟩) : gS P b ops Q N T' G w0 [(i,o)] E:=fun hE=>by
 have hok : OkF sz fe [x]:=fun y hy=>by rw [List.mem_singleton.1 hy]; exact hx
 refine g_mem (fun v w=>∃ g,v = .slice (some ⟨g,0,none⟩) 1 1 ∧ w0.heap.size ≤ g ∧ Rd sz fe (some ⟨g,0,none⟩) 1 [x] w) hg hd hk rfl (by rw [ho]; rfl) (fun v w w' ⟨g,h1,h2,h3⟩ hb=>⟨g,h1,h2,h3.later hb⟩) (fun a ha w hw _=>?_) fun v w hw hV=>?_
 ·obtain ⟨ht,ie,zz,hie,hz',hsz,hbs,hzs,_⟩:=slS_ok hT hs
  have e1:=ha.eval (evS_ok hz)
  have hr:=run_lit (P:=P) ht hie hz' hsz [(fe x).den] 1 #[(0,a.eval z)] (by rw [e1,← hq]; rfl) rfl (by omega) (by omega) (fun v hv=>by
   rw [List.mem_singleton.1 hv];have:=hx.2
   rwa [SQ.cl,Array.length_toList] at this) w
  have e2 : ([(fe x).den].flatMap fun v=>v.cells.toList) = flatF fe [x]:=by simp [flatF,SQ.cl]
  rw [e2] at hr
  unfold execOp
  simp only [ho,List.map_toArray,List.map_cons,List.map_nil,Sem.run_bind,hr,Result.andThen_ok,Sem.run_pure];exact ⟨(Below.refl w.heap.size w).alloc (Nat.le_refl _) _,w.heap.size,rfl,hw.size,OwnS.rd (OwnS.new (lo:=0) (e:=e) w (Nat.zero_le _) hok (by simp))⟩
 ·obtain ⟨g,rfl,hge,_⟩:=hV
  refine g_end fun w1 hw1 hf a ha=>?_;have h1:=hf i _ (show lookP [(i,_)] i = some _ by unfold lookP; rw [Nat.beq_refl]);obtain ⟨g',e1,_,h3⟩:=h1
  injection e1 with e1
  injection e1 with e1
  injection e1 with e1
  subst e1;have h5:=hst.later hw1;refine hn g a w1 ⟨G,S,ha,hE.cons trivial,h5.andM fun w2 hw2=>h3.keep hw2.size fun g0 e hlt=>hw2.block g0 hlt fun hx=>?_⟩;simp only [Option.map_some,Option.some.injEq] at e;subst e
  rcases hx with hx | hx
  ·exact Nat.lt_irrefl _ (Nat.lt_of_lt_of_le hx (Nat.le_trans hst.chg.size hge))
  ·exact Nat.lt_irrefl _ (Nat.lt_of_lt_of_le (hst.lt _ hx) hge)
end
theorem flat_setY {n : Nat} {l : List (List UInt8)} {i j : Nat} {s : List UInt8} (h : OkF n (eY n) l) (hi : l[i]? = some s) (hj : j < s.length) (v : UInt8) :
  (flatF (eY n) l)[n * i + j]? = some (.int .u8 (s[j].toNat : Int)) ∧ flatF (eY n) (l.set i (s.set j v)) = (flatF (eY n) l).set (n * i + j) (.int .u8 (v.toNat : Int)):=by
 obtain ⟨B,Z,h9,h10,h11⟩:=flatF_split h hi;have hcl : ∀ s : List UInt8,(eY n s).cl = By s:=fun s=>rfl;rw [h11,h9,hcl,hcl];have hbl : (By s).length = s.length:=By_len s
 constructor
 ·rw [List.getElem?_append_right (by omega),h10,Nat.add_sub_cancel_left,List.getElem?_append_left (by omega)]
  have:=By_at? hj
  rwa [getElem!_pos s j hj] at this
 ·rw [List.set_append_right _ _ (by omega),h10,Nat.add_sub_cancel_left,List.set_append_left _ _ (by omega)]
  congr 2
  exact List.map_set
end Go.Proofs.YtlcbhbahchiofaaDoor
