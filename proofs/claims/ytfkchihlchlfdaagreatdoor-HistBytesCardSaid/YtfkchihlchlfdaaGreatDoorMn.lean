import Derived.Test.YtfkchihlchlfdaaGreatDoorMm
import Derived.Deep.RegionHeld3
import Derived.Laws.CopyOwn
import Derived.Test.YtfkchihlchlfdaaGreatDoorMb
import Derived.Test.YtfkchihlchlfdaaGreatDoorMe
import Derived.Test.YtfkchihlchlfdaaGreatDoorMg
import Derived.Test.YtfkchihlchlfdaaGreatDoorMl
set_option maxRecDepth 100000
set_option maxHeartbeats 4000000
open Array renaming toList_map->sW
open Bool renaming and_eq_true->aW
open Go.Addr renaming add_mid->iS
open Go.Instr renaming sureAddr->rL
open Go.IntKind renaming wrap_u64->aP,wrap_u32->bQ
open Go.Lib renaming hid->aL
open Go.Next renaming value->z9
open Go.Region renaming wanted->aN,ready->bC,binds->eN,noSelect_spec->nM,free_spec->wY
open Go.Result renaming andThen_ok->aF,ok->Bo
open Go.Sem renaming run_bind->aJ,run_pure->aK
open Iff renaming rfl->wZ
open List renaming replicate->aE,length_append->aI,size_toArray->a9,length_replicate->bH,mem_singleton->bK,mem_cons_of_mem->bL,mem_cons->b7,mem_cons_self->cB,length_cons->cC,all_eq_true->cL,length_drop->fW,mem_map->gP,mem_append->mN,length_map->xM
open Nat renaming le_refl->aH,blt->aQ,lt_of_lt_of_le->bM,zero_le->bZ,min_eq_left->cW,mod_lt->eJ,lt_irrefl->jW
open Option renaming map_some->eZ
open Option.some renaming injEq->bG,inj->fV
namespace Go.Proofs.YtfkchihlchlfdaaGreatDoor
open Go.RowKit Go.IntWalk
section
variable {P : Program} {T : List TyR} {b : iI} {ops : Array Oper} {Q : Exit -> Act -> World -> Prop} {N : Nat} {E E' : SE} {L : List LV} {R : List Res} {F M : World -> Prop} {o : Oper} {rest : List Oper} {k : Nat} {t ty : TypeId} {x z : Operand} {off g : Nat} {ps ps' : List Pt} {q : SQ}
theorem Et (hT : OkT P T) (i : Nat) (hi : R[i]? = some (DJ g ty ps)) (hg : o.guard = none) (hd : o.dst = none) (ho : o.op = .store t x z) (hx : evS E x = some (.v (.pointer (some ⟨g,off,none⟩)))) (hz : evS E z = some (.q q)) (hs : ET T ps t off q = some ps')
  (hn : lS P b ops Q N rest ⟨E,L,R.set i (DJ g ty ps'),F,M⟩) : lS P b ops Q N (o :: rest) ⟨E,L,R,F,M⟩:=λa w ⟨G,S,f1,f2,f3⟩=>by
 obtain ⟨S1,⟨⟨hb,hok⟩,hS1⟩,hput⟩:=f3.put hi;have e1 : a.eval x = .pointer (some ⟨g,off,none⟩):=f1.eval (cU hx);have e2 : a.eval z = q.den:=f1.eval (cU hz);obtain ⟨h3,h4⟩:=DY hT hok (f2.ev hz) hs;obtain ⟨S'',h6⟩:=hput (DJ g ty ps') (w.setRow g (eI ps')) S1 ((Chg.row w g _).mono λk _ hk=>(hS1 k).2 hk) ⟨⟨hb.row _,h3⟩,hS1⟩ (λk hk _=>hk)
 refine BZ (w':=w.setRow g (eI ps')) (DB hg) (by
  unfold execOp
  simp only [ho,e1,e2,h4 hb,aJ,aK,aF]) ?_
 rw [hd];exact hn _ _ ⟨G,S'',f1,f2,h6⟩
theorem StW.YH {G : Nat -> Nat} {S : Nat -> Prop} {y : LV} {w : World} (h : StW b G S (y :: L) R F M w) : StW b G (λk=>k = G y.j \/ S k) L (DJ (G y.j) y.t y.ps :: R) F M w:=by
 have hM : ∀ k,rW (λk=>k = G y.j \/ S k) G L k -> rW S G (y :: L) k:=λk hk=>by
  rcases hk with (rfl | hk) | ⟨j,hj,rfl⟩
  ·exact .inr ⟨y.j,cB,rfl⟩
  ·exact .inl hk
  ·exact .inr ⟨j,bL _ hj,rfl⟩
 have hy:=h.var y cB;have hap:=List.pairwise_cons.1 (show (y.j :: fF L).Pairwise λi j=>G i ≠ G j from h.apart);refine ⟨λx hx=>h.var x (bL _ hx),hap.2,⟨λk=>k = G y.j,S,⟨⟨hy.1,hy.2.1⟩,λ_=>wZ⟩,h.res,λ_=>wZ,λk hk hs=>h.sep y.j cB (by rw [<-hk]; exact hs)⟩,λj hj hs=>?_,h.fact.less λk _ hk=>hk.imp id (hM k),h.fresh.less λk _ hk=>hk.imp id (hM k),h.chg,λk hk=>h.mine k (hM k hk),h.old⟩
 rcases hs with hs | hs
 ·exact hap.1 j hj hs.symm
 ·exact h.sep j (bL _ hj) hs
theorem Ay {K : Act -> World -> Prop} {y : LV} (i : Nat) (hx : iU E i = some (.a y.j 0)) (hs : FY E' E) (h : ∀ g,kS b K N ⟨(i,.v (.pointer (some ⟨g,0,none⟩))) :: E',L,DJ g y.t y.ps :: R,F,M⟩) : kS b K N ⟨E,y :: L,R,F,M⟩:=λa w ⟨G,S,h1,h2,h3⟩=>by
 refine h (G y.j) a w ⟨G,_,?_,(hs.ok h2).cons trivial,h3.YH⟩;exact (h1.sub (zP hs)).more (h1.get i _ (by rw [iK,hx]; rfl))
end
def C9 (A : Option Addr) (c n : Nat) : Option Addr:=if c = n then A else A.map (·.add n)
theorem Rd.part {A : Option Addr} {c n : Nat} {l : List UInt8} {w : World} (h : Rd 1 eB A c l w) (hn : n <= l.length) : Rd 1 eB (C9 A c n) (c - n) (l.drop n) w:=by
 have h1:=h.sl.part (n:=l.length - n) hn;rw [List.take_of_length_le (by rw [fW]; exact aH _)] at h1;exact Rd.UI h1
section
variable {N : Nat} {E : SE} {o : Oper} {x y : Operand} {t : TypeId}
theorem Mx {A : Option Addr} {n c j : Nat} (hj : j <= n) (hc : n <= c) (hA : A = none -> c = 0) (ho : o.op = .slice 23 x (some y) none none) (hx : evS E x = some (.v (.slice A n c))) (hy : evS E y = some (.v (.int .i64 (j : Int)))) :
  ∀ (G : Nat -> Nat) (a : Act) (w : World),Fr N (fS G E) a -> (execOp a.eval o).run Tryz.prog w = .ok (.value ((SV.v (.slice (C9 A c j) (n - j) (c - j))).den G)) w:=λG a w ha=>by
 have h1 : a.eval x = .slice A n c:=ha.eval (cU hx);have h2 : a.eval y = .int .i64 (j : Int):=ha.eval (cU hy)
 have h3 : (j : Int) <= (n : Int):=by omega
 have h4 : (0 : Int) <= (j : Int):=by omega
 have h5 : (n : Int) <= (c : Int):=by omega
 unfold execOp
 simp only [ho];generalize a.eval = ρ at *;simp only [Option.map,h1,h2]
 show _ = Bo (z9 (.slice (C9 A c j) (n - j) (c - j))) w
 cases A with
 | none =>
  obtain rfl : c = 0:=hA rfl
  obtain rfl : n = 0:=by omega
  obtain rfl : j = 0:=by omega
  go_simp
  rfl
 | some ad =>
  unfold C9
  by_cases e : c = j
  ·rw [if_pos e]
   go_simp
  ·rw [if_neg e]
   go_simp
end
section
variable {P : Program} {ops : Array Oper} {Q : Exit -> Act -> World -> Prop} {Inv : World -> Prop}
def uK (P : Program) (ops : Array Oper) (Q : Exit -> Act -> World -> Prop) (Inv : World -> Prop) (n m : Nat) : Nat -> Array Bool -> Act -> World -> Prop
  | 0,listed,a,w=>(∀ j ∈ bC .any ops listed,∀ i,i < n -> iM .any ops ops.size j i = true) /\ wpAny P .any ops Q m listed a w
  | fuel + 1,listed,a,w=>bC .any ops listed ≠ [] /\ ∀ i ∈ bC .any ops listed,wpOp P ops Q i (λa' w'=>Inv w' /\ uK P ops Q Inv n m fuel (listed.setIfInBounds i true) a' w') a w
theorem B6 {n m : Nat} : ∀ (fuel : Nat) (listed : Array Bool) (a : Act) (w : World),uK P ops Q Inv n m fuel listed a w -> wpAny P .any ops Q (m + fuel) listed a w
 | 0,_,_,_,h=>h.2
 | fuel + 1,_,_,_,h=>⟨λh0=>absurd h0 h.1,λi hi=>wpOp_mono (λa' w' h'=>B6 fuel _ a' w' h'.2) (h.2 i hi)⟩
theorem s8 {i : Nat} {oi : Oper} {v : Value} {K : Act -> World -> Prop} {a : Act} {w : World} (hi : ops[i]? = some oi) (hst : mE oi.op = true) (hy : jA P ops Inv oi (· = v) a) (hC : Inv w) (h : K (a.put oi.dst v) w) : wpOp P ops Q i K a w:=by
 unfold Go.wpOp
 simp only [hi]
 rcases hy with ⟨hw,hv⟩ | ⟨hw,hv⟩
 ·simp only [hw,if_true]
  refine .inl ?_;have h3:=hv w hC
  unfold atB at h3
  unfold Oper.wp
  cases hr : (execOp a.eval oi).run P w with
  | ok n w' =>
   rw [hr] at h3
   rcases Cf hst hr with ⟨u,rfl⟩ | rfl
   ·simp only [pK] at h3
    obtain ⟨e1,e2⟩:=h3;subst e1 e2;exact h
   ·simp only [pK] at h3
    obtain ⟨e1,e2⟩:=h3;subst e1 e2;exact h
  | halt x w' =>
   rw [hr] at h3;simp only [pK] at h3
 ·simp only [hw,Bool.false_eq_true,if_false]
  rw [hv];exact h
theorem L6 {n m i : Nat} {oi : Oper} {v : Value} (hin : i < n) (hi : ops[i]? = some oi) (hst : mE oi.op = true) (hsel : ∀ (j : Nat) (o : Oper) cs b,ops[j]? = some o -> o.op ≠ .select cs b) (hQ : ∀ c a d v w,Q (.panic c) (a.put d v) w -> Q (.panic c) a w) :
  ∀ (fuel : Nat) (listed : Array Bool) (a : Act) (w : World),Inv w -> iQ .any ops listed ->
   (∀ j oj,ops[j]? = some oj -> j ≠ i -> listed.getD j true = false -> (∀ e ∈ oj.after,eN .any e = true -> e.on ≠ i) -> oi.apart ops oj = true) ->
   i ∈ bC .any ops listed -> jA P ops Inv oi (· = v) a -> uK P ops Q Inv n m fuel (listed.setIfInBounds i true) (a.put oi.dst v) w -> uK P ops Q Inv n m (fuel + 1) listed a w:=by
 intro fuel
 induction fuel with
 | zero =>
  intro listed a w hC hcs _ hr hy H
  refine ⟨λh=>(by rw [h] at hr; cases hr),λj hj=>?_⟩
  by_cases hji : j = i
  ·subst hji
   exact s8 hi hst hy hC ⟨hC,H⟩
  ·have h1:=H.1 j (ready_mono hj hji) i hin
   obtain ⟨_,oj,hoj,hall⟩:=mem_ready.1 hj;have h6:=hcs.waits _ j i oj hoj hall h1;rw [lU hr] at h6
   cases h6
 | succ fuel ih =>
  intro listed a w hC hcs hfree hr hy H
  refine ⟨λh=>(by rw [h] at hr; cases hr),λj hj=>?_⟩
  by_cases hji : j = i
  ·subst hji
   exact s8 hi hst hy hC ⟨hC,H⟩
  ·obtain ⟨hjun,oj,hoj,hall⟩:=mem_ready.1 hj
   have hnot : ∀ e ∈ oj.after,eN .any e = true -> e.on ≠ i:=λe he hb heq=>by
    have h1:=hall e he hb;rw [heq,lU hr] at h1
    cases h1
   have h2:=Ae (V:=(· = v)) hoj (hfree j oj hoj hji hjun hnot) (λcs b=>hsel i oi cs b hi) (λcs b=>hsel j oj cs b hoj) ⟨v,rfl⟩ (.inr ⟨v,λ_ h=>h⟩) hQ hy (λu hu=>by
    subst hu
    exact H.2 j (ready_mono hj hji))
   have hun' : ∀ k,(listed.setIfInBounds j true).getD k true = false -> listed.getD k true = false:=λk hun=>by
    by_cases hjk : j = k
    ·subst hjk; exact hjun
    ·rw [getD_set_ne true hjk] at hun; exact hun
   refine wpOp_mono (λa' w' h3=>?_) h2;obtain ⟨hy',h4⟩:=h3;obtain ⟨hC',h5⟩:=h4 v rfl;refine ⟨hC',ih (listed.setIfInBounds j true) a' w' hC' (hcs.set hj) (λk ok hk hki hun hno=>hfree k ok hk hki (hun' k hun) hno) (ready_mono hr (Ne.symm hji)) hy' ?_⟩;rw [Array.setIfInBounds_comm _ _ hji];exact h5
theorem Mf {o : Oper} {a : Act} {K next : Act -> World -> Prop} (r : Result Next) (h : o.upon P a next (Exit.then K Q) r) : o.upon P a next Q r:=by
 cases r with
 | ok n w'=>cases n <;> exact h
 | halt x w'=>cases x <;> exact h
theorem sY {i : Nat} {o : Oper} {K : Act -> World -> Prop} {a : Act} {w : World} (hi : ops[i]? = some o) (h : wpList P ops (Exit.then K Q) [o] a w) : wpOp P ops Q i K a w:=by
 unfold Go.wpOp
 simp only [hi]
 unfold wpList at h
 split
 ·rename_i hw
  rw [if_pos hw] at h;refine h.imp (λh=>?_) id;exact Oper.wp_mono (λa' w' h'=>h') (Mf _ h)
 ·rename_i hw
  rw [if_neg hw] at h;exact h
end
def IV (L : List LV) (w : World) : Prop:=∀ x ∈ L,∃ g,x.g = some g /\ Blk w g x.t (eI x.ps)
def aS (P : Program) (b : iI) (Q : Exit -> Act -> World -> Prop) (N : Nat) (ops : Array Oper) (Inv : World -> Prop) (n m fuel : Nat) (listed : Array Bool) (e : Env) : Prop:=iQ .any ops listed -> ∀ a w,St b N e a w -> Inv w -> uK P ops (NoPanic Q) Inv n m fuel listed a w
def FG (ops : Array Oper) (n i : Nat) (listed : Array Bool) : Bool:=decide (i < n) && (bC .any ops listed).contains i && Region.free .any ops listed i && Region.noSelect ops
section
variable {P : Program} {T : List TyR} {b : iI} {ops : Array Oper} {Q : Exit -> Act -> World -> Prop} {N n m fuel : Nat} {listed : Array Bool} {E : SE} {L L0 : List LV} {R : List Res} {F M : World -> Prop} {Inv : World -> Prop} {e : Env}
theorem D7 : ∀ c (a : Act) d v w,NoPanic Q (.panic c) (a.put d v) w -> NoPanic Q (.panic c) a w:=λ_ _ _ _ _ h=>h
theorem tR {o : Oper} {k : Nat} {v : SV} (hT : OkT P T) (i : Nat) (hc : FG ops n i listed = true) (ho : ops[i]? = some o) (hg : o.guard = none) (hd : o.dst = some k) (hk : aQ k N = true) (hs : mE o.op = true) (hv : nD T E L0 o.op = some v) (hsub : ∀ x ∈ L0,x ∈ L)
  (hn : aS P b Q N ops (IV L0) n m fuel (listed.setIfInBounds i true) ⟨(k,v) :: E,L,R,F,M⟩) : aS P b Q N ops (IV L0) n m (fuel + 1) listed ⟨E,L,R,F,M⟩:=λhcs a w hst hI=>by
 obtain ⟨G,S,h1,h2,h3⟩:=hst;simp only [FG,aW,decide_eq_true_eq] at hc;obtain ⟨⟨⟨hin,hr⟩,hfr⟩,hsel⟩:=hc
 have hr' : i ∈ bC .any ops listed:=by simpa using hr
 obtain ⟨h4,h5⟩:=qG hT h2 (λx hx=>(h3.var x (hsub x hx)).2.1) hv;have h6:=hn (hcs.set hr') (a.put (some k) (v.den G)) w ⟨G,S,h1.put hk _,h2.cons h4,h3⟩ hI;refine L6 hin ho hs (nM hsel) D7 fuel listed a w hI hcs (wY ho hfr) hr' (v:=v.den G) (.inl ⟨by simp [aN,hg],λw' hw'=>?_⟩) (by rw [hd]; exact h6)
 unfold atB
 rw [h5 h1 λx hx=>by
  obtain ⟨g,e1,e2⟩:=hw' x hx;rw [(h3.var x (hsub x hx)).2.2 g e1]
  exact e2]
 exact ⟨rfl,rfl⟩
theorem zW {o : Oper} {k : Nat} (v : SV) (hvo : v.Ok) (i : Nat) (hc : FG ops n i listed = true) (ho : ops[i]? = some o) (hg : o.guard = none) (hd : o.dst = some k) (hk : aQ k N = true) (hs : mE o.op = true) (hv : ∀ (G : Nat -> Nat) (a : Act) (w : World),Fr N (fS G E) a -> (execOp a.eval o).run P w = .ok (.value (v.den G)) w)
  (hn : aS P b Q N ops Inv n m fuel (listed.setIfInBounds i true) ⟨(k,v) :: E,L,R,F,M⟩) : aS P b Q N ops Inv n m (fuel + 1) listed ⟨E,L,R,F,M⟩:=λhcs a w hst hI=>by
 obtain ⟨G,S,h1,h2,h3⟩:=hst;simp only [FG,aW,decide_eq_true_eq] at hc;obtain ⟨⟨⟨hin,hr⟩,hfr⟩,hsel⟩:=hc
 have hr' : i ∈ bC .any ops listed:=by simpa using hr
 have h6:=hn (hcs.set hr') (a.put (some k) (v.den G)) w ⟨G,S,h1.put hk _,h2.cons hvo,h3⟩ hI;refine L6 hin ho hs (nM hsel) D7 fuel listed a w hI hcs (wY ho hfr) hr' (v:=v.den G) (.inl ⟨by simp [aN,hg],λw' _=>?_⟩) (by rw [hd]; exact h6)
 unfold atB
 rw [hv G a w' h1];exact ⟨rfl,rfl⟩
theorem Dk {o : Oper} (i : Nat) (hr : bC .any ops listed = [i]) (ho : ops[i]? = some o) (h : ∀ K : Act -> World -> Prop,(∀ e',(∀ a w,St b N e' a w -> Inv w) -> aS P b Q N ops Inv n m fuel (listed.setIfInBounds i true) e' -> kS b K N e') -> lS P b ops (Exit.then K (NoPanic Q)) N [o] e) : aS P b Q N ops Inv n m (fuel + 1) listed e:=λhcs a w hst _ =>
 ⟨by rw [hr]; simp,λj hj=>by
  rw [hr,bK] at hj;subst hj;have hcs':=hcs.set (i:=j) (by rw [hr]; simp)
  exact sY ho (h (λa' w'=>Inv w' /\ uK P ops (NoPanic Q) Inv n m fuel (listed.setIfInBounds j true) a' w') (λe' hI' ha a' w' hs'=>⟨hI' a' w' hs',ha hcs' a' w' hs' (hI' a' w' hs')⟩) a w hst)⟩
theorem Uv {o o' : Oper} (i i' : Nat) (hr : bC .any ops listed = [i,i']) (ho : ops[i]? = some o) (ho' : ops[i']? = some o')
  (h : ∀ K : Act -> World -> Prop,(∀ e',(∀ a w,St b N e' a w -> Inv w) -> aS P b Q N ops Inv n m fuel (listed.setIfInBounds i true) e' -> kS b K N e') -> lS P b ops (Exit.then K (NoPanic Q)) N [o] e)
  (h' : ∀ K : Act -> World -> Prop,(∀ e',(∀ a w,St b N e' a w -> Inv w) -> aS P b Q N ops Inv n m fuel (listed.setIfInBounds i' true) e' -> kS b K N e') -> lS P b ops (Exit.then K (NoPanic Q)) N [o'] e) : aS P b Q N ops Inv n m (fuel + 1) listed e:=λhcs a w hst _ =>
 ⟨by rw [hr]; simp,λj hj=>by
  rw [hr] at hj
  have key : ∀ (i : Nat) (o : Oper),i ∈ bC .any ops listed -> ops[i]? = some o -> (∀ K : Act -> World -> Prop,(∀ e',(∀ a w,St b N e' a w -> Inv w) -> aS P b Q N ops Inv n m fuel (listed.setIfInBounds i true) e' -> kS b K N e') -> lS P b ops (Exit.then K (NoPanic Q)) N [o] e) -> wpOp P ops (NoPanic Q) i (λa' w'=>Inv w' /\ uK P ops (NoPanic Q) Inv n m fuel (listed.setIfInBounds i true) a' w') a w:=λi o hi ho h =>
   sY ho (h (λa' w'=>Inv w' /\ uK P ops (NoPanic Q) Inv n m fuel (listed.setIfInBounds i true) a' w') (λe' hI' ha a' w' hs'=>⟨hI' a' w' hs',ha (hcs.set hi) a' w' hs' (hI' a' w' hs')⟩) a w hst)
  rcases b7.1 hj with rfl | hj
  ·exact key _ o (by rw [hr]; simp) ho h
  ·rw [bK] at hj
   subst hj
   exact key _ o' (by rw [hr]; simp) ho' h'⟩
theorem Dj {l : List Oper} (hB : (EV .any l.toArray n listed && kP .any l.toArray (l.drop n).length n listed) = true) (h : lS P b l.toArray (NoPanic Q) N (l.drop n) e) : aS P b Q N l.toArray Inv n (l.drop n).length 0 listed e:=λ_ a w hst _=>by
 simp only [aW] at hB;exact ⟨λj hj i hi=>cL.1 (cL.1 hB.1 j hj) i (List.mem_range.2 hi),kJ (l.drop n) n listed a w (λj _=>by simp [List.getElem?_drop]) hB.2 (h a w hst)⟩
theorem YF {E' : SE} {L' : List LV} {R' : List Res} {F' M' : World -> Prop} (hsub : ∀ x ∈ L0,x ∈ L' /\ x.g.isSome = true) : ∀ a w,St b N ⟨E',L',R',F',M'⟩ a w -> IV L0 w:=λa w ⟨G,S,_,_,h3⟩ x hx=>by
 obtain ⟨h1,h2⟩:=hsub x hx;obtain ⟨g,hg⟩:=Option.isSome_iff_exists.1 h2;have h4:=h3.var x h1;refine ⟨g,hg,?_⟩;rw [<-h4.2.2 g hg];exact h4.1
theorem StW.drew {G : Nat -> Nat} {S : Nat -> Prop} {w : World} (h : StW b G S L R F M w) : StW b G S L R F M w.drew:=h.later (Up.drew w)
theorem KR {l : List Oper} {id : Nat} (n : Nat) (L0 : List LV) (hm : P.follows .mixedOrders = true) (hn : n <= l.length) (h0 : ∀ a w,St b N e a w -> IV L0 w) (h : aS P b Q N l.toArray (IV L0) n (l.drop n).length n (Array.replicate l.toArray.size false) e) : cS P b (.region id l.toArray true) Q N e:=λa w hst=>by
 refine wp_region_noPanic (wp_region_any hm ?_);obtain ⟨G,S,h1,h2,h3⟩:=hst;have hd : St b N e a w.drew:=⟨G,S,h1,h2,h3.drew⟩;have h4:=B6 n _ a w.drew (h (iQ.none _) a w.drew hd (h0 a _ hd))
 have e1 : (l.drop n).length + n = l.toArray.size:=by simp; omega
 rw [e1] at h4;exact h4
theorem uQ {N : Nat} {E : SE} {o : Oper} {x : Operand} {t e : TypeId} {j off n sz : Nat} (ho : o.op = .slice t x none none none) (ht : P.underlying t = some (.array n e)) (he : (P.info? e).map (·.size) = some sz) (hx : evS E x = some (.a j off)) :
  ∀ (G : Nat -> Nat) (a : Act) (w : World),Fr N (fS G E) a -> (execOp a.eval o).run P w = .ok (.value ((SV.s j off n n).den G)) w:=λG a w ha=>by
 have h1 : a.eval x = .pointer (some ⟨G j,off,none⟩):=ha.eval (cU hx);have h5:=run_sizeOf he w
 unfold execOp
 simp only [ho];generalize a.eval = ρ at *;simp only [Option.map,h1]
 show _ = Bo (z9 (.slice (some ⟨G j,off,none⟩) n n)) w
 simp [Instr.sliceAt,rL,run_underlying ht,Instr.sliceBounds,h5,aJ,iS]
theorem D3 : ∀ {L : List LV} {j : Nat} {ps : List Pt},tW L j = some ps -> y5 L j ps = L
 | [],_,_,h=>by cases h
 | x :: L,j,ps,h=>by
  unfold tW at h
  unfold y5
  split at h
  ·injection h with h
   subst h
   rfl
  ·exact congrArg (x :: ·) (D3 h)
theorem Ln {o : Oper} {rest : List Oper} {d s : Operand} {k j n' c : Nat} {A : Option Addr} {z l : List UInt8} (hg : o.guard = none) (hd : o.dst = some k) (hk : aQ k N = true) (ho : o.op = .call { callee:=.builtin .copy,args:=#[d,s],argTypes:=#[23,23] })
  (hx : evS E d = some (.s j 0 n' n')) (hy : evS E s = some (.v (.slice A l.length c))) (hl : tW L j = some [.agg n' (By z).toArray]) (hz : z.length = n') (hle : l.length <= n') (hrd : ∀ G S w,View G S L R F M w -> Rd 1 eB A c l w)
  (hn : lS Tryz.prog b ops Q N rest ⟨(k,.v (.int .i64 (l.length : Int))) :: E,y5 L j [.agg n' (By (l ++ z.drop l.length)).toArray],R,F,M⟩) : lS Tryz.prog b ops Q N (o :: rest) ⟨E,L,R,F,M⟩:=λa w ⟨G,S,h1,h2,h3⟩=>by
 have hR:=hrd G S w h3.view;have e1 : a.eval d = .slice (some ⟨G j,0,none⟩) n' n':=h1.eval (cU hx);have e2 : a.eval s = .slice A l.length c:=h1.eval (cU hy)
 by_cases h0 : l.length = 0
 ·obtain rfl:=List.eq_nil_of_length_eq_zero h0
  rw [D3 (by rw [hl]; rfl)] at hn;refine wpList_copy_nothing hg d s 23 23 ho 5 Tryz.underlying23 vV _ _ _ _ _ _ e1 e2 (Nat.zero_min _) ?_;rw [hd];exact hn _ w ⟨G,S,h1.put hk _,h2.cons trivial,h3⟩
 ·obtain ⟨bb,oo,rfl,_,hcell⟩:=hR.2.2.2.2 (by omega)
  obtain ⟨u,hu,rfl,hps⟩:=mX hl;have hb:=h3.at u hu;rw [hps] at hb
  have hok : OkP [Pt.agg n' (By (l ++ z.drop l.length)).toArray]:=λp hp=>by
   rw [bK.1 hp];exact ⟨by rw [a9,cD,aI,fW]; omega,kU _⟩
  refine wpList_copy_own hg d s 23 23 ho 5 Tryz.underlying23 vV (G u.j) 0 n' n' ⟨bb,oo,none⟩ l.length c e1 e2 (By z).toArray u.t hb (By l) (by rw [cD]; exact (cW hle).symm) ?_ (by rw [cD,a9,cD]; omega) (kU l) ?_
  ·intro i v hv
   obtain ⟨x,hx1,rfl⟩:=L8 hv;have:=hcell i x hx1 0 (.int .u8 (x.toNat : Int)) rfl;rw [iS]
   simpa using this
  ·have e : (By z).toArray.toList.take 0 ++ (By l ++ (By z).toArray.toList.drop (0 + (By l).length)) = By (l ++ z.drop l.length):=by
    simp [By]
   rw [e,hd,cD];exact hn _ _ ⟨G,S,h1.put hk _,h2.cons trivial,h3.set (x8 hl) hok⟩
end
theorem CW : ∀ {vs : List Value},(∀ v ∈ vs,v.cells = #[v]) -> (vs.flatMap λv=>v.cells.toList) = vs
 | [],_=>rfl
 | v :: vs,h=>by
  rw [List.flatMap_cons,h v cB,CW λu hu=>h u (bL _ hu)]
  rfl
section
variable {T : List TyR} {b : iI} {ops : Array Oper} {Q : Exit -> Act -> World -> Prop} {N : Nat} {E : SE} {L : List LV} {R : List Res} {F M : World -> Prop} {o1 o2 : Oper} {rest : List Oper} {k1 k2 bs e : Nat}
theorem Qh {f : FuncId} {n m t : Nat} {parts : Array (Nat × Operand)} {ats : Array TypeId} (hT : OkT Tryz.prog T) (vs : List SV) (ls : List (List UInt8)) (r : List UInt8) (hg1 : o1.guard = none) (hg2 : o2.guard = none) (hd1 : o1.dst = some k1) (hd2 : o2.dst = some k2) (hk1 : aQ k1 N = true) (hk2 : aQ k2 N = true)
  (ho1 : o1.op = .buildSlice t n parts) (ho2 : o2.op = .call { callee:=.value (.func f),args:=#[.tmp k1],argTypes:=ats }) (hs : slS T t = some (e,1,bs)) (hf : Own f)
  (hp : ∀ G : Nat -> Nat,parts.toList.map (λp=>(p.1,(evS E p.2).map (SV.den G))) = ((vs.map (SV.den G)).zipIdx 0).map λx=>(x.2,some x.1)) (hn : vs.length = n) (h0 : 0 < n) (h24 : n <= 16777216) (hr : r.length = m)
  (hc : ∀ A w,PT w A ls -> F w -> M w -> Calls Tryz.prog f #[.slice A n n] w λe w'=>e = .returned (.agg (By r).toArray) /\ Below w.heap.size w w')
  (hrd : ∀ G S w,View G S L R F M w -> mI w (vs.map (SV.den G)) ls)
  (hnx : ∀ A,lS Tryz.prog b ops Q N rest ⟨(k2,.q (eY m r)) :: (k1,.v (.slice A n n)) :: E,L,R,F,M⟩) : lS Tryz.prog b ops Q N (o1 :: o2 :: rest) ⟨E,L,R,F,M⟩:=λa w ⟨G,S,h1,h2,h3⟩=>by
 have hA:=hrd G S w h3.view;obtain ⟨ht,ie,z,hi,hz,hsz,hbs,hzs,_⟩:=xS hT hs
 have hrun:=BM (P:=Tryz.prog) ht hi hz hsz (vs.map (SV.den G)) n (parts.map λ(i,x)=>(i,a.eval x)) (by rw [sW]; exact wH h1 _ _ (hp G)) (by rw [xM,hn]) (by omega) (by omega) (λv hv=>by
  rw [(hA.one v hv).1]
  rfl) w
 rw [CW λv hv=>(hA.one v hv).1] at hrun;have hal:=(Below.refl w.heap.size w).alloc (aH _) (.cells (vs.map (SV.den G)).toArray e);have hPT : PT (w.alloc (.cells (vs.map (SV.den G)).toArray e)) (some ⟨w.heap.size,0,none⟩) ls:=O5 (Blk.new w e (vs.map (SV.den G)).toArray) (λj v hj=>by simpa using hj) (mI.later hal hA);have h4:=h3.later hal;have h5:=h1.put hk1 (.slice (some ⟨w.heap.size,0,none⟩) n n)
 refine pE (v:=.slice (some ⟨w.heap.size,0,none⟩) n n) (w':=w.alloc (.cells (vs.map (SV.den G)).toArray e)) (DB hg1) (by
  unfold execOp
  simp only [ho1,aJ,hrun,aF,aK]) ?_
 rw [hd1];have hr2:=Db (E:=(k1,.v (.slice (some ⟨w.heap.size,0,none⟩) n n)) :: E) (svs:=[.v (.slice (some ⟨w.heap.size,0,none⟩) n n)]) (w:=w.alloc (.cells (vs.map (SV.den G)).toArray e)) hf ho2 (by simp [C5,evS,iU]) h5
 unfold wpList
 rw [if_pos (by simp [aN,hg2])];refine .inl ?_
 unfold Oper.wp
 rw [hr2];simp only [Oper.upon,hd2];refine (hc _ _ hPT h4.view.fact h4.view.fresh).mono ?_
 rintro e' w' ⟨rfl,hb⟩
 have h6 : OkE ((k1,.v (.slice (some ⟨w.heap.size,0,none⟩) n n)) :: E):=h2.cons trivial;exact hnx (some ⟨w.heap.size,0,none⟩) _ w' ⟨G,S,h5.put hk2 _,h6.cons (v:=.q (eY m r)) (nJ hr).1,h4.later hb⟩
theorem E3 {j n : Nat} {l : List UInt8} (hj : tW L j = some [.agg n (By l).toArray]) (hl : l.length = n) (hm : n <= 9223372036854775807) : ∀ G S w,View G S L R F M w -> SB w ((SV.s j 0 n n).den G) l:=λG S w hv=>by
 obtain ⟨z,hz,rfl,hps⟩:=mX hj;have hb:=(hv.var z hz).1;rw [hps] at hb;exact SB.all hb hl hm
end
def gOf : List LV -> Nat -> (Nat -> Nat) -> (Nat -> Nat) -> Nat -> Nat
  | [],_,_,G,j=>G j
  | u :: us,i,gs,G,j=>if j = u.j then gs i else gOf us (i + 1) gs G j
def CU (E : SE) (L : List LV) : List LV -> Bool
  | []=>true
  | u :: us=>AE u.j L && Ii u.j E && (match u.g with | none=>true | some _=>false) && AE u.j us && CU E L us
theorem Ly {gs G : Nat -> Nat} {j : Nat} : ∀ {us : List LV} {i : Nat},j ∉ fF us -> gOf us i gs G j = G j
 | [],_,_=>rfl
 | u :: us,i,h=>by
  unfold gOf
  rw [if_neg λe=>h (by rw [e]; exact cB)];exact Ly λh2=>h (bL _ h2)
theorem FF {gs G : Nat -> Nat} : ∀ {us : List LV} {i j : Nat} ,j ∈ fF us -> ∃ k,i <= k /\ k < i + us.length /\ gOf us i gs G j = gs k
 | [],_,_,h=>by cases h
 | u :: us,i,j,h=>by
  unfold gOf
  by_cases e : j = u.j
  ·rw [if_pos e]
   exact ⟨i,aH _,by simp,rfl⟩
  ·rw [if_neg e]
   rcases b7.1 h with e2 | h
   ·exact absurd e2 e
   ·obtain ⟨k,h1,h2,h3⟩:=FF (i:=i + 1) h
    exact ⟨k,by omega,by simp only [cC]; omega,h3⟩
theorem Ex {E : SE} {L : List LV} : ∀ {us : List LV},CU E L us = true -> ∀ u ∈ us,AE u.j L = true /\ Ii u.j E = true /\ u.g = none
 | [],_,u,h=>by cases h
 | v :: us,hf,u,h=>by
  simp only [CU,aW] at hf;obtain ⟨⟨⟨⟨h1,h2⟩,h3⟩,h4⟩,h5⟩:=hf
  rcases b7.1 h with rfl | h
  ·refine ⟨h1,h2,?_⟩
   cases hg : u.g with
   | none=>rfl
   | some x=>rw [hg] at h3; cases h3
  ·exact Ex h5 u h
section
variable {P : Program} {T : List TyR} {b : iI} {ops : Array Oper} {Q : Exit -> Act -> World -> Prop} {N : Nat} {G gs : Nat -> Nat} {S : Nat -> Prop} {E : SE} {L : List LV} {R : List Res} {F M : World -> Prop} {w0 w' : World}
theorem H9 {i0 : Nat} : ∀ {us : List LV} {i : Nat},CU E L us = true -> (∀ k l,i0 <= k -> k < i + us.length -> i0 <= l -> l < i + us.length -> k ≠ l -> gs k ≠ gs l) -> i0 <= i -> (fF us).Pairwise λx y=>gOf us i gs G x ≠ gOf us i gs G y
 | [],_,_,_,_=>List.Pairwise.nil
 | u :: us,i,hf,hd,hi=>by
  simp only [CU,aW] at hf;obtain ⟨⟨_,h4⟩,h5⟩:=hf;have hn:=vD h4
  have hne : ∀ j ∈ fF us,gOf (u :: us) i gs G j = gOf us (i + 1) gs G j:=λj hj=>by
   show (if j = u.j then _ else _) = _
   rw [if_neg λe=>hn (by rw [<-e]; exact hj)]
  refine List.Pairwise.cons (λj hj=>?_) ?_
  ·rw [hne j hj]
   show (if u.j = u.j then gs i else _) ≠ _
   rw [if_pos rfl];obtain ⟨k,h1,h2,h3⟩:=FF (gs:=gs) (G:=G) (i:=i + 1) hj;rw [h3];exact hd i k (by omega) (by simp only [cC]; omega) (by omega) (by simp only [cC]; omega) (by omega)
  ·refine (H9 (us:=us) (i:=i + 1) h5 (λk l a b c d=>hd k l a (by simp only [cC]; omega) c (by simp only [cC]; omega)) (by omega)).imp_of_mem λ{x y} hx hy h=>?_
   rw [hne x hx,hne y hy];exact h
theorem StW.news (h : StW b G S L R F M w0) (hU : Up w0 w') (us : List LV) (hf : CU E L us = true) (hp : ∀ u ∈ us,OkP u.ps) (hge : ∀ j,j < us.length -> w0.heap.size <= gs j) (hd : ∀ i j,i < us.length -> j < us.length -> i ≠ j -> gs i ≠ gs j) (hb : ∀ u ∈ us,Blk w' (gOf us 0 gs G u.j) u.t (eI u.ps)) :
  StW b (gOf us 0 gs G) S (us ++ L) R F M w':=by
 have h1:=h.later hU;have hfr:=Ex hf
 have hno : ∀ j ∈ fF L,j ∉ fF us:=λj hj hj2=>by
  obtain ⟨u,hu,rfl⟩:=gP.1 hj2;exact vD (hfr u hu).1 hj
 have hG : ∀ j ∈ fF L,gOf us 0 gs G j = G j:=λj hj=>Ly (hno j hj);have hlt : ∀ i ∈ fF L,G i < w0.heap.size:=λi hi=>h.lt _ (.inr ⟨i,hi,rfl⟩)
 have hnew : ∀ j ∈ fF us,w0.heap.size <= gOf us 0 gs G j:=λj hj=>by
  obtain ⟨k,h2,h3,h4⟩:=FF (gs:=gs) (G:=G) (i:=0) hj;rw [h4];exact hge k (by omega)
 have hnames : fF (us ++ L) = fF us ++ fF L:=List.map_append
 have hM : ∀ k,rW S (gOf us 0 gs G) (us ++ L) k -> w0.heap.size <= k \/ rW S G L k:=λk hk=>by
  rcases hk with hk | ⟨i,hi,rfl⟩
  ·exact .inr (.inl hk)
  ·rw [hnames] at hi
   rcases mN.1 hi with hi | hi
   ·exact .inl (hnew i hi)
   ·exact .inr (.inr ⟨i,hi,(hG i hi).symm⟩)
 refine ⟨λx hx=>?_,?_,h1.res,λi hi=>?_,?_,?_,h1.chg,λk hk hlt2=>?_,h.old⟩
 ·rcases mN.1 hx with hx | hx
  ·exact ⟨hb x hx,hp x hx,λg hg=>by rw [(hfr x hx).2.2] at hg; cases hg⟩
  ·rw [hG _ (gP.2 ⟨x,hx,rfl⟩)]
   exact h1.var x hx
 ·rw [hnames]
  refine List.pairwise_append.2 ⟨H9 (i0:=0) hf (λk l _ a _ c=>hd k l (by omega) (by omega)) (aH _),h.apart.imp_of_mem λ{x y} hx hy e=>?_,λi hi j hj=>?_⟩
  ·rw [hG x hx,hG y hy]
   exact e
  ·have:=hnew i hi
   have:=hlt j hj;rw [hG j hj]
   omega
 ·rw [hnames] at hi
  rcases mN.1 hi with hi | hi
  ·intro hs
   have:=h.res.lt _ hs;have:=hnew i hi
   omega
  ·rw [hG i hi]
   exact h.sep i hi
 ·refine h.fact.G5 (Chg.tV hU) λi hi hd=>?_
  rcases hd with hd | hd
  ·exact .inl hd
  ·rcases hM i hd with h2 | hd
   ·exact absurd hi (Nat.not_lt.2 h2)
   ·exact .inr hd
 ·refine h.fresh.G5 (Chg.tV hU) λi hi hd=>?_
  rcases hd with hd | hd
  ·exact .inl hd
  ·rcases hM i hd with h2 | hd
   ·exact absurd hi (Nat.not_lt.2 h2)
   ·exact .inr hd
 ·rcases hM k hk with h2 | h2
  ·have:=h.chg.size
   omega
  ·exact h.mine k h2 hlt2
variable {vs : List NV} {T' l rest : List Oper} {o : Oper} {k : Nat}
end
def Xx : SV -> Bool
  | .q (.c (.v (.tuple ⟨[]⟩)))=>true
  | _=>false
def Xg (ops : Array Oper) (N : Nat) : List Oper -> SE -> List Oper × SE
  | [],E=>([],E)
  | o :: l,E=>match o.guard,o.dst with
    | some (j,_),some k=>match (ops[j]?).bind (·.dst),aQ k N with
      | some t,true=>match aQ t N,iU E t with
        | true,some v=>match Xx v with
          | true=>Xg ops N l ((k,.v undef) :: E)
          | false=>(o :: l,E)
        | _,_=>(o :: l,E)
      | _,_=>(o :: l,E)
    | _,_=>(o :: l,E)
def Vj (ops : Array Oper) (N : Nat) : List (Nat × Oper) -> SE -> List (Nat × Oper) × SE
  | [],E=>([],E)
  | (i,o) :: l,E=>match o.guard,o.dst with
    | some (j,_),some k=>match (ops[j]?).bind (·.dst),aQ k N with
      | some t,true=>match aQ t N,iU E t with
        | true,some v=>match Xx v with
          | true=>Vj ops N l ((k,.v undef) :: E)
          | false=>((i,o) :: l,E)
        | _,_=>((i,o) :: l,E)
      | _,_=>((i,o) :: l,E)
    | _,_=>((i,o) :: l,E)
def hS (P : Program) (ops : Array Oper) (Q : Exit -> Act -> World -> Prop) (N : Nat) (T' : List Oper) (G : Nat -> Nat) (w0 : World) (l : List (Nat × Oper)) (E : SE) (Fa : Told) : Prop:=OkE E -> gF P Bel ops (Up w0) (Bw P ops Q (Up w0) T') l N (fS G E) Fa
section
variable {P : Program} {T : List TyR} {b : iI} {ops : Array Oper} {Q : Exit -> Act -> World -> Prop} {N : Nat} {G : Nat -> Nat} {S : Nat -> Prop} {E : SE} {L : List LV} {R : List Res} {F M : World -> Prop} {w0 : World} {T' : List Oper} {Fa : Told} {i k : Nat} {o : Oper} {rest : List (Nat × Oper)} {l : List Oper} {id : Nat} {y : Code}
theorem E4 (n : Nat) (hn : n <= l.length) (hm : P.follows .mixedOrders = true) (hB : AX l.toArray n (l.drop n).length = true)
  (h : ∀ K : Act -> World -> Prop,(∀ e',cS P b y Q N e' -> kS b K N e') -> ∀ G S w0,StW b G S L R F M w0 -> hS P l.toArray (Exit.then K Q) N (l.drop n) G w0 (idx 0 (l.take n)) E []) : cS P b (.seq (.region id l.toArray true) y) Q N ⟨E,L,R,F,M⟩ :=
 Ch n hn hm hB λK hK G S w0 hst=>h K hK G S w0 hst
theorem h_f (hst : StW b G S L R F M w0) (v : SV) (hv : v.Ok) (hf : rS i Fa = true) (h : ∀ (C0 : World -> Prop) (Q' : Act -> Prop),(∀ w,C0 w -> View G S L R F M w /\ Uses o Fa w) -> bF P ops C0 Q' [] N ((k,v.den G) :: fS G E) -> bF P ops C0 Q' [o] N (fS G E)) (hn : hS P ops Q N T' G w0 rest ((k,v) :: E) Fa) : hS P ops Q N T' G w0 ((i,o) :: rest) E Fa:=λhE =>
 cZ hf (h _ _ (λ_ hw=>⟨(hst.later hw.1).view,hw.2⟩) (c9 (o:=o) (hn (hE.cons hv))))
theorem TG (hst : StW b G S L R F M w0) (v : SV) (hv : v.Ok) (hf : rS i Fa = true) (hg : o.guard = none) (hd : o.dst = some k) (hk : aQ k N = true) (h : ∀ (G : Nat -> Nat) (a : Act) (w : World),Fr N (fS G E) a -> (execOp a.eval o).run P w = .ok (.value (v.den G)) w) (hn : hS P ops Q N T' G w0 rest ((k,v) :: E) Fa) : hS P ops Q N T' G w0 ((i,o) :: rest) E Fa :=
 h_f hst v hv hf (λ_ _ _ hQ=>dP _ hg hd hk (λ_ ha w _=>h G _ w ha) hQ) hn
theorem YG {v : SV} (hT : OkT P T) (hst : StW b G S L R F M w0) (hE : OkE E) (hf : rS i Fa = true) (hg : o.guard = none) (hd : o.dst = some k) (hk : aQ k N = true) (h : nD T E L o.op = some v) (hn : hS P ops Q N T' G w0 rest ((k,v) :: E) Fa) : hS P ops Q N T' G w0 ((i,o) :: rest) E Fa :=
 h_f hst v (qG hT (N:=N) (o:=o) hE hst.okL h).1 hf (λ_ _ hC hQ=>dP _ hg hd hk (λ_ ha w hw=>(qG hT hE hst.okL h).2 ha λx hx=>((hC w hw).1.var x hx).1) hQ) hn
def EF (T : List TyR) (ops : Array Oper) (N : Nat) (L : List LV) (Fa : Told) : List (Nat × Oper) -> SE -> List (Nat × Oper) × SE
  | [],E=>([],E)
  | (i,o) :: l,E=>match qY ops N E o,rS i Fa,o.dst with
    | some false,true,some k=>match aQ k N with
      | true=>EF T ops N L Fa l ((k,.v undef) :: E)
      | false=>((i,o) :: l,E)
    | some true,true,some k=>match aQ k N with
      | true=>match nD T E L o.op with
        | some v=>EF T ops N L Fa l ((k,v) :: E)
        | none=>((i,xH o) :: l,E)
      | false=>((i,o) :: l,E)
    | some true,true,none=>((i,xH o) :: l,E)
    | _,_,_=>((i,o) :: l,E)
theorem JV (hw : qY ops N E o = some true) (h : hS P ops Q N T' G w0 ((i,xH o) :: rest) E Fa) : hS P ops Q N T' G w0 ((i,o) :: rest) E Fa:=λhE a F ha hF=>by
 have hwt:=qD ha hw;have h1:=h hE a F ha hF;obtain ⟨dst,op,ty,pos,af,gd⟩:=o
 unfold wpG at h1 ⊢
 rw [if_pos hwt];rw [if_pos (by rfl)] at h1;exact h1
theorem TE (hw : qY ops N E o = some false) (hf : rS i Fa = true) (hd : o.dst = some k) (hk : aQ k N = true) (h : hS P ops Q N T' G w0 rest ((k,.v undef) :: E) Fa) : hS P ops Q N T' G w0 ((i,o) :: rest) E Fa:=λhE a F ha hF=>by
 have hwt:=qD ha hw
 unfold wpG
 rw [hwt,if_neg (by decide)]
 dsimp only
 rw [hd];exact h (hE.cons (v:=.v undef) trivial) _ _ (ha.put hk undef) (hF.up hf)
theorem De (hT : OkT P T) (hst : StW b G S L R F M w0) : ∀ {l : List (Nat × Oper)} {E : SE},OkE E -> hS P ops Q N T' G w0 (EF T ops N L Fa l E).1 (EF T ops N L Fa l E).2 Fa -> hS P ops Q N T' G w0 l E Fa
 | [],_,_,h=>h
 | (i,o) :: l,E,hE,h=>by
  unfold EF at h
  split at h
  ·rename_i k hw hf hd
   split at h
   ·rename_i hk
    exact TE hw hf hd hk (De hT hst (hE.cons (v:=.v undef) trivial) h)
   ·exact h
  ·rename_i k hw hf hd
   split at h
   ·rename_i hk
    split at h
    ·rename_i v hv
     have h2:=De hT hst (hE.cons (qG hT (N:=N) (o:=xH o) hE hst.okL hv).1) h;exact JV hw (YG hT hst hE hf rfl hd hk hv h2)
    ·exact JV hw h
   ·exact h
  ·rename_i hw hf hd
   exact JV hw h
  ·exact h
theorem j5 {l l' : List (Nat × Oper)} {E' : SE} (hT : OkT P T) (hst : StW b G S L R F M w0) (h : EF T ops N L Fa l E = (l',E')) (hn : hS P ops Q N T' G w0 l' E' Fa) : hS P ops Q N T' G w0 l E Fa:=λhE=>De hT hst hE (by rw [h]; exact hn) hE
theorem Qt {l : List (Nat × Oper)} (k : Nat) {t : Bool} (q : Bool) (h : iU E k = some (.b t)) (he : t = q) (hn : hS P ops Q N T' G w0 l ((k,.v (.bool q)) :: E) Fa) : hS P ops Q N T' G w0 l E Fa:=λhE=>by
 subst he
 intro a F ha hF
 exact hn (hE.cons trivial) a F (ha.more (ha.get k _ (by rw [iK,h]; rfl))) hF
theorem Ew (hst : StW b G S L R F M w0) (h : lS P b ops Q N T' ⟨E,L,R,F,M⟩) : hS P ops Q N T' G w0 [] E Fa:=λhE=>jT λw hw _=>λa ha=>h a w ⟨G,S,ha,hE,hst.later hw⟩
end
section
variable {T : List TyR} {b : iI} {ops : Array Oper} {Q : Exit -> Act -> World -> Prop} {N : Nat} {G : Nat -> Nat} {S : Nat -> Prop} {E : SE} {L : List LV} {R : List Res} {F M : World -> Prop} {w0 : World} {T' : List Oper} {Fa : Told} {i k e bs : Nat} {o : Oper} {rest : List (Nat × Oper)}
theorem UQ {t n : Nat} {parts : Array (Nat × Operand)} (hT : OkT Tryz.prog T) (l : List UInt8) (hg : o.guard = none) (hd : o.dst = some k) (hk : aQ k N = true) (hf : rS i Fa = true) (ho : o.op = .buildSlice t n parts) (hs : slS T t = some (e,1,bs))
  (hp : ∀ G : Nat -> Nat,parts.toList.map (λp=>(p.1,(evS E p.2).map (SV.den G))) = ((l.map λx=>(eB x).den).zipIdx 0).map λx=>(x.2,some x.1)) (hn : l.length = n) (h0 : 0 < n) (h24 : n <= 16777216)
  (hc : ∀ g,hS Tryz.prog ops Q N T' G w0 rest ((k,.v (.slice (some ⟨g,0,none⟩) n n)) :: E) ((i,λw=>Rd 1 eB (some ⟨g,0,none⟩) n l w) :: Fa)) : hS Tryz.prog ops Q N T' G w0 ((i,o) :: rest) E Fa:=λhE=>by
 refine Lw (λv w=>∃ g,v = .slice (some ⟨g,0,none⟩) n n /\ Rd 1 eB (some ⟨g,0,none⟩) n l w) hg hd hk hf (by rw [ho]; rfl) (λv w w' ⟨g,h1,h2⟩ hb=>⟨g,h1,h2.later hb⟩) (λa ha w _ _=>?_) λv w _ hv=>?_
 ·obtain ⟨ht,ie,z,hi,hz,hsz,_⟩:=xS hT hs
  have hrun:=BM (P:=Tryz.prog) ht hi hz hsz (l.map λx=>(eB x).den) n (parts.map λ(i,x)=>(i,a.eval x)) (by rw [sW]; exact wH ha _ _ (hp G)) (by rw [xM,hn]) (by omega) (by omega) (λv hv=>by
   obtain ⟨x,_,rfl⟩:=gP.1 hv
   rfl) w
  have e1 : ((l.map λx=>(eB x).den).flatMap λv=>v.cells.toList) = gH eB l:=by
   rw [gH,List.flatMap_map]
   rfl
  rw [e1] at hrun
  have h1 : (execOp a.eval o).run Tryz.prog w = .ok (.value (.slice (some ⟨w.heap.size,0,none⟩) n n)) (w.alloc (.cells (gH eB l).toArray e)):=by
   unfold execOp
   simp only [ho,aJ,hrun,aF,aK]
  rw [h1];refine ⟨(Below.refl w.heap.size w).alloc (aH _) _,w.heap.size,rfl,?_⟩;subst hn;exact gA.rd (gA.new (lo:=0) w (bZ _) (uY l) (by omega))
 ·obtain ⟨g,rfl,h2⟩:=hv
  intro a F ha hF
  refine hc g (hE.cons trivial) a F ha λx hx w hw=>?_
  rcases b7.1 hx with rfl | hx
  ·obtain ⟨g',e,h3⟩:=hF _ cB w hw
   cases e
   exact h3
  ·exact hF x (bL _ hx) w hw
theorem Lt {n : Nat} {parts : Array (Nat × Operand)} (vs : List Value) (ls : List (List UInt8)) (hst : StW b G S L R F M w0) (hg : o.guard = none) (hd : o.dst = some k) (hk : aQ k N = true) (hf : rS i Fa = true) (ho : o.op = .buildSlice 30 n parts)
  (hv : parts.toList.map (λp=>(p.1,(evS E p.2).map (SV.den G))) = (vs.zipIdx 0).map λx=>(x.2,some x.1)) (hn : vs.length = n) (h0 : 0 < n) (h24 : n <= 16777216) (h : ∀ w,View G S L R F M w -> Uses o Fa w -> mI w vs ls)
  (hc : ∀ g,hS Tryz.prog ops Q N T' G w0 rest ((k,.v (.slice (some ⟨g,0,none⟩) n n)) :: E) ((i,λw=>PT w (some ⟨g,0,none⟩) ls) :: Fa)) : hS Tryz.prog ops Q N T' G w0 ((i,o) :: rest) E Fa:=λhE=>by
 have hv2 : parts.toList.map (λp=>(p.1,ev (fS G E) p.2)) = (vs.zipIdx 0).map λx=>(x.2,some x.1):=by
  have key : ∀ (l : List (Nat × Operand)) (m : List (Value × Nat)),l.map (λp=>(p.1,(evS E p.2).map (SV.den G))) = m.map (λx=>(x.2,some x.1)) -> l.map (λp=>(p.1,ev (fS G E) p.2)) = m.map λx=>(x.2,some x.1):=by
   intro l
   induction l with
   | nil=>intro m h; cases m with
    | nil=>rfl
    | cons=>cases h
   | cons p l ih=>intro m h; cases m with
    | nil=>cases h
    | cons u m =>
     simp only [List.map_cons,List.cons.injEq,Prod.mk.injEq] at h ⊢;refine ⟨⟨h.1.1,?_⟩,ih m h.2⟩
     cases hx : evS E p.2 with
     | none=>rw [hx] at h; cases h.1.2
     | some v =>
      rw [hx] at h;rw [cU hx];exact h.1.2
  exact key _ _ hv
 refine vA vs ls 0 hg hd hk hf ho hv2 hn h0 h24 (λ_ _=>bZ _) (λw hw hu=>h w (hst.later hw).view hu) λg w _ _=>?_
 intro a F ha hF
 refine hc g (hE.cons trivial) a F ha λx hx w hw=>?_
 rcases b7.1 hx with rfl | hx
 ·exact (hF _ cB w hw).pt
 ·exact hF x (bL _ hx) w hw
theorem JU {f : FuncId} {xs : Array Operand} {ats : Array TypeId} {svs : List SV} {r : RV} (hst : StW b G S L R F M w0) (args : List Value) (hf : rS i Fa = true) (hg : o.guard = none) (hd : o.dst = some k) (hk : aQ k N = true) (how : Own f) (ho : o.op = .call { callee:=.value (.func f),args:=xs,argTypes:=ats }) (hx : C5 E xs.toList = some svs)
  (ha : (∀ x ∈ L,∀ g,x.g = some g -> G x.j = g) -> svs.map (SV.den G) = args) (hr : r.sv.Ok) (hs : ∀ w,View G S L R F M w -> Uses o Fa w -> Calls Tryz.prog f args.toArray w λe w'=>e = .returned r.den /\ Below w.heap.size w w')
  (hn : hS Tryz.prog ops Q N T' G w0 rest ((k,r.sv) :: E) Fa) : hS Tryz.prog ops Q N T' G w0 ((i,o) :: rest) E Fa:=by
 refine h_f hst r.sv hr hf (λC0 Q' hC hQ=>?_) hn;rw [RV.Ai] at hQ;exact dN args.toArray r.den hg hd hk how (λw hw=>hs w (hC w hw).1 (hC w hw).2) ho (by rw [BR hx,ha λx hx=>(hst.var x hx).2.2]) hQ
theorem zJ {α : Type} {post : wX α} {F' : World -> Prop} [Pst F'] [hP : ∀ x,Pst (post.p x)] {f : FuncId} {xs : Array Operand} {ats : Array TypeId} {svs : List SV} (hst : StW b G S L R F M w0) (args : List Value) (hf : rS i Fa = true) (hg : o.guard = none) (hd : o.dst = some k) (hk : aQ k N = true) (how : Own f) (ho : o.op = .call { callee:=.value (.func f),args:=xs,argTypes:=ats }) (hx : C5 E xs.toList = some svs)
  (ha : (∀ x ∈ L,∀ g,x.g = some g -> G x.j = g) -> svs.map (SV.den G) = args) (hs : Spec f args [] F' post) (hF : ∀ w,View G S L R F M w -> Uses o Fa w -> F' w)
  (hn : ∀ x,(post.ret x).sv.Ok -> hS Tryz.prog ops Q N T' G w0 rest ((k,(post.ret x).sv) :: E) ((i,λw=>∃ y,(post.ret x).den = (post.ret y).den /\ post.p y w) :: Fa)) : hS Tryz.prog ops Q N T' G w0 ((i,o) :: rest) E Fa:=λhE=>by
 refine JX args.toArray (λv w=>∃ x,v = (post.ret x).den /\ (post.ret x).sv.Ok /\ post.p x w) hg hd hk hf (λv w w' ⟨x,h1,h2,h3⟩ hb=>⟨x,h1,h2,(hP x).later _ _ h3 hb⟩) how (λw hw hu=>?_) ho (by rw [BR hx,ha λx hx=>(hst.var x hx).2.2]) λv w _ hv=>?_
 ·refine (hs w (λ_=>False) (λ_=>False) (λ_ h=>h) (λ_ h=>h.elim) (Stb.JK (hF w (hst.later hw).view hu) λ_ _ h=>h.elim id id)).mono ?_
  rintro e w' ⟨x,S',h1,h2,h3,h4,h5,h6,h7⟩
  exact ⟨_,h1,⟨x,rfl,h2,h6.now⟩,h3.up λ_ _ h=>h⟩
 ·obtain ⟨x,rfl,hok,_⟩:=hv
  intro a F ha hF
  refine hn x hok (hE.cons hok) a F (by rw [fS,RV.Ai]; exact ha) λy hy w hw=>?_
  rcases b7.1 hy with rfl | hy
  ·obtain ⟨z,e,_,h3⟩:=hF _ cB w hw
   exact ⟨z,e,h3⟩
  ·exact hF y (bL _ hy) w hw
theorem Lu {F' : World -> Prop} {f : FuncId} {xs : Array Operand} {ats : Array TypeId} {svs : List SV} {r : RV} [Pst F'] (hst : StW b G S L R F M w0) (args : List Value) (hf : rS i Fa = true) (hg : o.guard = none) (hd : o.dst = some k) (hk : aQ k N = true) (how : Own f) (ho : o.op = .call { callee:=.value (.func f),args:=xs,argTypes:=ats }) (hx : C5 E xs.toList = some svs)
  (ha : (∀ x ∈ L,∀ g,x.g = some g -> G x.j = g) -> svs.map (SV.den G) = args) (hr : r.sv.Ok) (hs : Spec f args [] F' (one r)) (hF : ∀ G S w,View G S L R F M w -> F' w)
  (hn : hS Tryz.prog ops Q N T' G w0 rest ((k,r.sv) :: E) Fa) : hS Tryz.prog ops Q N T' G w0 ((i,o) :: rest) E Fa :=
 JU hst args hf hg hd hk how ho hx ha hr (λw hv _=>(hs w (λ_=>False) (λ_=>False) (λ_ h=>h) (λ_ h=>h.elim) (Stb.JK (hF _ _ _ hv) λ_ _ h=>h.elim id id)).mono λ_ _ ⟨_,_,h1,_,h2,_⟩=>⟨h1,h2.up λ_ _ h=>h⟩) hn
end
theorem zB : Own 18:=λ_ _=>by go_simp
theorem Fz {A : Option Addr} {c : Nat} (ss : List Seg) (ht : (ss.map Seg.l).flatten.length <= 281474976710656) : Spec 18 [.slice A ss.length c] [] (λw=>Rd 1 zO A c ss w /\ ∀ s ∈ ss,s.rd w)
  { ret:=λg : Nat=>.v (.slice (some ⟨g,0,none⟩) (ss.map Seg.l).flatten.length (ss.map Seg.l).flatten.length),n:=λg=>Rd 1 eB (some ⟨g,0,none⟩) (ss.map Seg.l).flatten.length (ss.map Seg.l).flatten }:=λw S X hS _ hF=>by
 obtain ⟨h1,h2⟩:=hF.now;have hj:=H4 A (ss.map Seg.l) c w.heap.size w (Pm h1 h2) (aH _) (by rw [xM]; exact h1.1) h1.2.1 ht;rw [xM] at hj;refine hj.mono ?_
 rintro e w' ⟨he,ho,hb⟩
 refine ⟨w.heap.size,S,he,trivial,Chg.tV hb,hS.mF λk hk=>hb.block k (hS.lt k hk),λ_ h _=>h,λ_ _=>trivial,?_⟩;have h3 : (gA w.heap.size 5 1 eB (some ⟨w.heap.size,0,none⟩) (ss.map Seg.l).flatten.length (ss.map Seg.l).flatten).holds w' λj=>(some (⟨w.heap.size,0,none⟩ : Addr)).map (·.block) = some j:=⟨uY _,by rw [CX]; exact ho,λ_=>wZ⟩;have h4:=gA.rd h3
 intro w2 hw2
 refine h4.mF hw2.size λb' e hlt=>hw2.block b' hlt ?_;simp only [eZ,bG] at e;subst e
 rintro (h5 | h5)
 ·exact jW _ h5
 ·exact jW _ (hS.lt _ h5)
def rpW (A : Option Addr) (c : Nat) (s : Rds) : List Pt:=[.one (.v (.slice A s.1.length c)),.one (.v (.int .i64 (s.2 : Int)))]
abbrev mU (g : Nat) (A : Option Addr) (c : Nat) (s : Rds) : Res:=DJ g 84 (rpW A c s)
abbrev TX:=Option Addr × Nat × Option Addr × Nat
abbrev RX:=Option Addr × Nat
theorem Cw : Own 60:=λ_ _=>by go_simp
theorem Hc : Own 44:=λ_ _=>by go_simp
theorem MS : Own 42:=λ_ _=>by go_simp
theorem JB : Own 23:=λ_ _=>by go_simp
theorem PC : Own 45:=λ_ _=>by go_simp
theorem Ee : Own 24:=λ_ _=>by go_simp
theorem MN : Own 61:=λ_ _=>by go_simp
theorem MT : Own 22:=λ_ _=>by go_simp
theorem Ja (g : Nat) {A : Option Addr} {c : Nat} (s : Rds) (k : Nat) : Spec 60 [ptr g,.int .i64 (k : Int)] [mU g A c s] (Rd 1 eB A c s.1)
  { ret:=λx : TX=>.v (.slice x.1 (tkO k s).length x.2.1),own:=λx=>[mU g x.2.2.1 x.2.2.2 (tkS k s)],p:=λx w=>Rd 1 eB x.1 x.2.1 (tkO k s) w /\ Rd 1 eB x.2.2.1 x.2.2.2 (tkS k s).1 w }:=by
 refine fD [.c (.v (ptr g)),.c (.v (.int .i64 (k : Int)))] 41 Tryz.func60 rfl (by rw [Tryz.ntmps60]; rfl) (qE trivial trivial) λb=>?_;refine rP (s.1.length <= c /\ (A = none -> c = 0) /\ c <= 9223372036854775807) (λw h _=>⟨h.1,h.2.2.1,h.2.1⟩) λ⟨hlc,hA,hcm⟩=>?_;refine bB aD rfl ?_;refine dJ λK hK=>?_;refine bS aD rfl λK1 hK1=>?_;refine tZ aD rfl rfl rfl rfl rfl rfl (iO 0 rfl) ?_;refine aR aD rfl ?_;refine bJ (hK1 _ ?_);refine jK ((s.2 : Int) ≠ 0) rfl (λh0=>?_) (λh0=>?_)
 ·have h0 : s.2 ≠ 0:=by omega
  obtain ⟨e1,e2⟩:=qF (k:=k) h0;refine bB aD rfl ?_;exact eK (eR aD (none,0,A,c) rfl (by decide) rfl (by rw [e1]; rfl) (by rw [e2]) (λw hF _=>by rw [e1,e2]; exact ⟨Rd.nil _ _ _,hF⟩) (λ_ _=>trivial))
 have h0 : s.2 = 0:=by omega
 refine eW (hK _ ?_);refine dJ λK2 hK2=>?_;refine bS aD rfl λK3 hK3=>?_;refine tZ aD rfl rfl rfl rfl rfl rfl (iO 0 rfl) ?_;refine aR aD rfl ?_;refine bJ (hK3 _ ?_);refine jK ((k : Int) > (s.1.length : Int)) rfl (λh1=>?_) (λh1=>?_)
 ·obtain ⟨e1,e2⟩:=BI (k:=k) h0 (by omega)
  refine bS aD rfl λK4 hK4=>?_;refine Et aD 0 rfl rfl rfl rfl rfl rfl rfl ?_;refine bJ (hK4 _ ?_);refine bB aD rfl ?_;exact eK (eR aD (none,0,A,c) rfl (by decide) rfl (by rw [e1]; rfl) (by rw [e2]; rfl) (λw hF _=>by rw [e1,e2]; exact ⟨Rd.nil _ _ _,hF⟩) (λ_ _=>trivial))
 have hkl : k <= s.1.length:=by omega
 obtain ⟨e1,e2⟩:=BH (k:=k) h0 hkl;refine eW (hK2 _ ?_);refine bS aD rfl λK5 hK5=>?_;refine tZ aD rfl rfl rfl rfl rfl rfl (iO 0 rfl) ?_;refine aR aD rfl ?_;refine rR (.v (.slice A k c)) trivial rfl rfl rfl (vY (sz:=1) rfl (by omega) hA rfl Tryz.underlying23 rfl rfl) ?_;refine aR aD rfl ?_;refine bJ (hK5 _ ?_);refine bS aD rfl λK6 hK6=>?_;refine tZ aD rfl rfl rfl rfl rfl rfl (iO 0 rfl) ?_;refine aR aD rfl ?_;refine rR (.v (.slice (C9 A c k) (s.1.length - k) (c - k))) trivial rfl rfl rfl (Mx hkl hlc hA rfl rfl rfl) ?_;refine aR aD rfl ?_;refine Et aD 0 rfl rfl rfl rfl rfl rfl rfl ?_;refine bJ (hK6 _ ?_);refine bB aD rfl ?_;exact eK (eR aD (A,c,C9 A c k,c - k) rfl (by decide) rfl (by rw [e1,List.length_take,cW hkl]; rfl) (by rw [e2]; dsimp only [mU,rpW]; rw [fW,h0]; rfl) (λw hF _=>by rw [e1,e2]; exact ⟨hF.take k,hF.part hkl⟩) (λ_ _=>trivial))
theorem OH {N : Nat} {E : SE} {o : Oper} {x : Operand} {t' : TypeId} {m : Int} (ho : o.op = .binOp .shl 48 x (.const (.int .u64 8)) t') (hx : evS E x = some (.v (.int .u64 m))) :
  ∀ (G : Nat -> Nat) (a : Act) (w : World),Fr N (fS G E) a -> (execOp a.eval o).run Tryz.prog w = .ok (.value ((SV.v (.int .u64 (IntKind.u64.wrap (m * 256)))).den G)) w:=λG a w ha=>by
 have h1 : a.eval x = .int .u64 m:=ha.eval (cU hx)
 unfold execOp
 simp only [ho,h1]
 show _ = Bo (z9 (.int .u64 (IntKind.u64.wrap (m * 256)))) w
 go_simp
theorem Sv {N : Nat} {E : SE} {o : Oper} {x y : Operand} {t' : TypeId} {m n : Int} (ho : o.op = .binOp .or 48 x y t') (hx : evS E x = some (.v (.int .u64 m))) (hy : evS E y = some (.v (.int .u64 n))) :
  ∀ (G : Nat -> Nat) (a : Act) (w : World),Fr N (fS G E) a -> (execOp a.eval o).run Tryz.prog w = .ok (.value ((SV.v (.int .u64 (bits .or .u64 m n))).den G)) w:=λG a w ha=>by
 have h1 : a.eval x = .int .u64 m:=ha.eval (cU hx);have h2 : a.eval y = .int .u64 n:=ha.eval (cU hy)
 unfold execOp
 simp only [ho,h1,h2]
 go_simp
 rfl
theorem Kj (a : Nat) (x : UInt8) : bits BinOp.or IntKind.u64 (IntKind.u64.wrap ((a : Int) * 256)) (IntKind.u64.wrap (x.toNat : Int)) = (step a x : Int):=by
 have hx : x.toNat < 256:=x.toNat_lt
 have e1 : IntKind.u64.wrap ((a : Int) * 256) = ((a * 256 % 18446744073709551616 : Nat) : Int):=by simp [IntKind.wrap,IntKind.bits,IntKind.signed]
 have e2 : IntKind.u64.wrap (x.toNat : Int) = ((x.toNat : Nat) : Int):=by
  simp [IntKind.wrap,IntKind.bits,IntKind.signed]
  omega
 rw [e1,e2,u64_or_nat _ _ (eJ _ (by omega)) (by omega),nat_join 8 _ _ (by omega) (by omega)]
 unfold step
 omega
theorem Gk {l : List UInt8} {i : Nat} {x : UInt8} (h : l[i]? = some x) : val (l.take (i + 1)) = step (val (l.take i)) x:=by
 rw [List.take_add_one,h];exact Gj _ _
theorem RZ {A : Option Addr} {c : Nat} (l : List UInt8) : Spec 61 [.slice A l.length c] [] (Rd 1 eB A c l) (one (.v (.int .u64 (val l : Int)))):=by
 refine fD [.c (.v (.slice A l.length c))] 19 Tryz.func61 rfl (by rw [Tryz.ntmps61]; rfl) (jB trivial) λb=>?_;refine rP (l.length <= 9223372036854775807) (λw h _=>Nat.le_trans h.1 h.2.1) λhl=>?_;refine bB aD rfl ?_;refine bB aD rfl ?_;refine dJ λK hK=>?_;refine bB aD rfl ?_;refine fB ?_
 let F : Nat -> Env:=λi=>⟨[(8,.v (.int .i64 (i : Int))),(7,.v (.int .i64 (l.length : Int))),(6,.v (.slice A l.length c)),(3,.v (.int .u64 (val (l.take i) : Int)))],[],[],Rd 1 eB A c l,λ_=>True⟩
 refine oM (e':=F 0) ⟨⟨rfl,rfl,rfl,rfl,trivial⟩,trivial,.refl _,λ_ h _=>h,λ_ h=>h⟩ (oG (λi=>l.length - i) F (λi=>i <= l.length) ?_ 0 (bZ _))
 intro i hi
 refine bB aD rfl ?_;refine dJ λK1 hK1=>?_;refine jK ((i : Int) < (l.length : Int)) rfl (λhlt=>?_) (λhge=>?_)
 ·have hlt : i < l.length:=by omega
  obtain ⟨x,hx⟩ : ∃ x,l[i]? = some x:=⟨_,List.getElem?_eq_getElem hlt⟩;have hv:=Gk hx;refine eW (hK1 _ ?_);refine dJ λK2 hK2=>?_;refine fB ?_;refine bS aD rfl λK3 hK3=>?_;refine qQ aD rfl rfl rfl i rfl hx rfl rfl (fX λw h _=>h) ?_;refine aR aD rfl ?_;refine bJ (hK3 _ ?_);refine tU ?_;refine aR aD rfl ?_;refine rR (.v (.int .u64 (IntKind.u64.wrap ((val (l.take i) : Int) * 256)))) trivial rfl rfl rfl (OH rfl rfl) ?_;refine aR aD rfl ?_;refine rR (.v (.int .u64 (val (l.take (i + 1)) : Int))) trivial rfl rfl rfl (by rw [hv,<-Kj]; exact Sv rfl rfl rfl) ?_;refine aR aD rfl ?_;refine bJ (hK2 _ ?_);refine l7 aD rfl ?_;exact oK (i + 1) hlt (by omega) ⟨⟨congrArg some (congrArg SV.v (congrArg (Value.int .i64) (mD rfl (by omega) (by omega)))),rfl,rfl,rfl,trivial⟩,trivial,.refl _,λ_ h _=>h,λ_ h=>h⟩
 ·obtain rfl : l.length = i:=by omega
  refine mT (fY (fY (qS ?_)));refine hK _ ?_;rw [List.take_length];refine bB aD rfl ?_;exact eK (eR aD () rfl (by decide) rfl rfl rfl (λ_ _ _=>trivial) (λ_ _=>trivial))
theorem OS (g : Nat) {A : Option Addr} {c : Nat} (s : Rds) : Spec 44 [ptr g] [mU g A c s] (Rd 1 eB A c s.1)
  { ret:=λ_ : RX=>.v (.int .u64 (nuO s : Int)),own:=λx=>[mU g x.1 x.2 (nuS s)],p:=λx=>Rd 1 eB x.1 x.2 (nuS s).1 }:=by
 refine fD [.c (.v (ptr g))] 6 Tryz.func44 rfl (by rw [Tryz.ntmps44]; rfl) (jB trivial) λb=>?_;refine bB aD rfl ?_;refine bS aD rfl λK1 hK1=>?_;refine fQ [ptr g,.int .i64 ((8 : Nat) : Int)] rfl rfl rfl Cw rfl rfl (λ_ _=>rfl) (Ja g s 8) (λw h _=>h) λ⟨A1,c1,A2,c2⟩=>?_;refine l_R [mU g A2 c2 (nuS s)] rfl ?_;refine eM [.slice A1 (tkO 8 s).length c1] rfl rfl rfl MN rfl rfl (λ_ _=>rfl) (RZ (tkO 8 s)) (λw h _=>h.1.1) λ_=>?_;refine aR aD rfl ?_;refine bJ (hK1 _ ?_);exact eK (eR aD (A2,c2) rfl (by decide) rfl rfl rfl (λw h _=>h.2.1.2) (λ_ _=>trivial))
theorem SD (g : Nat) {A : Option Addr} {c : Nat} (s : Rds) (m : Nat) (hm : m <= 9223372036854775807) : Spec 42 [ptr g,.int .u64 (m : Int)] [mU g A c s] (Rd 1 eB A c s.1)
  { ret:=λ_ : RX=>.v (.int .i64 (moO m s : Int)),own:=λx=>[mU g x.1 x.2 (moS m s)],p:=λx=>Rd 1 eB x.1 x.2 (moS m s).1 }:=by
 refine fD [.c (.v (ptr g)),.c (.v (.int .u64 (m : Int)))] 16 Tryz.func42 rfl (by rw [Tryz.ntmps42]; rfl) (qE trivial trivial) λb=>?_;refine bB aD rfl ?_;refine bS aD rfl λK1 hK1=>?_;refine fQ [ptr g] rfl rfl rfl Hc rfl rfl (λ_ _=>rfl) (OS g s) (λw h _=>h) λ⟨A2,c2⟩=>?_;refine l_R [mU g A2 c2 (nuS s)] rfl ?_;refine aR aD rfl ?_;refine bJ (hK1 _ ?_);refine dJ λK2 hK2=>?_;refine bB aD rfl ?_;refine jK ((nuO s : Int) > (m : Int)) rfl (λh1=>?_) (λh1=>?_)
 ·have e1 : moO m s = 0:=if_pos (by omega)
  have e2 : moS m s = ((nuS s).1,12):=if_pos (by omega);refine bS aD rfl λK4 hK4=>?_;refine Et aD 0 rfl rfl rfl rfl rfl rfl rfl ?_;refine bJ (hK4 _ ?_);refine bB aD rfl ?_;exact eK (eR aD (A2,c2) rfl (by decide) rfl (by rw [e1]; rfl) (by rw [e2]; rfl) (λw h _=>by rw [e2]; exact h.1) (λ_ _=>trivial))
 ·have e1 : moO m s = nuO s:=if_neg (by omega)
  have e2 : moS m s = nuS s:=if_neg (by omega);refine eW (hK2 _ ?_);refine bS aD rfl λK4 hK4=>?_;refine tY 4 (nuO s : Int) rfl (mD rfl (by omega) (by omega)) ?_;refine bJ (hK4 _ ?_);exact eK (eR aD (A2,c2) rfl (by decide) rfl (by rw [e1]; rfl) (by rw [e2]) (λw h _=>by rw [e2]; exact h.1) (λ_ _=>trivial))
theorem OZ (g : Nat) {A : Option Addr} {c : Nat} (s : Rds) : Spec 23 [ptr g] [mU g A c s] (Rd 1 eB A c s.1)
  { ret:=λ_ : RX=>.v (.int .i64 (moO 65536 s : Int)),own:=λx=>[mU g x.1 x.2 (moS 65536 s)],p:=λx=>Rd 1 eB x.1 x.2 (moS 65536 s).1 }:=by
 refine fD [.c (.v (ptr g))] 5 Tryz.func23 rfl (by rw [Tryz.ntmps23]; rfl) (jB trivial) λb=>?_;refine bB aD rfl ?_;refine bS aD rfl λK1 hK1=>?_;refine fQ [ptr g,.int .u64 ((65536 : Nat) : Int)] rfl rfl rfl MS rfl rfl (λ_ _=>rfl) (SD g s 65536 (by decide)) (λw h _=>h) λ⟨A2,c2⟩=>?_;refine aR aD rfl ?_;refine bJ (hK1 _ ?_);exact eK (eR aD (A2,c2) rfl (by decide) rfl rfl rfl (λw h _=>h.1) (λ_ _=>trivial))
theorem Vw (g : Nat) {A : Option Addr} {c : Nat} (s : Rds) : Spec 45 [ptr g] [mU g A c s] (Rd 1 eB A c s.1)
  { ret:=λ_ : RX=>.q (eY 64 (sgO s)),own:=λx=>[mU g x.1 x.2 (uD s)],p:=λx=>Rd 1 eB x.1 x.2 (uD s).1 }:=by
 refine fD [.c (.v (ptr g))] 9 Tryz.func45 rfl (by rw [Tryz.ntmps45]; rfl) (jB trivial) λb=>?_;have hl:=(xR 64 s).1
 have ep : tkO 64 s ++ (aE 64 (0 : UInt8)).drop (tkO 64 s).length = sgO s:=by
  unfold sgO A9
  rw [List.drop_replicate]
 refine bB aD rfl ?_;refine bB aD rfl ?_;refine dJ λK hK=>?_;refine KR 3 [] (by kernel_rfl) (by decide) (λ_ _ _ _ h=>by cases h) ?_;refine zW (.s 3 0 64 64) trivial 0 (by kernel_rfl) rfl rfl rfl rfl rfl (uQ rfl Tryz.underlying38 rfl rfl) ?_;refine tR aD 1 (by kernel_rfl) rfl rfl rfl rfl rfl rfl (λ_ h=>by cases h) ?_;refine Dk 2 (by kernel_rfl) rfl λK1 hK1=>?_;refine fQ [ptr g,.int .i64 ((64 : Nat) : Int)] rfl rfl rfl Cw rfl rfl (λ_ _=>rfl) (Ja g s 64) (λw h _=>h) λ⟨A1,c1,A2,c2⟩=>?_;refine l_R [mU g A2 c2 (uD s)] rfl ?_;refine bJ (hK1 _ (λ_ _ _ _ h=>by cases h) ?_);refine Dj (by kernel_rfl) ?_;refine Ln (z:=aE 64 0) rfl rfl rfl rfl rfl rfl rfl bH hl (fX λw h _=>h.1.1) ?_;rw [ep];refine bJ (hK _ ?_);refine bB aD rfl ?_;exact eK (eR aD (A2,c2) rfl (by decide) rfl rfl rfl (λw h _=>h.1.2) (λ_ _=>trivial))
theorem La (g : Nat) {A : Option Addr} {c : Nat} (s : Rds) : Spec 24 [ptr g] [mU g A c s] (λ_=>True)
  { ret:=λ_ : Unit=>.v (.int .i64 (pR s : Int)),own:=λ_=>[mU g A c s] }:=by
 refine fD [.c (.v (ptr g))] 23 Tryz.func24 rfl (by rw [Tryz.ntmps24]; rfl) (jB trivial) λb=>?_;refine bB aD rfl ?_;refine dJ λK hK=>?_;refine fB ?_;refine bB aD rfl ?_;refine E5 rfl ?_;refine bS aD rfl λK1 hK1=>?_;refine tZ aD rfl rfl rfl rfl rfl rfl (iO 0 rfl) ?_;refine aR aD rfl ?_;refine bJ (hK1 _ ?_);refine jK ((s.2 : Int) ≠ 0) rfl (λh0=>?_) (λh0=>?_)
 ·have e : pR s = s.2:=if_neg (by omega)
  refine bS aD rfl λK2 hK2=>?_;refine tZ aD rfl rfl rfl rfl rfl rfl (iO 0 rfl) ?_;refine aR aD rfl ?_;refine bJ (hK2 _ ?_);exact eK (eR aD () rfl (by decide) rfl (by rw [e]; rfl) rfl (λ_ _ _=>trivial) (λ_ _=>trivial))
 have e0 : pR s = if s.1.length = 0 then 0 else 11:=if_pos (by omega);refine bS aD rfl λK2 hK2=>?_;refine tZ aD rfl rfl rfl rfl rfl rfl (iO 0 rfl) ?_;refine aR aD rfl ?_;refine bJ (hK2 _ ?_);refine jK ((s.1.length : Int) > 0) rfl (λh1=>?_) (λh1=>?_)
 ·rw [if_neg (by omega)] at e0
  refine bB aD rfl ?_;exact eK (eR aD () rfl (by decide) rfl (by rw [e0]; rfl) rfl (λ_ _ _=>trivial) (λ_ _=>trivial))
 ·rw [if_pos (by omega)] at e0
  refine eW (hK _ ?_);refine bB aD rfl ?_;exact eK (eR aD () rfl (by decide) rfl (by rw [e0]; rfl) rfl (λ_ _ _=>trivial) (λ_ _=>trivial))
theorem SJ {A : Option Addr} {c : Nat} (l : List UInt8) (hl : l.length <= 281474976710656) : Spec 22 [.slice A l.length c] [] (Rd 1 eB A c l)
  { ret:=λx : Nat × Nat=>.v (ptr x.1),own:=λx=>[mU x.1 (some ⟨x.2,0,none⟩) l.length (l,0)],n:=λx=>Rd 1 eB (some ⟨x.2,0,none⟩) l.length l }:=by
 refine fD [.c (.v (.slice A l.length c))] 8 Tryz.func22 rfl (by rw [Tryz.ntmps22]; rfl) (jB trivial) λb=>?_;refine bB aD rfl ?_;refine bS aD rfl λK1 hK1=>?_;refine pF aD b.B.heap.size [⟨A,c,l⟩] (fe:=zO) rfl rfl rfl rfl rfl (λ_=>rfl) rfl (by decide) (by decide) (wD _) (aH _) λP=>?_;refine tH 0 rfl ?_;have hj:=Fz (A:=P) (c:=1) [⟨A,c,l⟩] (by simp; omega)
 have e0 : (List.map Seg.l [⟨A,c,l⟩]).flatten = l:=by simp
 rw [e0] at hj;refine eM [.slice P 1 1] rfl rfl rfl zB rfl rfl (λ_ _=>rfl) hj (λw h _=>⟨h.1,λs hs=>by rw [bK.1 hs]; exact h.2⟩) λgb=>?_;refine aR aD rfl ?_;refine bJ (hK1 _ ?_);refine eK (Ay 2 rfl (E':=[]) trivial λg=>?_);exact eR aD (g,gb) rfl (by decide) rfl rfl rfl (λ_ _ _=>trivial) (λw h=>h.1)
theorem OJ {N : Nat} {E : SE} {o : Oper} {x y : Operand} {p q : Nat} (ho : o.op = .call { callee:=.builtin .max,args:=#[x,y],argTypes:=#[48,48] }) (hx : evS E x = some (.v (.int .u64 (p : Int)))) (hy : evS E y = some (.v (.int .u64 (q : Int)))) :
  ∀ (G : Nat -> Nat) (a : Act) (w : World),Fr N (fS G E) a -> (execOp a.eval o).run Tryz.prog w = .ok (.value ((SV.v (.int .u64 ((max p q : Nat) : Int))).den G)) w:=λG a w ha=>by
 have h1 : a.eval x = .int .u64 (p : Int):=ha.eval (cU hx);have h2 : a.eval y = .int .u64 (q : Int):=ha.eval (cU hy)
 unfold execOp
 simp only [ho];generalize a.eval = ρ at *
 show _ = Bo (z9 (.int .u64 ((max p q : Nat) : Int))) w
 go_simp
 split <;> omega
section
variable {f : FuncId} {args : List Value} {F : World -> Prop} {l : List UInt8}
theorem Spec.made (h : ∀ w,F w -> Calls Tryz.prog f args.toArray w (Made w l)) : Spec f args [] F
  { ret:=λg : Nat=>.v (.slice (some ⟨g,0,none⟩) l.length l.length),n:=λg=>Rd 1 eB (some ⟨g,0,none⟩) l.length l }:=λw S X hS _ hF=>by
 refine (h w hF.now).mono ?_
 rintro e w' ⟨g,he,ho,hb⟩
 refine ⟨g,S,he,trivial,Chg.tV hb,hS.mF λk hk=>hb.block k (hS.lt k hk),λ_ h _=>h,λ_ _=>trivial,?_⟩;have h3 : (gA w.heap.size 5 1 eB (some ⟨g,0,none⟩) l.length l).holds w' λj=>(some (⟨g,0,none⟩ : Addr)).map (·.block) = some j:=⟨uY _,by rw [CX]; exact ho,λ_=>wZ⟩;have h4:=gA.rd h3;have h6:=(gA.inb h3 _ rfl).1
 intro w2 hw2
 refine h4.mF hw2.size λb' e hlt=>hw2.block b' hlt ?_;simp only [eZ,bG] at e;subst e
 rintro (h5 | h5)
 ·exact jW _ (bM h5 h6)
 ·exact jW _ (bM (hS.lt _ h5) h6)
theorem Spec.XC (h : ∀ w,F w -> Calls Tryz.prog f args.toArray w (Yl w l)) : Spec f args [] F
  { ret:=λx : Option Addr × Nat=>.v (.slice x.1 l.length x.2),own:=λx=>[gA 0 5 1 eB x.1 x.2 l] }:=λw S X hS _ hF=>by
 refine (h w hF.now).mono ?_
 rintro e w' ⟨A,c,he,ho,hb⟩
 have h3 : (gA w.heap.size 5 1 eB A c l).holds w' λj=>A.map (·.block) = some j:=⟨uY _,by rw [CX]; exact ho,λ_=>wZ⟩;have h4 : (gA 0 5 1 eB A c l).holds w' λj=>A.map (·.block) = some j:=⟨uY _,by rw [CX]; exact Hm ho (bZ _),λ_=>wZ⟩;refine ⟨(A,c),λj=>A.map (·.block) = some j,he,trivial,Chg.tV hb,Mr.2 h4,λk hk hlt=>?_,λ_ _=>trivial,λ_ _=>trivial⟩
 cases A with
 | none=>cases hk
 | some ad =>
  simp only [eZ,bG] at hk;have:=(gA.inb h3 ad rfl).1
  omega
end
section
variable {b : iI} {G : Nat -> Nat} {S : Nat -> Prop} {L : List LV} {R : List Res} {F M : World -> Prop} {w : World} {g : Nat} {t : TypeId} {ps : List Pt}
theorem StW.XP (h : StW b G S L R F M w) {i : Nat} (hi : R[i]? = some (DJ g t ps)) : ∃ S',StW b G S' L (R.eraseIdx i) (λw=>yH g t ps w /\ F w) M w:=by
 obtain ⟨S1,S2,⟨h1,h1'⟩,h2,h3,h4⟩:=h.let hi;refine ⟨S2,h4.and (p:=yH g t ps) λw' hw=>⟨(hw.block g h1.1.lt λhx=>?_).trans h1.1,h1.2⟩⟩
 rcases hx with hx | hx | ⟨j,hj,e⟩
 ·exact (h.old g hx).2 (h.mine g (.inl ((h3 g).2 (.inl ((h1' g).2 rfl)))) (h.old g hx).1)
 ·exact h2 g ((h1' g).2 rfl) hx
 ·exact h.sep j hj ((h3 _).2 (.inl ((h1' _).2 e)))
variable {P : Program} {Q : Exit -> Act -> World -> Prop} {N : Nat} {E : SE}
theorem BL {x : Code} (i : Nat) (hi : R[i]? = some (DJ g t ps)) (h : cS P b x Q N ⟨E,L,R.eraseIdx i,λw=>yH g t ps w /\ F w,M⟩) : cS P b x Q N ⟨E,L,R,F,M⟩:=λa w ⟨G,S,h1,h2,h3⟩=>by
 obtain ⟨S',h4⟩:=h3.XP hi;exact h a w ⟨G,S',h1,h2,h4⟩
end
theorem PJ {g n : Nat} {t : TypeId} {l : List UInt8} {w : World} (h : yH g t [.agg n (By l).toArray] w) (hn : n <= 9223372036854775807) : Rd 1 eB (some ⟨g,0,none⟩) n l w:=by
 have h1 : l.length = n:=by
  have:=(h.2 _ cB).1
  rwa [a9,cD] at this
 refine ⟨Nat.le_of_eq h1,hn,λh=>(by cases h),uY l,λ_=>⟨g,0,rfl,h.1.lt,λi x hi j v hj=>?_⟩⟩;have hB : Blk w g t (By l).toArray:=h.1;rw [hB.cell]
 cases j with
 | zero =>
  have e : v = .int .u8 (x.toNat : Int):=(fV ((show (eB x).cl[0]? = some (.int .u8 (x.toNat : Int)) from rfl).symm.trans hj)).symm;obtain ⟨h2,h3⟩:=List.getElem?_eq_some_iff.1 hi;have h4:=Kr h2;rw [getElem!_pos l i h2,h3] at h4;rw [e]
  simpa using h4
 | succ j =>
  have : (eB x).cl[j + 1]? = none:=rfl;rw [this] at hj
  cases hj
theorem oH {P : Program} {N : Nat} {E : SE} {o : Oper} {x : Operand} {t e : TypeId} {g off n sz : Nat} (ho : o.op = .slice t x none none none) (ht : P.underlying t = some (.array n e)) (he : (P.info? e).map (·.size) = some sz) (hx : evS E x = some (.v (.pointer (some ⟨g,off,none⟩)))) :
  ∀ (G : Nat -> Nat) (a : Act) (w : World),Fr N (fS G E) a -> (execOp a.eval o).run P w = .ok (.value ((SV.v (.slice (some ⟨g,off,none⟩) n n)).den G)) w:=λG a w ha=>by
 have h1 : a.eval x = .pointer (some ⟨g,off,none⟩):=ha.eval (cU hx);have h5:=run_sizeOf he w
 unfold execOp
 simp only [ho];generalize a.eval = ρ at *;simp only [Option.map,h1]
 show _ = Bo (z9 (.slice (some ⟨g,off,none⟩) n n)) w
 simp [Instr.sliceAt,rL,run_underlying ht,Instr.sliceBounds,h5,aJ,iS]
theorem S8 : Own 32:=λ_ _=>by go_simp
theorem y8 : Own 16:=λ_ _=>by go_simp
theorem Ec : Own 19:=λ_ _=>by go_simp
theorem XH (v : Nat) (hv : v < 18446744073709551616) : Spec 32 [.int .u64 (v : Int)] [] (λ_=>True) (one (.q (eY 8 (be8 v)))) :=
 Spec.pure (nJ (nL v)).1 λw _=>Lm v w hv
theorem SF (v : Nat) (hv : v < 18446744073709551616) : Spec 19 [.int .u64 (v : Int)] [] (λ_=>True)
  { ret:=λg : Nat=>.v (.slice (some ⟨g,0,none⟩) (be8 v).length (be8 v).length),n:=λg=>Rd 1 eB (some ⟨g,0,none⟩) (be8 v).length (be8 v) } :=
 Spec.made λw _=>Cm v w hv
theorem EO {A : Option Addr} {c : Nat} (l : List UInt8) (v : Nat) (hv : v < 18446744073709551616) (hl : l.length + 8 <= 281474976710656) : Spec 16 [.slice A l.length c,.int .u64 (v : Int)] [] (Rd 1 eB A c l)
  { ret:=λg : Nat=>.v (.slice (some ⟨g,0,none⟩) (l ++ be8 v).length (l ++ be8 v).length),n:=λg=>Rd 1 eB (some ⟨g,0,none⟩) (l ++ be8 v).length (l ++ be8 v) }:=by
 refine fD [.c (.v (.slice A l.length c)),.c (.v (.int .u64 (v : Int)))] 12 Tryz.func16 rfl (by rw [Tryz.ntmps16]; rfl) (qE trivial trivial) λb=>?_;refine bB aD rfl ?_;refine bS aD rfl λK1 hK1=>?_;refine eM [.int .u64 (v : Int)] rfl rfl rfl S8 rfl rfl (λ_ _=>rfl) (XH v hv) (λ_ _ _=>trivial) λ_=>?_;refine aR aD rfl ?_;refine bJ (Ay 5 rfl (E':=[(0,.v (.slice A l.length c))]) ⟨rfl,trivial⟩ λg=>hK1 _ ?_);refine BL 0 rfl ?_;refine bS aD rfl λK2 hK2=>?_;refine rR (.v (.slice (some ⟨g,0,none⟩) 8 8)) trivial rfl rfl rfl (oH rfl Tryz.underlying70 rfl rfl) ?_;refine pF aD b.B.heap.size [⟨A,c,l⟩,⟨some ⟨g,0,none⟩,8,be8 v⟩] (fe:=zO) rfl rfl rfl rfl rfl (λ_=>rfl) rfl (by decide) (by decide) (wD _) (aH _) λP=>?_;refine tH 0 rfl ?_
 have e0 : (List.map Seg.l [⟨A,c,l⟩,⟨some ⟨g,0,none⟩,8,be8 v⟩]).flatten = l ++ be8 v:=by simp
 have hj:=Fz (A:=P) (c:=2) [⟨A,c,l⟩,⟨some ⟨g,0,none⟩,8,be8 v⟩] (by rw [e0,aI,nL]; exact hl);rw [e0] at hj
 refine eM [.slice P 2 2] rfl rfl rfl zB rfl rfl (λ_ _=>rfl) hj (λw h _=>⟨h.1,λs hs=>by
  rcases b7.1 hs with rfl | hs
  ·exact h.2.2.2
  ·rw [bK.1 hs]
   exact PJ (n:=8) h.2.1 (Nat.le_of_ble_eq_true rfl)⟩) λgb=>?_
 refine aR aD rfl ?_;refine bJ (hK2 _ ?_);exact eK (eR aD gb rfl (by decide) rfl rfl rfl (λ_ _ _=>trivial) (λw h=>h.1))
section
variable {T : List TyR} {b : iI} {ops : Array Oper} {Q : Exit -> Act -> World -> Prop} {N : Nat} {G : Nat -> Nat} {S : Nat -> Prop} {E : SE} {L : List LV} {R : List Res} {F M : World -> Prop} {w0 : World} {T' : List Oper} {Fa : Told} {i k : Nat} {o : Oper} {rest : List (Nat × Oper)}
theorem TH {ty : TypeId} (zs : Array Value) (hg : o.guard = none) (hd : o.dst = some k) (hk : aQ k N = true) (hf : rS i Fa = true) (ho : o.op = .alloc ty) (hz : (Tryz.prog.info? ty).bind (λi=>i.zero.map (·.cells)) = some zs)
  (hn : ∀ g,hS Tryz.prog ops Q N T' G w0 rest ((k,.v (.pointer (some ⟨g,0,none⟩))) :: E) ((i,λw=>w0.heap.size <= g /\ Blk w g ty zs) :: Fa)) : hS Tryz.prog ops Q N T' G w0 ((i,o) :: rest) E Fa:=λhE =>
 zK zs w0.heap.size hg hd hk hf ho hz (λ_ h=>h.size) (λ_ _ _ h hb=>⟨h.1,h.2.later hb⟩) λg _ _ _ _=>hn g (hE.cons (v:=.v (.pointer (some ⟨g,0,none⟩))) trivial)
theorem Wa (hst : StW b G S L R F M w0) {g : Nat} {ty : TypeId} {ps : List Pt} (k i : Nat) (E' : SE) (hi : Es Fa i = some (λw=>w0.heap.size <= g /\ Blk w g ty (eI ps))) (hk : iU E k = some (.v (.pointer (some ⟨g,0,none⟩)))) (hE' : FY E' E) (hfE : Ii k E' = true) (hfL : AE k L = true) (hok : OkP ps)
  (h : lS Tryz.prog b ops Q N T' ⟨(k,.a k 0) :: E',⟨k,none,ty,ps⟩ :: L,R,F,M⟩) : hS Tryz.prog ops Q N T' G w0 [] E Fa:=λhE=>jT λw hw hF=>λa ha=>by
 obtain ⟨h1,h2⟩:=hF i _ hi
 have hfr : Fr N (fS (λj=>if j = k then g else G j) ((k,.a k 0) :: E')) a:=ha.sub ⟨by
  rw [iK,hk]
  show some (Value.pointer (some ⟨g,0,none⟩)) = some (Value.pointer (some ⟨if k = k then g else G k,0,none⟩))
  rw [if_pos rfl],by rw [C8 hfE]; exact zP hE'⟩
 have hst2:=hst.news (E:=E') (gs:=λ_=>g) hw [⟨k,none,ty,ps⟩] (by simp [CU,hfE,hfL,AE]) (λu hu=>by rw [bK.1 hu]; exact hok) (λ_ _=>h1) (λi j hi hj hne=>absurd (show i = j by simp at hi hj; omega) hne) λu hu=>by
  rw [bK.1 hu]
  show Blk w (if k = k then g else G k) ty (eI ps)
  rw [if_pos rfl];exact h2
 exact h a w ⟨_,S,hfr,OkE.cons (FY.ok hE' hE) (v:=.a k 0) trivial,hst2⟩
theorem Qs {x : Operand} {A : Option Addr} {c : Nat} (l : List UInt8) (hst : StW b G S L R F M w0) (hf : rS i Fa = true) (hg : o.guard = none) (hd : o.dst = some k) (hk : aQ k N = true) (ho : o.op = .convert 23 9 x) (hx : evS E x = some (.v (.slice A l.length c)))
  (h : ∀ w,View G S L R F M w -> Uses o Fa w -> Rd 1 eB A c l w) (hn : hS Tryz.prog ops Q N T' G w0 rest ((k,vS l) :: E) Fa) : hS Tryz.prog ops Q N T' G w0 ((i,o) :: rest) E Fa :=
 h_f hst (vS l) trivial hf (λ_ _ hC hQ=>QK (.slice A l.length c) l hg hd hk ho (cU hx) (λw' hw'=>(h w' (hC w' hw').1 (hC w' hw').2).sb) hQ) hn
theorem Vs {P : Program} {id : Nat} {l : List Oper} (n : Nat) (hn : n <= l.length) (hm : P.follows .mixedOrders = true) (hB : AX l.toArray n (l.drop n).length = true)
  (h : ∀ G S w0,StW b G S L R F M w0 -> hS P l.toArray Q N (l.drop n) G w0 (idx 0 (l.take n)) E []) : cS P b (.region id l.toArray true) Q N ⟨E,L,R,F,M⟩:=KQ n hn hm hB λG S w0 hst=>h G S w0 hst
end
abbrev Hw (l : List UInt8) : wX Nat:={ ret:=λg=>.v (.slice (some ⟨g,0,none⟩) l.length l.length),p:=λg=>Rd 1 eB (some ⟨g,0,none⟩) l.length l }
abbrev PY (l : List UInt8) : wX Nat:={ ret:=λg=>.v (.slice (some ⟨g,0,none⟩) l.length l.length),n:=λg=>Rd 1 eB (some ⟨g,0,none⟩) l.length l }
theorem Spec.p1 {f : FuncId} {args : List Value} {F : World -> Prop} {l : List UInt8} (h : Spec f args [] F (PY l)) : Spec f args [] F (Hw l):=λw S X hs hX hF=>by
 refine (h w S X hs hX hF).mono ?_
 rintro e w' ⟨x,S',h1,h2,h3,h4,h5,h6,h7⟩
 refine ⟨x,S',h1,h2,h3,h4,h5,h7.less λk _ hk=>?_,λ_ _=>trivial⟩
 rcases hk with hk | hk
 ·exact .inl (hX k hk).1
 ·exact .inr hk
instance {l : List UInt8} {g : Nat} : Pst ((Hw l).p g):=inferInstanceAs (Pst (Rd 1 eB (some ⟨g,0,none⟩) l.length l))
instance pst_true : Pst (λ_ : World=>True):=⟨λ_ _ _ _=>trivial⟩
instance {r : RV} {x : Unit} : Pst ((one r).p x):=⟨λ_ _ _ _=>trivial⟩
theorem Hv {l : List UInt8} {x : Nat} {w : World} (h : ∃ y,((Hw l).ret x).den = ((Hw l).ret y).den /\ (Hw l).p y w) : Rd 1 eB (some ⟨x,0,none⟩) l.length l w:=by
 obtain ⟨y,e,hy⟩:=h;have e : Value.slice (some ⟨x,0,none⟩) l.length l.length = .slice (some ⟨y,0,none⟩) l.length l.length:=e
 injection e with e
 injection e with e
 injection e with e
 rw [e];exact hy
abbrev Gr (l : List UInt8) : wX (Option Addr × Nat):={ ret:=λx=>.v (.slice x.1 l.length x.2),p:=λx=>Rd 1 eB x.1 x.2 l }
instance {l : List UInt8} {x : Option Addr × Nat} : Pst ((Gr l).p x):=inferInstanceAs (Pst (Rd 1 eB x.1 x.2 l))
theorem Of {l : List UInt8} {x : Option Addr × Nat} {w : World} (h : ∃ y,((Gr l).ret x).den = ((Gr l).ret y).den /\ (Gr l).p y w) : Rd 1 eB x.1 x.2 l w:=by
 obtain ⟨y,e,hy⟩:=h;have e : Value.slice x.1 l.length x.2 = .slice y.1 l.length y.2:=e
 injection e with e1 _ e2
 rw [e1,e2];exact hy
theorem Spec.VH {f : FuncId} {args : List Value} {F : World -> Prop} {l : List UInt8} (h : ∀ w,F w -> Calls Tryz.prog f args.toArray w (Made w l)) : Spec f args [] F
  { ret:=λx : Option Addr × Nat=>.v (.slice x.1 l.length x.2),own:=λx=>[gA 0 5 1 eB x.1 x.2 l] } :=
 Spec.XC λw hF=>(h w hF).mono λ_ _ ⟨g,he,ho,hb⟩=>⟨some ⟨g,0,none⟩,l.length,he,ho,hb⟩
end Go.Proofs.YtfkchihlchlfdaaGreatDoor
namespace Go.Proofs.YtfkchihlchlfdaaGreatDoor
open Go.RowKit Go.IntWalk Nums
instance : Pst Ta:=⟨λ_ _ h hb=>h.below hb⟩
theorem Vr {A : Option Addr} {c : Nat} {seed b : List UInt8} (t : UInt8) (hs : seed.length = 32) (hb : b.length <= 140737488355312) :
  Spec 28 [.agg (By seed).toArray,.int .u8 (t.toNat : Int),.slice A b.length c] [] (λw=>Ta w /\ Rd 1 eB A c b w) (one (.q (eY 64 (jZ seed (msg t b))))) :=
 Spec.pure (nJ (k9 _ _)).1 λw h=>Vq t hs w h.1 h.2.sb hb
theorem S7 {A : Option Addr} {c : Nat} {key sig b : List UInt8} (t : UInt8) (hk : key.length = 32) (hs : sig.length = 64) (hb : b.length <= 140737488355312) :
  Spec 31 [.agg (By key).toArray,.int .u8 (t.toNat : Int),.slice A b.length c,.agg (By sig).toArray] [] (λw=>Ta w /\ Rd 1 eB A c b w) (one (.q (.c (.b (nE key sig (msg t b)))))) :=
 Spec.pure trivial λw h=>SZ t hk hs w h.1 h.2.sb hb
theorem O4 {seed : List UInt8} (hs : seed.length = 32) : Spec 29 [.agg (By seed).toArray] [] Ta (one (.q (eY 32 (gV seed)))) :=
 Spec.pure (nJ (l6 _)).1 λw h=>O3 hs w h
theorem u32_or (a b : Nat) (ha : a < 4294967296) (hb : b < 4294967296) : bits .or .u32 (a : Int) (b : Int) = ((a ||| b : Nat) : Int):=u32_or_nat a b ha hb
theorem oR (x n : Nat) (hx : x < 4294967296) (h0 : 0 < n) (hn : n < 32) (w : World) :
  Calls Tryz.prog 58 #[.int .u32 (x : Int),.int .i64 (-(n : Int))] w λe w'=>e = .returned (.int .u32 ((eD 32 n x : Nat) : Int)) /\ w' = w:=by
 have q1 : IntKind.u64.wrap (-(n : Int)) = ((18446744073709551616 - n : Nat) : Int):=by
  rw [aP]
  omega
 have q2 : bits .and .u64 ((18446744073709551616 - n : Nat) : Int) 31 = ((32 - n : Nat) : Int):=by
  have h:=u64_and_nat (18446744073709551616 - n) 31 (by omega) (by omega);have e : (18446744073709551616 - n) &&& 31 = (18446744073709551616 - n) % 32:=Nat.and_two_pow_sub_one_eq_mod _ 5;rw [e] at h
  have e2 : (18446744073709551616 - n) % 32 = 32 - n:=by omega
  rw [e2] at h;exact h
 obtain ⟨e1,e2⟩:=OR 32 n x (by omega) hx
 have q3 : IntKind.u32.wrap ((x : Int) * 2 ^ (32 - n)) = ((x % 2 ^ n * 2 ^ (32 - n) : Nat) : Int):=by
  rw [<-e1,bQ]
  simp
 have q4 : IntKind.u64.wrap (32 - ((32 - n : Nat) : Int)) = (n : Int):=by
  rw [aP]
  omega
 have f1 : ((x : Int) / 2 ^ n) = ((x / 2 ^ n : Nat) : Int):=by simp
 have hm : x % 2 ^ n * 2 ^ (32 - n) < 4294967296:=by
  rw [<-e1];exact eJ _ (by decide)
 have hd : x / 2 ^ n < 4294967296:=Nat.lt_of_le_of_lt (Nat.div_le_self _ _) hx
 have q5 : bits .or .u32 ((x % 2 ^ n * 2 ^ (32 - n) : Nat) : Int) ((x / 2 ^ n : Nat) : Int) = ((eD 32 n x : Nat) : Int):=by
  rw [u32_or _ _ hm hd,nat_join (32 - n) _ _ (Nat.mul_mod_left _ _) e2]
  unfold eD
  rw [Nat.add_comm]
 have g1 : ((32 - n : Nat) : Int) <= 32:=by omega
 have g2 : (n : Int) <= 32:=by omega
 clear e1 e2 hm hd;generalize eD 32 n x = r at *;generalize x % 2 ^ n * 2 ^ (32 - n) = m at *;generalize x / 2 ^ n = d at *;generalize hs : 32 - n = s at *;generalize 18446744073709551616 - n = u at *;clear hs
 go_enter Tryz.func58,Tryz.ntmps58
 go_wp2
 go_ret
 exact ⟨rfl,rfl⟩
def Uw (l : List Nat) : List Value:=l.map λx : Nat=>.int .u32 (x : Int)
theorem AN (l : List Nat) : (Uw l).length = l.length:=by simp [Uw]
theorem AM (l : List Nat) : ∀ u ∈ Uw l,u.oneCell' = true:=by
 intro u hu
 obtain ⟨x,_,rfl⟩:=gP.1 hu
 rfl
theorem zX {l : List Nat} {j : Nat} (h : j < l.length) : (Uw l).toArray[j]? = some (.int .u32 (l[j]! : Nat)):=by
 simp [Uw,h]
theorem RA (l : List Nat) (k x : Nat) : (Uw l).toArray.setIfInBounds k (.int .u32 (x : Int)) = (Uw (l.set k x)).toArray:=by
 simp [Uw,List.map_set]
theorem orV (i x y : Nat) (hx : x % 2 ^ i = 0) (hy : y < 2 ^ i) (h1 : x < 4294967296) (h2 : y < 4294967296) : bits .or .u32 (x : Int) (y : Int) = ((x + y : Nat) : Int):=by
 rw [u32_or_nat x y h1 h2,nat_join i x y hx hy]
theorem Xw {e : Nat} (he : e < 4294967296) : bits .xor .u32 (if IntKind.u32.signed = true then -1 else IntKind.u32.max) (e : Int) = ((2 ^ 32 - 1 - e : Nat) : Int):=by
 have h:=u32_xor_nat 4294967295 e (by omega) he
 have h2 : 4294967295 ^^^ e = 2 ^ 32 - 1 - e:=by
  apply Nat.eq_of_testBit_eq
  intro i
  rw [show 2 ^ 32 - 1 - e = 2 ^ 32 - (e + 1) by omega,Nat.testBit_two_pow_sub_succ he,Nat.testBit_xor,show 4294967295 = 2 ^ 32 - 1 from rfl,Nat.testBit_two_pow_sub_one]
  by_cases hi : i < 32
  ·simp [hi]
  ·have h3 : e.testBit i = false:=Nat.testBit_lt_two_pow (bM he (Nat.pow_le_pow_right (n:=2) (by decide) (show 32 <= i by omega)))
   simp [hi,h3]
 rw [h2] at h;exact h
theorem yO (cs : Array Value) (h : cs.size = 64) : (Tryz.prog.info? 102).map (·.size) = some cs.size:=by
 rw [h]
 kernel_rfl
def oC : List Nat:=aE 64 0
theorem jG : oC.length = 64:=by decide
theorem NQ (k : Nat) : oC[k]! = 0:=by
 unfold oC
 by_cases h : k < 64
 ·rw [getElem!_pos _ k (by rw [bH]; exact h),List.getElem_replicate]
 ·rw [getElem!_neg _ k (by rw [bH]; exact h)]
  rfl
theorem U2 : (Tryz.prog.info? 102).bind (λi=>i.zero.map (·.cells)) = some (Uw oC).toArray:=by kernel_rfl
theorem Mu {F : Nat -> Nat} {k : Nat} : (mxl F oC k).set k 0 = mxl F oC k:=by
 apply List.ext_getElem (by simp)
 intro i h1 h2
 rw [List.getElem_set]
 by_cases h : k = i
 ·subst h
  have h3 : k < 64:=by simpa [eF,jG] using h2
  rw [if_pos rfl];have:=zE F oC (k:=k) (by rw [jG]; exact h3);rw [getElem!_pos _ k h2,NQ] at this;exact this.symm
 ·rw [if_neg h]
structure LS2 (w wr : World) (b : List UInt8) (l : List Nat) : Prop where
  b0 : Blk wr w.heap.size 38 (By b).toArray
  b1 : Blk wr (w.heap.size + 1) 102 (Uw oC).toArray
  b2 : Blk wr (w.heap.size + 1 + 1) 102 (Uw l).toArray
  be : Below w.heap.size w wr
theorem LS2.set {w wr : World} {b : List UInt8} {l : List Nat} (h : LS2 w wr b l) (k x : Nat) : LS2 w (wr.setCell ⟨w.heap.size + 1 + 1,k,none⟩ (.int .u32 (x : Int))) b (l.set k x) where
 b0:=h.b0.far (by show w.heap.size ≠ w.heap.size + 1 + 1; omega) _
 b1:=h.b1.far (by show w.heap.size + 1 ≠ w.heap.size + 1 + 1; omega) _
 b2:=by
  have h4:=h.b2.set k (.int .u32 (x : Int));rw [RA] at h4;exact h4
 be:=h.be.setCell (by show w.heap.size <= w.heap.size + 1 + 1; omega) _
theorem LS2.drew {w wr : World} {b : List UInt8} {l : List Nat} (h : LS2 w wr b l) : LS2 w wr.drew b l:=⟨h.b0,h.b1,h.b2,h.be.drew⟩
theorem M7 {b : List UInt8} (hb : b.length = 64) (w : World) :
  Calls Tryz.prog 57 #[.agg (By b).toArray] w λe w'=>e = .returned (.agg (Uw (mxl (sx cH b) oC 64)).toArray) /\ Below w.heap.size w w':=by
 have hlt:=Gu cH b (by decide)
 have h16 : ∀ t,t < 16 -> sx cH b t = ben (λk=>(b[4 * t + k]!).toNat) 4:=λt ht=>by
  rw [sx,dif_pos ht]
  unfold IE
  rw [Nat.mul_comm t]
  rfl
 have hrec : ∀ t,16 <= t -> sx cH b t = (pO 32 (17,19,10) (sx cH b (t - 2)) + sx cH b (t - 7) + pO 32 (7,18,3) (sx cH b (t - 15)) + sx cH b (t - 16)) % 4294967296:=λt ht=>by
  rw [sx,dif_neg (by omega)]
  rfl
 have hl0:=qO (sx cH b) oC;generalize sx cH b = F at *
 go_enter Tryz.func57,Tryz.ntmps57
 refine wp_seq_k λK hK=>?_;refine wp_region_lit ?_;refine kI (By b).toArray rfl rfl rfl ?_;refine dV (zs:=(Uw oC).toArray) rfl rfl U2 ?_;refine dX ?_
 go_simp
 refine hK _ _ ?_;clear hK K;refine wp_seq_k λK hK=>?_;refine wp_region_lit ?_;refine dV (zs:=(Uw oC).toArray) rfl rfl U2 ?_;refine dX ?_
 go_simp
 refine hK _ _ ?_;clear hK K;refine p9 (λW=>LS2 w W b oC) ⟨nK w _ _ _ _,lW w _ _ _ _,mG w _ _ _ _,(((Below.refl _ _).alloc (aH _) _).alloc (by simp) _).alloc (by simp; omega) _⟩ ?_
 intro W hW
 have HW:=aL hW;clear hW
 go_wp2
 go_loopw [11] (λi wr=>∃ t : Nat,t <= 16 /\ i = .int .i64 t /\ LS2 w wr b (mxl F oC t)) (λi _=>16 - (intOf i).toNat)
 case atStart =>
  refine ⟨0,by omega,rfl,?_⟩;rw [hl0];exact HW.out
 case round =>
  clear HW;obtain ⟨t,ht,rfl,hS⟩:=hrel
  by_cases htl : t < 16
  ·have hF:=h16 t htl
   have hset:=nG F oC (k:=t);have hz:=Mu (F:=F) (k:=t)
   have qA : IntKind.i64.wrap (4 * (t : Int)) = ((4 * t : Nat) : Int):=by rw [i64_left,wrap64_in _ (by omega)]; omega
   have qB : IntKind.i64.wrap (((4 * t : Nat) : Int) + 4) = ((4 * t + 4 : Nat) : Int):=by rw [i64_left,wrap64_in _ (by omega)]; omega
   have g1 : ((4 * t + 4 : Nat) : Int) <= 64:=by omega
   have g2 : ((4 * t : Nat) : Int) <= ((4 * t + 4 : Nat) : Int):=by omega
   have g3 : (0 : Int) <= ((4 * t : Nat) : Int):=by omega
   have g4 : (0 : Int) <= (t : Int):=by omega
   have hN:=hS.set t (F t);rw [hset] at hN
   have hd : 4 * t + 4 - 4 * t = 4:=by omega
   have hA60 : 4 * t <= 60:=by omega
   generalize hA8 : 4 * t + 4 = A8 at *;generalize hA : 4 * t = A at *;have c0:=(hS.drew.b0.cell A).trans (gJ (by omega));have c1:=(hS.drew.b0.cell (A + 1)).trans (gJ (by omega));have c2:=(hS.drew.b0.cell (A + 2)).trans (gJ (by omega));have c3:=(hS.drew.b0.cell (A + 3)).trans (gJ (by omega));have f1:=(hS.drew.b2.cell t).trans (zX (by rw [eF,jG]; omega));have f2:=hS.drew.b2.free t
   have hF2 : F t = (b[A]!).toNat * 16777216 + (b[A + 1]!).toNat * 65536 + (b[A + 2]!).toNat * 256 + (b[A + 3]!).toNat:=by
    rw [hF]
    show ((((0 * 256 + (b[A + 0]!).toNat) * 256 + (b[A + 1]!).toNat) * 256 + (b[A + 2]!).toNat) * 256 + (b[A + 3]!).toNat) = _
    rw [Nat.add_zero]
    omega
   have l0:=(b[A]!).toNat_lt;have l1:=(b[A + 1]!).toNat_lt;have l2:=(b[A + 2]!).toNat_lt;have l3:=(b[A + 3]!).toNat_lt;generalize (b[A]!).toNat = x0 at *;generalize (b[A + 1]!).toNat = x1 at *;generalize (b[A + 2]!).toNat = x2 at *;generalize (b[A + 3]!).toNat = x3 at *;obtain ⟨y0,hy0⟩ : ∃ y,y = x0 * 16777216:=⟨_,rfl⟩;obtain ⟨y1,hy1⟩ : ∃ y,y = x1 * 65536:=⟨_,rfl⟩;obtain ⟨y4,hy4⟩ : ∃ y,y = x2 * 256:=⟨_,rfl⟩;obtain ⟨y2,hy2⟩ : ∃ y,y = y0 + y1:=⟨_,rfl⟩;obtain ⟨y3,hy3⟩ : ∃ y,y = y2 + y4:=⟨_,rfl⟩
   have w0 : IntKind.u32.wrap ((x0 : Int) * 16777216) = (y0 : Int):=by rw [bQ]; omega
   have w1 : IntKind.u32.wrap ((x1 : Int) * 65536) = (y1 : Int):=by rw [bQ]; omega
   have w2 : IntKind.u32.wrap ((x2 : Int) * 256) = (y4 : Int):=by rw [bQ]; omega
   have w3 : IntKind.u32.wrap (x0 : Int) = (x0 : Int):=by rw [bQ]; omega
   have w4 : IntKind.u32.wrap (x1 : Int) = (x1 : Int):=by rw [bQ]; omega
   have w5 : IntKind.u32.wrap (x2 : Int) = (x2 : Int):=by rw [bQ]; omega
   have w6 : IntKind.u32.wrap (x3 : Int) = (x3 : Int):=by rw [bQ]; omega
   have o1:=orV 24 y0 y1 (by omega) (by omega) (by omega) (by omega);have o2:=orV 16 y2 y4 (by omega) (by omega) (by omega) (by omega);have o3:=orV 8 y3 x3 (by omega) (by omega) (by omega) (by omega)
   have hF3 : F t = y3 + x3:=by omega
   rw [<-hF3] at o3;rw [<-hy2] at o1;rw [<-hy3] at o2;have HN:=aL hN;clear hS hN hA8 h16 hrec hF hset hz hF2 hF3 hy0 hy1 hy2 hy3 hy4;generalize F t = z at *;generalize (mxl F oC t)[t]! = old at *
   go_wp2
   go_region
   go_wp2
   go_roundw
   case rel=>exact ⟨t + 1,by omega,by go_num,HN.out.drew⟩
   case measure=>simp [intOf]; omega
  ·obtain rfl : t = 16:=by omega
   have HS:=aL hS;clear hS;rw [show ((16 : Nat) : Int) = (16 : Int) from rfl]
   go_wp2
   go_loopw [6] (λi wr=>∃ t : Nat,16 <= t /\ t <= 64 /\ i = .int .i64 t /\ LS2 w wr b (mxl F oC t)) (λi _=>64 - (intOf i).toNat)
   case atStart=>exact ⟨16,by omega,by omega,rfl,HS.out⟩
   case round =>
    clear HS;obtain ⟨t,h16t,ht,rfl,hS⟩:=hrel
    by_cases htl : t < 64
    ·have hF:=hrec t h16t
     have hN:=hS.drew.set t (F t);rw [nG] at hN;have k2:=(hS.b2.cell (t - 2)).trans (zX (by rw [eF,jG]; omega));have k7:=(hS.drew.drew.b2.cell (t - 7)).trans (zX (by rw [eF,jG]; omega));have k15:=(hS.b2.cell (t - 15)).trans (zX (by rw [eF,jG]; omega));have k16:=(hS.drew.drew.b2.cell (t - 16)).trans (zX (by rw [eF,jG]; omega));rw [Fq (by omega) (by rw [jG]; omega)] at k2 k7 k15 k16;have kf:=hS.drew.drew.b2.free t;have kt:=(hS.drew.drew.b2.cell t).trans (zX (by rw [eF,jG]; omega));have x2 : F (t - 2) < 4294967296:=hlt (t - 2);have x7 : F (t - 7) < 4294967296:=hlt (t - 7);have x15 : F (t - 15) < 4294967296:=hlt (t - 15);have x16 : F (t - 16) < 4294967296:=hlt (t - 16)
     have i2 : IntKind.i64.wrap ((t : Int) - 2) = ((t - 2 : Nat) : Int):=by rw [i64_left,wrap64_in _ (by omega)]; omega
     have i7 : IntKind.i64.wrap ((t : Int) - 7) = ((t - 7 : Nat) : Int):=by rw [i64_left,wrap64_in _ (by omega)]; omega
     have i15 : IntKind.i64.wrap ((t : Int) - 15) = ((t - 15 : Nat) : Int):=by rw [i64_left,wrap64_in _ (by omega)]; omega
     have i16 : IntKind.i64.wrap ((t : Int) - 16) = ((t - 16 : Nat) : Int):=by rw [i64_left,wrap64_in _ (by omega)]; omega
     have j2 : ((t - 2 : Nat) : Int) < 64:=by omega
     have j7 : ((t - 7 : Nat) : Int) < 64:=by omega
     have j15 : ((t - 15 : Nat) : Int) < 64:=by omega
     have j16 : ((t - 16 : Nat) : Int) < 64:=by omega
     generalize (mxl F oC t)[t]! = old at *;generalize F (t - 2) = x at *;generalize F (t - 7) = p at *;generalize F (t - 15) = y at *;generalize F (t - 16) = q at *;generalize t - 2 = a2 at *;generalize t - 7 = a7 at *;generalize t - 15 = a15 at *;generalize t - 16 = a16 at *;have b1:=eL (w:=32) (n:=17) (x:=x) (by decide) x2;have b2:=eL (w:=32) (n:=19) (x:=x) (by decide) x2;have b3:=eL (w:=32) (n:=7) (x:=y) (by decide) x15;have b4:=eL (w:=32) (n:=18) (x:=y) (by decide) x15;have R1:=λw1=>aL (oR x 17 x2 (by decide) (by decide) w1);have R2:=λw1=>aL (oR x 19 x2 (by decide) (by decide) w1);have R3:=λw1=>aL (oR y 7 x15 (by decide) (by decide) w1);have R4:=λw1=>aL (oR y 18 x15 (by decide) (by decide) w1);have s1 : pO 32 (17,19,10) x = eD 32 17 x ^^^ eD 32 19 x ^^^ x / 1024:=rfl;have s0 : pO 32 (7,18,3) y = eD 32 7 y ^^^ eD 32 18 y ^^^ y / 8:=rfl;rw [s1,s0] at hF;generalize eD 32 17 x = r1 at *;generalize eD 32 19 x = r2 at *;generalize eD 32 7 y = r3 at *;generalize eD 32 18 y = r4 at *
     have d6 : (x : Int) / 1024 = ((x / 1024 : Nat) : Int):=by omega
     have d7 : (y : Int) / 8 = ((y / 8 : Nat) : Int):=by omega
     have hd6 : x / 1024 < 4294967296:=by omega
     have hd7 : y / 8 < 4294967296:=by omega
     generalize x / 1024 = u6 at *;generalize y / 8 = u7 at *;have o1:=u32_xor_nat r1 r2 b1 b2;have o2:=u32_xor_nat (r1 ^^^ r2) u6 (gY b1 b2) hd6;have o3:=u32_xor_nat r3 r4 b3 b4;have o4:=u32_xor_nat (r3 ^^^ r4) u7 (gY b3 b4) hd7;have c1:=gY (gY b1 b2) hd6;have c0:=gY (gY b3 b4) hd7;generalize r1 ^^^ r2 ^^^ u6 = v1 at *;generalize r3 ^^^ r4 ^^^ u7 = v0 at *;generalize r1 ^^^ r2 = v2 at *;generalize r3 ^^^ r4 = v3 at *
     have w1 : IntKind.u32.wrap ((v1 : Int) + (p : Int)) = (((v1 + p) % 4294967296 : Nat) : Int):=by rw [bQ]; omega
     have w2 : IntKind.u32.wrap ((((v1 + p) % 4294967296 : Nat) : Int) + (v0 : Int)) = ((((v1 + p) % 4294967296 + v0) % 4294967296 : Nat) : Int):=by rw [bQ]; omega
     have w3 : IntKind.u32.wrap (((((v1 + p) % 4294967296 + v0) % 4294967296 : Nat) : Int) + (q : Int)) = ((F t : Nat) : Int):=by rw [hF,bQ]; omega
     have HN:=aL hN;clear hS hN hF s1 s0 b1 b2 b3 b4 hd6 hd7 c1 c0;generalize ((v1 + p) % 4294967296 + v0) % 4294967296 = v5 at *;generalize (v1 + p) % 4294967296 = v4 at *;generalize F t = z at *
     go_wp2
     go_region
     clear k2 k15;generalize wr.drew = W2 at *
     go_wp2_with (fail)
     refine (R1 _).out.mono ?_
     rintro e w4 ⟨rfl,rfl⟩
     go_wp2_with (fail)
     refine (R2 _).out.mono ?_
     rintro e w4 ⟨rfl,rfl⟩
     go_wp2_with (fail)
     refine (R3 _).out.mono ?_
     rintro e w4 ⟨rfl,rfl⟩
     go_wp2_with (fail)
     refine (R4 _).out.mono ?_
     rintro e w4 ⟨rfl,rfl⟩
     go_wp2_with (fail)
     go_still_tail 15,(by kernel_rfl)
     go_wp2
     go_roundw
     case rel=>exact ⟨t + 1,by omega,by omega,by go_num,HN.out.drew⟩
     case measure=>simp [intOf]; omega
    ·obtain rfl : t = 64:=by omega
     obtain ⟨b0,b1,b2,be⟩:=hS
     have hz : (Uw (mxl F oC 64)).toArray.size = 64:=by rw [a9,AN,eF,jG]
     clear b0
     go_wp2_with (first
      | (refine wpList_load_row rfl 102 _ rfl (w.heap.size + 1 + 1) rfl 102 (Uw (mxl F oC 64)).toArray (0,0) _ b2 Tryz.underlying102 rfl (yO _ hz) ?_)
      | (refine wpList_store_row rfl 102 _ _ rfl (w.heap.size + 1) rfl (Uw (mxl F oC 64)).toArray rfl 102 _ b1 (yO _ hz) (by rw [hz,a9,AN,jG]) (AM _) ?_))
     refine bodyPost_ret (results_cell_row rfl _ _ (w.heap.size + 1) 102 (Uw (mxl F oC 64)).toArray (0,0) _ rfl (b1.row _) Tryz.underlying102 rfl (yO _ hz)) rfl ⟨rfl,?_⟩;exact below_setRow be (by omega) _
end Go.Proofs.YtfkchihlchlfdaaGreatDoor
