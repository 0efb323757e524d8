import Derived.Test.YtfkchihlchlfdaaDoorMh
import Derived.Test.YtfkchihlchlfdaaDoorMg
import Derived.Test.YtfkchihlchlfdaaDoorMc
import Derived.Test.YtfkchihlchlfdaaDoorMe
import Derived.Test.YtfkchihlchlfdaaDoorMa
import Derived.StillTailTactics
import Derived.Deep.OwnRows
import Derived.OwnWalk
set_option maxRecDepth 100000
set_option maxHeartbeats 4000000
open And renaming intro->aY
open Go.Act renaming put->aE
open Go.Instr renaming fill->gC,fieldAt->jO
open Go.IntKind renaming wrap_u64->aP
open Go.Lib renaming hid->aH
open Go.Obj renaming cells->gM
open Go.Op renaming equalIn->fI
open Go.Result renaming andThen_ok->aG
open Go.Sem renaming run_pure->aI,run_bind->aJ
open Go.Value renaming bool->kI
open Go.World renaming setRow->dU
open List renaming setIfInBounds_toArray->aA,set_cons_zero->aB,set_cons_succ->aC,append_assoc->aU,length_take->aZ,take_succ_cons->a9,size_toArray->bA,take_zero->bN,take_of_length_le->bT,append_nil->cD,nil_append->jD,range->sH
open Nat renaming le_refl->aF,blt->aQ,lt_of_lt_of_le->bB,mod_eq_of_lt->bS,min_eq_left->cO,pow_succ->dE,reducePow->iM,mul_assoc->kJ,mul_le_mul->mJ,ne_of_lt->oW,pow_add->o5,pow_mul->wP,pow_le_pow_right->wQ,sub_self->zG,add_sub_cancel_left->Aq,div_lt_of_lt_mul->C1,add_mul_div_left->C2,pow_pos->Mh
namespace Go.Proofs.YtfkchihlchlfdaaDoor
open Go.RowKit Go.IntWalk Nums
theorem Es : Own 84:=λ_ _=>by go_simp
theorem vF : Own 65:=λ_ _=>by go_simp
theorem Nz : Own 72:=λ_ _=>by go_simp
theorem Dm : Own 61:=λ_ _=>by go_simp
theorem mC : EB [0,0,0,0,0] 0:=EB.mk5 (by omega) (by omega) (by omega) (by omega) (by omega) uG
def iml : List Nat:=[1718705420411056,234908883556509,2233514472574048,2117202627021982,765476049583133]
def imf : F:=fof (lv iml)
theorem Vc : EB iml imf:=EB.mk5 (by omega) (by omega) (by omega) (by omega) (by omega) rfl
theorem Tp : imf * imf = -1:=by
 unfold imf
 rw [<-jE];have : fof (lv iml * lv iml) = fof (p - 1):=qE (by decide +kernel);rw [this,Bl (by decide),oA,show fof p = 0 from qE (a:=p) (b:=0) (by decide)];generalize (1 : F) = u
 grind only
theorem Vo (u v : F) (c : F) (hc : fP (u * (v * v * v) * (v * v * v) * v) (2 ^ 252 - 3) = c) :
  u * (v * v * v) * c * (u * (v * v * v) * c) * v = u * fP (u * (v * v * v) * (v * v * v) * v) pq:=by
 have e : pq = (2 ^ 252 - 3) + (2 ^ 252 - 3) + 1:=by decide
 rw [e,gU,rT,hc];generalize hs : u * (v * v * v) * (v * v * v) * v = s;subst hs
 grind only
theorem quarter {u v y : F} (hu : u ≠ 0) (h : v * y * y = u) :
  fP (u * (v * v * v) * (v * v * v) * v) pq = 1 \/ fP (u * (v * v * v) * (v * v * v) * v) pq = -1:=by
 have hs : u * (v * v * v) * (v * v * v) * v = (v * v * v * v * y) * (v * v * v * v * y):=by
  rw [<-h]
  grind only
 have hne : v * v * v * v * y ≠ 0:=by
  intro h0
  apply hu
  rw [<-h]
  by_cases hv : v = 0
  ·rw [hv]
   grind only
  ·have hvv:=eJ gT (eJ gT (eJ gT hv hv) hv) hv
   rcases zero_or gT h0 with h1 | h1
   ·exact absurd h1 hvv
   ·rw [h1]
    grind only
 have h2:=G2 hne;rw [<-SN,Ci] at h2;rw [hs];generalize fP (v * v * v * v * y * (v * v * v * v * y)) pq = t at *
 have h3 : t * t = 1 * 1:=by
  rw [show fP t 2 = t * t from by rw [gU,yV]] at h2;rw [h2]
  grind only
 exact JO gT h3
theorem Lh {u v X : F} (hX : u * (v * v * v) * fP (u * (v * v * v) * (v * v * v) * v) (2 ^ 252 - 3) = X) (h1 : ¬ X * X * v = u) (h2 : ¬ X * imf * (X * imf) * v = u) (y : F) : v * y * y ≠ u:=by
 intro h
 have hc:=Vo u v _ rfl;rw [hX] at hc
 have hu : u ≠ 0:=by
  rintro rfl
  apply h1
  rw [hc]
  grind only
 rcases quarter hu h with h3 | h3
 ·apply h1
  rw [hc,h3]
  grind only
 ·apply h2
  rw [h3] at hc;have hi:=Tp;generalize imf = i at *;clear h h1 h2 hX h3 hu
  grind only
theorem De {u v X : F} (h : X * X * v = u) (ho : ¬ X.val % 2 = 1) : v * X * X = u /\ X.val % 2 = 0:=by
 refine ⟨?_,by omega⟩;rw [<-h]
 grind only
theorem FU {u v X : F} (h : X * X * v = u) (ho : X.val % 2 = 1) : v * (0 - X) * (0 - X) = u /\ (0 - X).val % 2 = 0:=by
 have hne : X ≠ 0:=by
  rintro rfl
  revert ho
  decide
 have e : 0 - X = -X:=by grind only
 refine ⟨?_,?_⟩
 ·rw [<-h]
  grind only
 ·rw [e,Bk hne]
  omega
theorem Tw.row {w : World} (h : Tw w) {g : Nat} (hg : 2 < g) (cs : Array Value) : Tw (w.setRow g cs) where
 cell:=λi hi=>by
  have hf : (w.setRow g cs).heap[2]? = w.heap[2]?:=by
   rw [dU];simp only [Array.getElem?_modify];rw [if_neg (by omega)]
  rw [World.cell?_of_block (w:=w) (a:=⟨2,i,none⟩) hf];exact h.cell i hi
 lt:=by rw [size_setRow]; exact h.lt
theorem G5 {a b : List Nat} {u v : F} (hA : EB a u) (hB : EB b v) (w : World) (hT0 : Tw w) :
  Calls Tryd.prog 61 #[.agg (Us a).toArray,.agg (Us b).toArray] w λe w' =>
   ((∃ r x,EB r x /\ v ≠ 0 /\ (v * x * x = u /\ x.val % 2 = 0) /\ e = .returned (.tuple #[.agg (Us r).toArray,.bool true])) \/ ((v = 0 \/ ∀ x,v * x * x ≠ u) /\ e = .returned (.tuple #[.agg z5,.bool false]))) /\ Below w.heap.size w w':=by
 go_enter Tryd.func61,Tryd.ntmps61
 refine wp_seq_k λK hK=>?_;refine wp_region_lit ?_;refine jW (Us a).toArray rfl rfl rfl ?_;refine jW (Us b).toArray rfl rfl rfl ?_;refine dN (zs:=z5) rfl rfl (by kernel_rfl) ?_;refine iV rfl rfl ?_;refine dP ?_
 go_simp
 refine hK _ _ ?_;clear hK K
 refine pM (λW=>Blk W w.heap.size 75 (Us a).toArray /\ Blk W (w.heap.size + 1) 75 (Us b).toArray /\ Blk W (w.heap.size + 1 + 1) 75 z5 /\ Below w.heap.size w W)
  ⟨mV w _ _ _ _,lI w _ _ _ _,lV w _ _ _ _,(((Below.refl _ _).alloc (aF _) _).alloc (by simp) _).alloc (by simp; omega) _⟩ ?_
 rintro W ⟨hu,hb,ho,hbe⟩
 have hT:=hT0.below hbe
 -- walk root
 refine wp_seq_k λK hK=>?_;refine wp_seq_k λK2 hK2=>?_;refine Em ?_;refine fZ (w.heap.size + 1) hB.len _ rfl rfl rfl (λ_ h=>h.blk hb) ?_;simp only [aE,aA,aB,aC];refine s7 [] z5 rfl rfl rfl iZ ?_;simp only [aE,aA,aB,aC];refine jU rfl Es (λw1=>QP hB mC w1) rfl rfl ?_;simp only [aE,aA,aB,aC];refine cL ?_
 intro W1 hw1
 simp only [Exit.then];refine hK2 _ _ ?_;clear hK2 K2;have hu:=hw1.blk hu;have hb:=hw1.blk hb;have ho:=hw1.blk ho;have hT:=hT.below hw1;have hbe:=a6 hbe hw1;clear hw1
 by_cases hv : v = 0
 ·refine wp_cond (t:=true) (congrArg kI (decide_eq_true hv)) ?_
  rw [if_pos rfl];refine wp_seq_k λK3 hK3=>?_;refine wp_region_lit ?_;refine uZ [] z5 rfl rfl rfl iZ ?_;simp only [aE,aA,aB,aC];refine wpList_store_row rfl 75 _ _ rfl (w.heap.size + 1 + 1) rfl z5 rfl 75 _ ho (bO _ rfl) rfl (cJ _) ?_;refine iV rfl rfl ?_;refine dP ?_;simp only [Exit.then,aE,aA,aB,aC];refine hK3 _ _ ?_;refine wp_ret ?_;simp only [Exit.then];refine bodyPost_ret (results_cell_tmp rfl _ _ (w.heap.size + 1 + 1) 75 z5 (0,0) _ (.bool false) rfl rfl (ho.row _) Tryd.underlying75 rfl (bO _ rfl)) rfl ⟨.inr ⟨.inl hv,rfl⟩,?_⟩;exact below_setRow hbe (by omega) _
 ·refine wp_cond (t:=false) (congrArg kI (decide_eq_false hv)) ?_
  rw [if_neg (by decide)];refine wp_skip ?_;simp only [Exit.then];refine hK _ _ ?_;clear hK K;refine wp_seq_k λK hK=>?_;refine mO 5 6 75 (.tmp 16) z5 rfl rfl rfl rfl rfl rfl rfl (by kernel_rfl) (cC (by kernel_rfl)) (by kernel_rfl) (λ_ _ d _ _ h=>by cases d <;> exact h) (c9 rfl (by kernel_rfl)) ?_;simp only [a9,bN];refine fZ (w.heap.size + 1) hB.len _ rfl rfl rfl (λ_ h=>h.blk hb) ?_;simp only [aE,aA,aB,aC];refine fZ (w.heap.size + 1) hB.len _ rfl rfl rfl (λ_ h=>h.blk hb) ?_;simp only [aE,aA,aB,aC];refine iD rfl bK (λw1 _=>dA hB hB w1) rfl rfl ?_
  intro r1 v1
  simp only [aE,aA,aB,aC];refine fZ (w.heap.size + 1) hB.len _ rfl rfl rfl (λ_ h=>h.blk hb) ?_;simp only [aE,aA,aB,aC];refine iD rfl bK (λw1 _=>dA v1 hB w1) rfl rfl ?_
  intro r2 v2
  simp only [aE,aA,aB,aC];refine cL ⟨(Us r2).toArray,λ_=>rfl,λ_=>rfl,(bV v2.len).symm,bO _ (bV v2.len),cJ _,λgthree W1 hgthree hw1 hbthree=>?_⟩;simp only [Exit.then,aE,aA,aB,aC];refine hK _ _ ?_;clear hK K;have hu:=hw1.blk hu;have hb:=hw1.blk hb;have ho:=hw1.blk ho;have hT:=hT.below hw1;have hbe:=a6 hbe hw1;clear hw1;refine wp_seq_k λK hK=>?_;refine mO 12 7 75 (.tmp 28) z5 rfl rfl rfl rfl rfl rfl rfl (by kernel_rfl) (cC (by kernel_rfl)) (by kernel_rfl) (λ_ _ d _ _ h=>by cases d <;> exact h) (c9 rfl (by kernel_rfl)) ?_;simp only [a9,bN];refine fZ w.heap.size hA.len _ rfl rfl rfl (λ_ h=>h.blk hu) ?_;simp only [aE,aA,aB,aC];refine fZ gthree v2.len _ rfl rfl rfl (λ_ h=>h.blk hbthree) ?_;simp only [aE,aA,aB,aC];refine iD rfl bK (λw1 _=>dA hA v2 w1) rfl rfl ?_
  intro r3 v3
  simp only [aE,aA,aB,aC];refine fZ w.heap.size hA.len _ rfl rfl rfl (λ_ h=>h.blk hu) ?_;simp only [aE,aA,aB,aC];refine fZ gthree v2.len _ rfl rfl rfl (λ_ h=>h.blk hbthree) ?_;simp only [aE,aA,aB,aC];refine iD rfl bK (λw1 _=>dA hA v2 w1) rfl rfl ?_
  intro r4 v4
  simp only [aE,aA,aB,aC];refine fZ gthree v2.len _ rfl rfl rfl (λ_ h=>h.blk hbthree) ?_;simp only [aE,aA,aB,aC];refine iD rfl bK (λw1 _=>dA v4 v2 w1) rfl rfl ?_
  intro r5 v5
  simp only [aE,aA,aB,aC];refine fZ (w.heap.size + 1) hB.len _ rfl rfl rfl (λ_ h=>h.blk hb) ?_;simp only [aE,aA,aB,aC];refine iD rfl bK (λw1 _=>dA v5 hB w1) rfl rfl ?_
  intro r6 v6
  simp only [aE,aA,aB,aC];refine iD rfl Iu (λw1 _=>OQ v6 w1) rfl rfl ?_
  intro r7 v7
  simp only [aE,aA,aB,aC];refine iD rfl bK (λw1 _=>dA v3 v7 w1) rfl rfl ?_
  intro r8 v8
  simp only [aE,aA,aB,aC];refine cL ⟨(Us r8).toArray,λ_=>rfl,λ_=>rfl,(bV v8.len).symm,bO _ (bV v8.len),cJ _,λgx W1 hgx hw1 hbx=>?_⟩;simp only [Exit.then,aE,aA,aB,aC];refine hK _ _ ?_;clear hK K;have ne_u:=oW (bB (hu).lt hgx);have ne_v:=oW (bB (hb).lt hgx);have ne_three:=oW (bB (hbthree).lt hgx);have ne_o:=oW (bB ho.lt hgx);have hb0:=Nat.le_trans hbe.size hgx;have hb1:=bB hT.lt hgx;have hu:=hw1.blk hu;have hb:=hw1.blk hb;have hbthree:=hw1.blk hbthree;have ho:=hw1.blk ho;have hT:=hT.below hw1;have hbe:=a6 hbe hw1;clear hw1;generalize hX : u * (v * v * v) * fP (u * (v * v * v) * (v * v * v) * v) (2 ^ 252 - 3) = X at v8;refine wp_seq_k λK hK=>?_;refine wp_seq_k λK2 hK2=>?_;refine yG (by kernel_rfl) (cC (by kernel_rfl)) (λ_ _ d _ _ h=>by cases d <;> exact h) ?_;refine fZ gx v8.len _ rfl rfl rfl (λ_ h=>h.blk hbx) ?_;simp only [aE,aA,aB,aC];refine fZ gx v8.len _ rfl rfl rfl (λ_ h=>h.blk hbx) ?_;simp only [aE,aA,aB,aC];refine iD rfl bK (λw1 _=>dA v8 v8 w1) rfl rfl ?_
  intro r9 v9
  simp only [aE,aA,aB,aC];refine fZ (w.heap.size + 1) hB.len _ rfl rfl rfl (λ_ h=>h.blk hb) ?_;simp only [aE,aA,aB,aC];refine iD rfl bK (λw1 _=>dA v9 hB w1) rfl rfl ?_
  intro r10 v10
  simp only [aE,aA,aB,aC];refine fZ w.heap.size hA.len _ rfl rfl rfl (λ_ h=>h.blk hu) ?_;simp only [aE,aA,aB,aC];refine jU rfl Es (λw1=>QP v10 hA w1) rfl rfl ?_;simp only [aE,aA,aB,aC];refine Pe _ rfl rfl rfl ?_;simp only [aE,aA,aB,aC];refine cL ?_
  intro W1 hw1
  simp only [Exit.then];refine hK2 _ _ ?_;clear hK2 K2;have hu:=hw1.blk hu;have hb:=hw1.blk hb;have hbthree:=hw1.blk hbthree;have hbx:=hw1.blk hbx;have ho:=hw1.blk ho;have hT:=hT.below hw1;have hbe:=a6 hbe hw1;clear hw1
  by_cases h1 : X * X * v = u
  ·refine wp_cond (t:=false) (congrArg kI (by rw [decide_eq_true h1]; rfl)) ?_
   rw [if_neg (by decide)];refine wp_skip ?_;simp only [Exit.then];refine hK _ _ ?_;clear hK K;refine wp_seq_k λK hK=>?_;refine wp_seq_k λK2 hK2=>?_;refine yG (by kernel_rfl) (cC (by kernel_rfl)) (λ_ _ d _ _ h=>by cases d <;> exact h) ?_;refine fZ gx v8.len _ rfl rfl rfl (λ_ h=>h.blk hbx) ?_;simp only [aE,aA,aB,aC];refine fZ gx v8.len _ rfl rfl rfl (λ_ h=>h.blk hbx) ?_;simp only [aE,aA,aB,aC];refine iD rfl bK (λw1 _=>dA v8 v8 w1) rfl rfl ?_
   intro r11 v11
   simp only [aE,aA,aB,aC];refine fZ (w.heap.size + 1) hB.len _ rfl rfl rfl (λ_ h=>h.blk hb) ?_;simp only [aE,aA,aB,aC];refine iD rfl bK (λw1 _=>dA v11 hB w1) rfl rfl ?_
   intro r12 v12
   simp only [aE,aA,aB,aC];refine fZ w.heap.size hA.len _ rfl rfl rfl (λ_ h=>h.blk hu) ?_;simp only [aE,aA,aB,aC];refine jU rfl Es (λw1=>QP v12 hA w1) rfl rfl ?_;simp only [aE,aA,aB,aC];refine Pe _ rfl rfl rfl ?_;simp only [aE,aA,aB,aC];refine cL ?_
   intro W1 hw1
   simp only [Exit.then];refine hK2 _ _ ?_;clear hK2 K2;have hu:=hw1.blk hu;have hb:=hw1.blk hb;have hbthree:=hw1.blk hbthree;have hbx:=hw1.blk hbx;have ho:=hw1.blk ho;have hT:=hT.below hw1;have hbe:=a6 hbe hw1;clear hw1;refine wp_cond (t:=false) (congrArg kI (by rw [decide_eq_true h1]; rfl)) ?_;rw [if_neg (by decide)];refine wp_skip ?_;simp only [Exit.then];refine hK _ _ ?_;clear hK K;refine wp_seq_k λK hK=>?_;refine wp_seq_k λK2 hK2=>?_;refine Em ?_;refine fZ gx v8.len _ rfl rfl rfl (λ_ h=>h.blk hbx) ?_;simp only [aE,aA,aB,aC];refine jU rfl vF (λw1=>Du v8 w1) rfl rfl ?_;simp only [aE,aA,aB,aC];refine cL ?_
   intro W1 hw1
   simp only [Exit.then];refine hK2 _ _ ?_;clear hK2 K2;have hu:=hw1.blk hu;have hb:=hw1.blk hb;have hbthree:=hw1.blk hbthree;have hbx:=hw1.blk hbx;have ho:=hw1.blk ho;have hT:=hT.below hw1;have hbe:=a6 hbe hw1;clear hw1
   by_cases ho2 : (X).val % 2 = 1
   ·refine wp_cond (t:=true) (congrArg kI (decide_eq_true ho2)) ?_
    rw [if_pos rfl];refine BG 3 (.tmp 7) 75 (.tmp 54) rfl rfl rfl rfl ?_;simp only [a9,bN];refine s7 [] z5 rfl rfl rfl iZ ?_;simp only [aE,aA,aB,aC];refine fZ gx v8.len _ rfl rfl rfl (λ_ h=>h.blk hbx) ?_;simp only [aE,aA,aB,aC];refine iD rfl iO (λw1 hw=>mB mC v8 w1 (hT.below hw)) rfl rfl ?_
    intro r13 v13
    simp only [aE,aA,aB,aC];refine cL ⟨gx,_,_,rfl,rfl,hbx,(bV v8.len).trans (bV v13.len).symm,bO _ (bV v13.len),cJ _,λW1 hw1=>?_⟩;simp only [Exit.then];refine hK _ _ ?_;clear hK K;have hu:=(hw1.blk hu).aR ne_u (g':=gx) (Us r13).toArray;have hb:=(hw1.blk hb).aR ne_v (g':=gx) (Us r13).toArray;have hbthree:=(hw1.blk hbthree).aR ne_three (g':=gx) (Us r13).toArray;have ho:=(hw1.blk ho).aR ne_o (g':=gx) (Us r13).toArray;have hbx:=(hw1.blk hbx).row (Us r13).toArray;have hT:=(hT.below hw1).row hb1 (g:=gx) (Us r13).toArray;have hbe:=below_setRow (a6 hbe hw1) hb0 (Us r13).toArray;clear hw1;generalize dU _ gx (Us r13).toArray = W2 at *;refine wp_seq_k λK hK=>?_;refine wp_region_lit ?_;refine wpList_load_row rfl 75 _ rfl gx rfl 75 (Us r13).toArray (0,0) _ hbx Tryd.underlying75 rfl (bO _ (bV v13.len)) ?_;simp only [aE,aA,aB,aC];refine wpList_store_row rfl 75 _ _ rfl (w.heap.size + 1 + 1) rfl (Us r13).toArray rfl 75 _ ho (bO _ (bV v13.len)) (bV v13.len).symm (cJ _) ?_;refine iV rfl rfl ?_;refine dP ?_;simp only [Exit.then,aE,aA,aB,aC];refine hK _ _ ?_;clear hK K;refine wp_ret ?_;refine bodyPost_ret (results_cell_tmp rfl _ _ (w.heap.size + 1 + 1) 75 (Us r13).toArray (0,0) _ (.bool true) rfl rfl (ho.row _) Tryd.underlying75 rfl (bO _ (bV v13.len))) rfl ⟨.inl ⟨r13,_,v13,hv,FU h1 ho2,rfl⟩,?_⟩;exact below_setRow hbe (by omega) _
   ·refine wp_cond (t:=false) (congrArg kI (decide_eq_false ho2)) ?_
    rw [if_neg (by decide)];refine wp_skip ?_;simp only [Exit.then];refine hK _ _ ?_;clear hK K;refine wp_seq_k λK hK=>?_;refine wp_region_lit ?_;refine wpList_load_row rfl 75 _ rfl gx rfl 75 (Us r8).toArray (0,0) _ hbx Tryd.underlying75 rfl (bO _ (bV v8.len)) ?_;simp only [aE,aA,aB,aC];refine wpList_store_row rfl 75 _ _ rfl (w.heap.size + 1 + 1) rfl (Us r8).toArray rfl 75 _ ho (bO _ (bV v8.len)) (bV v8.len).symm (cJ _) ?_;refine iV rfl rfl ?_;refine dP ?_;simp only [Exit.then,aE,aA,aB,aC];refine hK _ _ ?_;clear hK K;refine wp_ret ?_;refine bodyPost_ret (results_cell_tmp rfl _ _ (w.heap.size + 1 + 1) 75 (Us r8).toArray (0,0) _ (.bool true) rfl rfl (ho.row _) Tryd.underlying75 rfl (bO _ (bV v8.len))) rfl ⟨.inl ⟨r8,_,v8,hv,De h1 ho2,rfl⟩,?_⟩;exact below_setRow hbe (by omega) _
  ·refine wp_cond (t:=true) (congrArg kI (by rw [decide_eq_false h1]; rfl)) ?_
   rw [if_pos rfl];refine BG 4 (.tmp 7) 75 (.tmp 40) rfl rfl rfl rfl ?_;simp only [a9,bN];refine fZ gx v8.len _ rfl rfl rfl (λ_ h=>h.blk hbx) ?_;simp only [aE,aA,aB,aC];refine s7 _ _ rfl rfl rfl (Hg _ _ _ _ _) ?_;simp only [aE,aA,aB,aC];refine s7 _ _ rfl rfl rfl (Hh _ _ _ _ _) ?_;simp only [aE,aA,aB,aC];refine iD rfl bK (λw1 _=>dA v8 Vc w1) rfl rfl ?_
   intro r11 v11
   simp only [aE,aA,aB,aC];refine cL ⟨gx,_,_,rfl,rfl,hbx,(bV v8.len).trans (bV v11.len).symm,bO _ (bV v11.len),cJ _,λW1 hw1=>?_⟩;simp only [Exit.then];refine hK _ _ ?_;clear hK K;have hu:=(hw1.blk hu).aR ne_u (g':=gx) (Us r11).toArray;have hb:=(hw1.blk hb).aR ne_v (g':=gx) (Us r11).toArray;have hbthree:=(hw1.blk hbthree).aR ne_three (g':=gx) (Us r11).toArray;have ho:=(hw1.blk ho).aR ne_o (g':=gx) (Us r11).toArray;have hbx:=(hw1.blk hbx).row (Us r11).toArray;have hT:=(hT.below hw1).row hb1 (g:=gx) (Us r11).toArray;have hbe:=below_setRow (a6 hbe hw1) hb0 (Us r11).toArray;clear hw1;generalize dU _ gx (Us r11).toArray = W2 at *;refine wp_seq_k λK hK=>?_;refine wp_seq_k λK2 hK2=>?_;refine yG (by kernel_rfl) (cC (by kernel_rfl)) (λ_ _ d _ _ h=>by cases d <;> exact h) ?_;refine fZ gx v11.len _ rfl rfl rfl (λ_ h=>h.blk hbx) ?_;simp only [aE,aA,aB,aC];refine fZ gx v11.len _ rfl rfl rfl (λ_ h=>h.blk hbx) ?_;simp only [aE,aA,aB,aC];refine iD rfl bK (λw1 _=>dA v11 v11 w1) rfl rfl ?_
   intro r12 v12
   simp only [aE,aA,aB,aC];refine fZ (w.heap.size + 1) hB.len _ rfl rfl rfl (λ_ h=>h.blk hb) ?_;simp only [aE,aA,aB,aC];refine iD rfl bK (λw1 _=>dA v12 hB w1) rfl rfl ?_
   intro r13 v13
   simp only [aE,aA,aB,aC];refine fZ w.heap.size hA.len _ rfl rfl rfl (λ_ h=>h.blk hu) ?_;simp only [aE,aA,aB,aC];refine jU rfl Es (λw1=>QP v13 hA w1) rfl rfl ?_;simp only [aE,aA,aB,aC];refine Pe _ rfl rfl rfl ?_;simp only [aE,aA,aB,aC];refine cL ?_
   intro W1 hw1
   simp only [Exit.then];refine hK2 _ _ ?_;clear hK2 K2;have hu:=hw1.blk hu;have hb:=hw1.blk hb;have hbthree:=hw1.blk hbthree;have hbx:=hw1.blk hbx;have ho:=hw1.blk ho;have hT:=hT.below hw1;have hbe:=a6 hbe hw1;clear hw1
   by_cases h2 : (X * imf) * ((X * imf)) * v = u
   ·refine wp_cond (t:=false) (congrArg kI (by rw [decide_eq_true h2]; rfl)) ?_
    rw [if_neg (by decide)];refine wp_skip ?_;simp only [Exit.then];refine hK _ _ ?_;clear hK K;refine wp_seq_k λK hK=>?_;refine wp_seq_k λK2 hK2=>?_;refine Em ?_;refine fZ gx v11.len _ rfl rfl rfl (λ_ h=>h.blk hbx) ?_;simp only [aE,aA,aB,aC];refine jU rfl vF (λw1=>Du v11 w1) rfl rfl ?_;simp only [aE,aA,aB,aC];refine cL ?_
    intro W1 hw1
    simp only [Exit.then];refine hK2 _ _ ?_;clear hK2 K2;have hu:=hw1.blk hu;have hb:=hw1.blk hb;have hbthree:=hw1.blk hbthree;have hbx:=hw1.blk hbx;have ho:=hw1.blk ho;have hT:=hT.below hw1;have hbe:=a6 hbe hw1;clear hw1
    by_cases ho2 : ((X * imf)).val % 2 = 1
    ·refine wp_cond (t:=true) (congrArg kI (decide_eq_true ho2)) ?_
     rw [if_pos rfl];refine BG 3 (.tmp 7) 75 (.tmp 54) rfl rfl rfl rfl ?_;simp only [a9,bN];refine s7 [] z5 rfl rfl rfl iZ ?_;simp only [aE,aA,aB,aC];refine fZ gx v11.len _ rfl rfl rfl (λ_ h=>h.blk hbx) ?_;simp only [aE,aA,aB,aC];refine iD rfl iO (λw1 hw=>mB mC v11 w1 (hT.below hw)) rfl rfl ?_
     intro r14 v14
     simp only [aE,aA,aB,aC];refine cL ⟨gx,_,_,rfl,rfl,hbx,(bV v11.len).trans (bV v14.len).symm,bO _ (bV v14.len),cJ _,λW1 hw1=>?_⟩;simp only [Exit.then];refine hK _ _ ?_;clear hK K;have hu:=(hw1.blk hu).aR ne_u (g':=gx) (Us r14).toArray;have hb:=(hw1.blk hb).aR ne_v (g':=gx) (Us r14).toArray;have hbthree:=(hw1.blk hbthree).aR ne_three (g':=gx) (Us r14).toArray;have ho:=(hw1.blk ho).aR ne_o (g':=gx) (Us r14).toArray;have hbx:=(hw1.blk hbx).row (Us r14).toArray;have hT:=(hT.below hw1).row hb1 (g:=gx) (Us r14).toArray;have hbe:=below_setRow (a6 hbe hw1) hb0 (Us r14).toArray;clear hw1;generalize dU _ gx (Us r14).toArray = W2 at *;refine wp_seq_k λK hK=>?_;refine wp_region_lit ?_;refine wpList_load_row rfl 75 _ rfl gx rfl 75 (Us r14).toArray (0,0) _ hbx Tryd.underlying75 rfl (bO _ (bV v14.len)) ?_;simp only [aE,aA,aB,aC];refine wpList_store_row rfl 75 _ _ rfl (w.heap.size + 1 + 1) rfl (Us r14).toArray rfl 75 _ ho (bO _ (bV v14.len)) (bV v14.len).symm (cJ _) ?_;refine iV rfl rfl ?_;refine dP ?_;simp only [Exit.then,aE,aA,aB,aC];refine hK _ _ ?_;clear hK K;refine wp_ret ?_;refine bodyPost_ret (results_cell_tmp rfl _ _ (w.heap.size + 1 + 1) 75 (Us r14).toArray (0,0) _ (.bool true) rfl rfl (ho.row _) Tryd.underlying75 rfl (bO _ (bV v14.len))) rfl ⟨.inl ⟨r14,_,v14,hv,FU h2 ho2,rfl⟩,?_⟩;exact below_setRow hbe (by omega) _
    ·refine wp_cond (t:=false) (congrArg kI (decide_eq_false ho2)) ?_
     rw [if_neg (by decide)];refine wp_skip ?_;simp only [Exit.then];refine hK _ _ ?_;clear hK K;refine wp_seq_k λK hK=>?_;refine wp_region_lit ?_;refine wpList_load_row rfl 75 _ rfl gx rfl 75 (Us r11).toArray (0,0) _ hbx Tryd.underlying75 rfl (bO _ (bV v11.len)) ?_;simp only [aE,aA,aB,aC];refine wpList_store_row rfl 75 _ _ rfl (w.heap.size + 1 + 1) rfl (Us r11).toArray rfl 75 _ ho (bO _ (bV v11.len)) (bV v11.len).symm (cJ _) ?_;refine iV rfl rfl ?_;refine dP ?_;simp only [Exit.then,aE,aA,aB,aC];refine hK _ _ ?_;clear hK K;refine wp_ret ?_;refine bodyPost_ret (results_cell_tmp rfl _ _ (w.heap.size + 1 + 1) 75 (Us r11).toArray (0,0) _ (.bool true) rfl rfl (ho.row _) Tryd.underlying75 rfl (bO _ (bV v11.len))) rfl ⟨.inl ⟨r11,_,v11,hv,De h2 ho2,rfl⟩,?_⟩;exact below_setRow hbe (by omega) _
   ·refine wp_cond (t:=true) (congrArg kI (by rw [decide_eq_false h2]; rfl)) ?_
    rw [if_pos rfl];refine wp_seq_k λK3 hK3=>?_;refine wp_region_lit ?_;refine uZ [] z5 rfl rfl rfl iZ ?_;simp only [aE,aA,aB,aC];refine wpList_store_row rfl 75 _ _ rfl (w.heap.size + 1 + 1) rfl z5 rfl 75 _ ho (bO _ rfl) rfl (cJ _) ?_;refine iV rfl rfl ?_;refine dP ?_;simp only [Exit.then,aE,aA,aB,aC];refine hK3 _ _ ?_;refine wp_ret ?_;simp only [Exit.then];refine bodyPost_ret (results_cell_tmp rfl _ _ (w.heap.size + 1 + 1) 75 z5 (0,0) _ (.bool false) rfl rfl (ho.row _) Tryd.underlying75 rfl (bO _ rfl)) rfl ⟨.inr ⟨.inr λx=>Lh hX h1 h2 x,rfl⟩,?_⟩;exact below_setRow hbe (by omega) _
 -- end root
end Go.Proofs.YtfkchihlchlfdaaDoor
namespace Nums
namespace Ed
section
variable {n : Nat} [NeZero n] {d : Fin n}
theorem Rep.Uk (hn : dJ n) {x y z t : Fin n} {P : Pt n} (r : Rep x y z P) (ht : t * z = x * y) : t = P.x * P.y * z:=by
 refine cancel hn r.z ?_;rw [ht,r.x,r.y]
 grind only
theorem SP (px py qx qy z1 z2 : Fin n) : (py * z1 + px * z1) * (qy * z2 + qx * z2) - (py * z1 - px * z1) * (qy * z2 - qx * z2) = (px * qy + py * qx) * (2 * (z1 * z2)):=by grind only
theorem SO (px py qx qy z1 z2 : Fin n) : (py * z1 + px * z1) * (qy * z2 + qx * z2) + (py * z1 - px * z1) * (qy * z2 - qx * z2) = (py * qy + px * qx) * (2 * (z1 * z2)):=by grind only
theorem Nl (px py qx qy z1 z2 d : Fin n) : px * py * z1 * ((qx * qy * z2 + qx * qy * z2) * d) = d * px * qx * py * qy * (2 * (z1 * z2)):=by grind only
theorem Nk (z1 z2 : Fin n) : z1 * (z2 + z2) = 2 * (z1 * z2):=by grind only
theorem U4 (k u : Fin n) : u + k * u = (1 + k) * u:=by grind only
theorem U5 (k u : Fin n) : u - k * u = (1 - k) * u:=by grind only
theorem Rep.Vb (g : Good n d) {P Q : Pt n} (hP : On d P) (hQ : On d Q) {e f gg h u : Fin n} (hu : u ≠ 0) (he : e = (P.x * Q.y + P.y * Q.x) * u) (hf : f = (1 - kk d P Q) * u) (hg : gg = (1 + kk d P Q) * u) (hh : h = (P.y * Q.y + P.x * Q.x) * u) :
  Rep (e * f) (gg * h) (f * gg) (Ed.add d P Q):=by
 have hx:=CA g hP hQ;have hy:=Cz g hP hQ;have n1:=qQ g hP hQ;have n2:=mR g hP hQ;subst he hf hg hh;refine ⟨eJ g.pr (eJ g.pr n2 hu) (eJ g.pr n1 hu),?_,?_⟩
 ·rw [<-hx]
  grind only
 ·rw [<-hy]
  grind only
theorem Rep.plus (g : Good n d) {P Q : Pt n} (hP : On d P) (hQ : On d Q) {x1 y1 z1 t1 x2 y2 z2 t2 : Fin n} (r : Rep x1 y1 z1 P) (h1 : t1 * z1 = x1 * y1) (s : Rep x2 y2 z2 Q) (h2 : t2 * z2 = x2 * y2) {un li z t e f gg h : Fin n}
  (hun : un = (y1 - x1) * (y2 - x2)) (hli : li = (y1 + x1) * (y2 + x2)) (hz : z = z1 * (z2 + z2)) (ht : t = t1 * ((t2 + t2) * d)) (he : e = li - un) (hf : f = z - t) (hg : gg = z + t) (hh : h = li + un) :
  Rep (e * f) (gg * h) (f * gg) (Ed.add d P Q) /\ e * h * (f * gg) = e * f * (gg * h):=by
 have e1:=r.Uk g.pr h1;have e2:=s.Uk g.pr h2;have hu : (2 : Fin n) * (z1 * z2) ≠ 0:=eJ g.pr g.two (eJ g.pr r.z s.z);refine ⟨Rep.Vb g hP hQ hu ?_ ?_ ?_ ?_,by grind only⟩
 ·rw [he,hli,hun,r.x,r.y,s.x,s.y,SP]
 ·rw [hf,hz,ht,e1,e2,Nl,Nk,<-U5]
  rfl
 ·rw [hg,hz,ht,e1,e2,Nl,Nk,<-U4]
  rfl
 ·rw [hh,hli,hun,r.x,r.y,s.x,s.y,SO]
theorem Vk (px py z : Fin n) : px * z * (py * z) + px * z * (py * z) = (px * py + py * px) * (z * z):=by grind only
theorem Vi (px py z : Fin n) : py * z * (py * z) - px * z * (px * z) = (py * py - px * px) * (z * z):=by grind only
theorem Vh (px py z : Fin n) : py * z * (py * z) + px * z * (px * z) = (py * py + px * px) * (z * z):=by grind only
theorem Vj (k u : Fin n) : u + u - (1 + k) * u = (1 - k) * u:=by grind only
theorem UC {P : Pt n} (hP : On d P) : P.y * P.y - P.x * P.x = 1 + kk d P P:=by
 have h : P.y*P.y - P.x*P.x = 1 + d*P.x*P.x*P.y*P.y:=hP;rw [h]
 rfl
theorem Rep.dbl (g : Good n d) {P : Pt n} (hP : On d P) {x y z : Fin n} (r : Rep x y z P) {xx yy zz xy e gg h f : Fin n} (hxx : xx = x * x) (hyy : yy = y * y) (hzz : zz = z * z) (hxy : xy = x * y)
  (he : e = xy + xy) (hg : gg = yy - xx) (hh : h = yy + xx) (hf : f = zz + zz - gg) : Rep (e * f) (gg * h) (f * gg) (Ed.add d P P) /\ e * h * (f * gg) = e * f * (gg * h):=by
 have hu : z * z ≠ 0:=eJ g.pr r.z r.z
 have hgg : gg = (1 + kk d P P) * (z * z):=by rw [hg,hyy,hxx,r.x,r.y,Vi,UC hP]
 refine ⟨Rep.Vb g hP hP hu ?_ ?_ hgg ?_,by grind only⟩
 ·rw [he,hxy,r.x,r.y,Vk]
 ·rw [hf,hzz,hgg,Vj]
 ·rw [hh,hyy,hxx,r.x,r.y,Vh]
theorem Rep.one (hn : dJ n) (x y : Fin n) : Rep x y 1 ⟨x,y⟩:=⟨λh=>xF hn h.symm,by show x = x * 1; grind only,by show y = y * 1; grind only⟩
theorem Ue (g : Good n d) {P : Pt n} (hP : On d P) (hy : P.y = 1) : P = zero:=by
 have h : P.y*P.y - P.x*P.x = 1 + d*P.x*P.x*P.y*P.y:=hP;rw [hy] at h
 have h2 : P.x * P.x * (d + 1) = 0:=by grind only
 have hd : d + 1 ≠ 0:=λh0=>by
  obtain ⟨i,hi⟩:=g.i;refine g.d i ?_;rw [hi]
  grind only
 have hx : P.x = 0:=by
  by_cases hx : P.x = 0
  ·exact hx
  ·exact absurd h2 (eJ g.pr (eJ g.pr hx hx) hd)
 cases P
 simp only at hx hy;rw [hx,hy]
 rfl
theorem Rep.Uf (g : Good n d) {P : Pt n} (hP : On d P) {x y z : Fin n} (r : Rep x y z P) : y = z ↔ P = Ed.zero:=by
 constructor
 ·intro h
  refine Ue g hP (cancel g.pr r.z ?_);rw [<-r.y,h]
  grind only
 ·rintro rfl
  rw [r.y]
  show 1 * z = z
  grind only
end
end Ed
end Nums
namespace Go.Proofs.YtfkchihlchlfdaaDoor
open Go.RowKit Go.IntWalk Nums
def pc (X Y Z T : List Nat) : List Nat:=X ++ (Y ++ (Z ++ T))
def zl : List Nat:=[0,0,0,0,0]
def pz : List Nat:=pc zl zl zl zl
theorem Pp (a b : List Nat) : Us (a ++ b) = Us a ++ Us b:=by simp [Us]
theorem AR (X Y Z T : List Nat) : Us (pc X Y Z T) = Us X ++ (Us Y ++ (Us Z ++ Us T)):=by simp [pc,Us]
theorem kP {X Y Z T : List Nat} (hX : X.length = 5) (hY : Y.length = 5) (hZ : Z.length = 5) (hT : T.length = 5) : (pc X Y Z T).length = 20:=by simp [pc,hX,hY,hZ,hT]
theorem bP (l : List Nat) : ∀ v ∈ (Us l).toArray.toList,v.oneCell' = true:=λv hv=>cJ l v (by simpa using hv)
theorem aT {l : List Nat} {n : Nat} (h : l.length = n) : (Us l).toArray.size = n:=by rw [bA,cY,h]
theorem JB {n : Nat} (h : n = 20) : (Tryd.prog.info? 77).map (·.size) = some n:=by
 rw [h]
 kernel_rfl
theorem JC {n : Nat} (h : n = 20) : (Tryd.prog.info? 112).map (·.size) = some n:=by
 rw [h]
 kernel_rfl
theorem MI {l : List Nat} (h : l.length = 5) : (Tryd.prog.info? 75).map (·.size) = some (Us l).length:=by
 rw [cY,h]
 kernel_rfl
theorem fR : zl.length = 5:=rfl
theorem eX : pz.length = 20:=rfl
def nvE (t : Nat) : NV:=⟨t,75,z5⟩
def nvA (t : Nat) : NV:=⟨t,112,(Us pz).toArray⟩
section
variable {w : World} {g t : Nat} {X Y Z T : List Nat}
theorem Blk.LA {w : World} {g t off : Nat} {A V Z : List Value} (h : Blk w g t (A ++ (V ++ Z)).toArray) (ho : off = A.length) : w.rangeAt g off V:=λj v hv=>by
 rw [h.cell (off + j),ho];have hj:=(List.getElem?_eq_some_iff.1 hv).1;simp only [List.getElem?_toArray];rw [List.getElem?_append_right (by omega),Aq,List.getElem?_append_left hj];exact hv
theorem Blk.cx (h : Blk w g t (Us (pc X Y Z T)).toArray) : w.rangeAt g 0 (Us X):=by
 rw [AR] at h;exact Blk.LA (A:=[]) h rfl
theorem Blk.cy (h : Blk w g t (Us (pc X Y Z T)).toArray) (hX : X.length = 5) : w.rangeAt g 5 (Us Y):=by
 rw [AR] at h;exact Blk.LA (A:=Us X) h (by rw [cY,hX])
theorem Blk.cz (h : Blk w g t (Us (pc X Y Z T)).toArray) (hX : X.length = 5) (hY : Y.length = 5) : w.rangeAt g 10 (Us Z):=by
 rw [AR,<-aU] at h;exact Blk.LA h (by simp [cY,hX,hY])
theorem Blk.ct (h : Blk w g t (Us (pc X Y Z T)).toArray) (hX : X.length = 5) (hY : Y.length = 5) (hZ : Z.length = 5) : w.rangeAt g 15 (Us T):=by
 rw [AR,<-aU,<-aU] at h
 have h2 : Blk w g t (Us X ++ Us Y ++ Us Z ++ (Us T ++ [])).toArray:=by rw [cD]; exact h
 exact Blk.LA h2 (by simp [cY,hX,hY,hZ])
end
theorem EY (b : Nat) (w : World) : (jO 77 (.pointer (some ⟨b,0,none⟩)) 0).run Tryd.prog w = .ok (.pointer (some ⟨b,0,none⟩)) w:=by go_simp
theorem CV (b : Nat) (w : World) : (jO 77 (.pointer (some ⟨b,0,none⟩)) 1).run Tryd.prog w = .ok (.pointer (some ⟨b,5,none⟩)) w:=by go_simp
theorem G9 (b : Nat) (w : World) : (jO 77 (.pointer (some ⟨b,0,none⟩)) 2).run Tryd.prog w = .ok (.pointer (some ⟨b,10,none⟩)) w:=by go_simp
theorem OY (b : Nat) (w : World) : (jO 77 (.pointer (some ⟨b,0,none⟩)) 3).run Tryd.prog w = .ok (.pointer (some ⟨b,15,none⟩)) w:=by go_simp
theorem VX (b : Nat) (w : World) : (jO 112 (.pointer (some ⟨b,0,none⟩)) 0).run Tryd.prog w = .ok (.pointer (some ⟨b,0,none⟩)) w:=by go_simp
theorem VW (b : Nat) (w : World) : (jO 112 (.pointer (some ⟨b,0,none⟩)) 1).run Tryd.prog w = .ok (.pointer (some ⟨b,5,none⟩)) w:=by go_simp
theorem VV (b : Nat) (w : World) : (jO 112 (.pointer (some ⟨b,0,none⟩)) 2).run Tryd.prog w = .ok (.pointer (some ⟨b,10,none⟩)) w:=by go_simp
theorem VU (b : Nat) (w : World) : (jO 112 (.pointer (some ⟨b,0,none⟩)) 3).run Tryd.prog w = .ok (.pointer (some ⟨b,15,none⟩)) w:=by go_simp
theorem Jc (parts : List (Nat × Value)) : Tryd.prog.built 77 parts = gC (#[(0,5),(5,5),(10,5),(15,5)][·]?) (Us zl ++ (Us zl ++ (Us zl ++ Us zl))).toArray parts :=
 Cv (t:=77) (z:=(Us pz).toArray) (pl:=[(0,5),(5,5),(10,5),(15,5)]) (by kernel_rfl)
theorem T0 (parts : List (Nat × Value)) : Tryd.prog.built 112 parts = gC (#[(0,5),(5,5),(10,5),(15,5)][·]?) (Us zl ++ (Us zl ++ (Us zl ++ Us zl))).toArray parts :=
 Cv (t:=112) (z:=(Us pz).toArray) (pl:=[(0,5),(5,5),(10,5),(15,5)]) (by kernel_rfl)
theorem Sa {X : List Nat} (hX : X.length = 5) (rest : List (Nat × Value)) : gC (#[(0,5),(5,5),(10,5),(15,5)][·]?) (Us zl ++ (Us zl ++ (Us zl ++ Us zl))).toArray ((0,.agg (Us X).toArray) :: rest) = gC (#[(0,5),(5,5),(10,5),(15,5)][·]?) (Us X ++ (Us zl ++ (Us zl ++ Us zl))).toArray rest:=by
 have h:=lH (#[(0,5),(5,5),(10,5),(15,5)][·]?) 0 5 [] (Us zl) (Us zl ++ (Us zl ++ Us zl)) (Us X) rest rfl (by rw [cY,hX]) rfl;rw [jD,jD] at h;exact h
section
variable {X Y Z T : List Nat} (hX : X.length = 5) (hY : Y.length = 5) (hZ : Z.length = 5) (hT : T.length = 5)
include hX hY hZ
theorem U3 : gC (#[(0,5),(5,5),(10,5),(15,5)][·]?) (Us zl ++ (Us zl ++ (Us zl ++ Us zl))).toArray [(0,.agg (Us X).toArray),(1,.agg (Us Y).toArray),(2,.agg (Us Z).toArray)] = some (Us X ++ (Us Y ++ (Us Z ++ Us zl))).toArray:=by
 rw [Sa hX,lH _ 1 5 (Us X) (Us zl) (Us zl ++ Us zl) (Us Y) _ (by rw [cY,hX]; rfl) (by rw [cY,hY]) rfl]
 have e : Us X ++ (Us Y ++ (Us zl ++ Us zl)) = (Us X ++ Us Y) ++ (Us zl ++ Us zl):=by rw [aU]
 rw [e,lH _ 2 5 (Us X ++ Us Y) (Us zl) (Us zl) (Us Z) _ (by simp [cY,hX,hY]) (by rw [cY,hZ]) rfl,aU]
 rfl
include hT
theorem R9 : gC (#[(0,5),(5,5),(10,5),(15,5)][·]?) (Us zl ++ (Us zl ++ (Us zl ++ Us zl))).toArray [(0,.agg (Us X).toArray),(1,.agg (Us Y).toArray),(2,.agg (Us Z).toArray),(3,.agg (Us T).toArray)] = some (Us (pc X Y Z T)).toArray:=by
 rw [Sa hX,lH _ 1 5 (Us X) (Us zl) (Us zl ++ Us zl) (Us Y) _ (by rw [cY,hX]; rfl) (by rw [cY,hY]) rfl]
 have e : Us X ++ (Us Y ++ (Us zl ++ Us zl)) = (Us X ++ Us Y) ++ (Us zl ++ Us zl):=by rw [aU]
 rw [e,lH _ 2 5 (Us X ++ Us Y) (Us zl) (Us zl) (Us Z) _ (by simp [cY,hX,hY]) (by rw [cY,hZ]) rfl]
 have e2 : Us X ++ Us Y ++ (Us Z ++ Us zl) = (Us X ++ (Us Y ++ Us Z)) ++ (Us zl ++ []):=by simp
 rw [e2,lH _ 3 5 (Us X ++ (Us Y ++ Us Z)) (Us zl) [] (Us T) _ (by simp [cY,hX,hY,hZ]) (by rw [cY,hT]) rfl,AR]
 simp [gC]
theorem E0 : Tryd.prog.built 77 [(0,.agg (Us X).toArray),(1,.agg (Us Y).toArray),(2,.agg (Us Z).toArray),(3,.agg (Us T).toArray)] = some (Us (pc X Y Z T)).toArray:=by rw [Jc,R9 hX hY hZ hT]
theorem Rq : Tryd.prog.built 112 [(0,.agg (Us X).toArray),(1,.agg (Us Y).toArray),(2,.agg (Us Z).toArray),(3,.agg (Us T).toArray)] = some (Us (pc X Y Z T)).toArray:=by rw [T0,R9 hX hY hZ hT]
omit hT
theorem Rp : Tryd.prog.built 77 [(0,.agg (Us X).toArray),(1,.agg (Us Y).toArray),(2,.agg (Us Z).toArray)] = some (Us (pc X Y Z zl)).toArray:=by rw [Jc,U3 hX hY hZ,AR]
end
theorem sZ : Tryd.prog.built 77 [] = some (Us pz).toArray:=by rw [Jc]; rfl
theorem Bi (w : World) (A V Z : List Nat) (off : Nat) (ho : A.length = off) (hV : V.length = 5) : (part 75 (Us A ++ (Us V ++ Us Z)).toArray off).run Tryd.prog w = .ok (.agg (Us V).toArray) w:=by
 have hagg : (isAgg 75).run Tryd.prog w = .ok true w:=by
  unfold isAgg
  rw [aJ,run_underlying Tryd.underlying75 w]
  rfl
 have hs : (sizeOf 75).run Tryd.prog w = .ok 5 w:=by kernel_rfl
 have he : (Us A ++ (Us V ++ Us Z)).toArray.extract off (off + 5) = (Us V).toArray:=by
  apply Array.ext'
  simp only [List.extract_toArray,List.extract_eq_take_drop];rw [List.drop_append,List.drop_eq_nil_of_le (by rw [cY]; omega),cY,ho,zG,List.drop_zero,jD,Aq,List.take_append,cY,hV,zG,bN,cD,bT (by rw [cY,hV]; exact aF _)]
 unfold part
 simp only [aJ,hagg,aG,if_true,hs,aI,he]
theorem vP (d : Nat) (l m : List Nat) (hl : l.length = 5) (hm : m.length = 5) (w : World) :
  (fI (d + 3) 75 (.agg (Us l).toArray) (.agg (Us m).toArray)).run Tryd.prog w = .ok (decide (l = m)) w:=by
 have he:=wH d 5 73 l m Tryd.underlying73 hl hm w
 have hst : Tryd.prog.stoodInHeld 75 = false:=by kernel_rfl
 rw [fI];simp only [aJ,run_underlying Tryd.underlying75,aG,run_program,hst];rw [if_neg (by decide)];have hp:=BN w l hl;have hq:=BN w m hm;generalize decide (l = m) = q at *
 cases q <;> simp [aJ,hp,hq,he,aI]
theorem G3 (X Y Z T X' Y' Z' T' : List Nat) (hX : X.length = 5) (hY : Y.length = 5) (hZ : Z.length = 5) (hT : T.length = 5) (hX' : X'.length = 5) (hY' : Y'.length = 5) (hZ' : Z'.length = 5) (hT' : T'.length = 5) (w : World) :
  (fI 10000 77 (.agg (Us (pc X Y Z T)).toArray) (.agg (Us (pc X' Y' Z' T')).toArray)).run Tryd.prog w = .ok (decide (X = X' /\ Y = Y' /\ Z = Z' /\ T = T')) w:=by
 have e1:=vP 9996 X X' hX hX' w;have e2:=vP 9996 Y Y' hY hY' w;have e3:=vP 9996 Z Z' hZ hZ' w;have e4:=vP 9996 T T' hT hT' w
 have p1 : ∀ X Y Z T : List Nat,X.length = 5 -> (part 75 (Us (pc X Y Z T)).toArray 0).run Tryd.prog w = .ok (.agg (Us X).toArray) w:=λX Y Z T h=>by
  have:=Bi w [] X (Y ++ (Z ++ T)) 0 rfl h
  simpa [pc,Us] using this
 have p2 : ∀ X Y Z T : List Nat,X.length = 5 -> Y.length = 5 -> (part 75 (Us (pc X Y Z T)).toArray 5).run Tryd.prog w = .ok (.agg (Us Y).toArray) w:=λX Y Z T h h2=>by
  have:=Bi w X Y (Z ++ T) 5 h h2
  simpa [pc,Us] using this
 have p3 : ∀ X Y Z T : List Nat,X.length = 5 -> Y.length = 5 -> Z.length = 5 -> (part 75 (Us (pc X Y Z T)).toArray 10).run Tryd.prog w = .ok (.agg (Us Z).toArray) w:=λX Y Z T h h2 h3=>by
  have:=Bi w (X ++ Y) Z T 10 (by simp [h,h2]) h3
  simpa [pc,Us] using this
 have p4 : ∀ X Y Z T : List Nat,X.length = 5 -> Y.length = 5 -> Z.length = 5 -> T.length = 5 -> (part 75 (Us (pc X Y Z T)).toArray 15).run Tryd.prog w = .ok (.agg (Us T).toArray) w:=λX Y Z T h h2 h3 h4=>by
  have:=Bi w (X ++ (Y ++ Z)) T [] 15 (by simp [h,h2,h3]) h4
  simpa [pc,Us] using this
 have hst : Tryd.prog.stoodInHeld 77 = false:=by kernel_rfl
 have a1:=p1 X Y Z T hX;have a2:=p2 X Y Z T hX hY;have a3:=p3 X Y Z T hX hY hZ;have a4:=p4 X Y Z T hX hY hZ hT;have b1:=p1 X' Y' Z' T' hX';have b2:=p2 X' Y' Z' T' hX' hY';have b3:=p3 X' Y' Z' T' hX' hY' hZ';have b4:=p4 X' Y' Z' T' hX' hY' hZ' hT';generalize (Us (pc X Y Z T)).toArray = u at *;generalize (Us (pc X' Y' Z' T')).toArray = v at *;clear p1 p2 p3 p4;rw [fI];simp only [aJ,run_underlying Tryd.underlying77,aG,run_program,hst];rw [if_neg (by decide)]
 by_cases h1 : X = X' <;> by_cases h2 : Y = Y' <;> by_cases h3 : Z = Z' <;> by_cases h4 : T = T' <;>
  simp only [h1,h2,h3,h4,decide_true,decide_false,and_true,and_false] at e1 e2 e3 e4 ⊢ <;>
  simp [aJ,a1,a2,a3,a4,b1,b2,b3,b4,e1,e2,e3,e4,h1,h2,h3,h4,aI]
structure QB (l : List Nat) (A : Ed.Pt p) : Prop where
  ex : ∃ X Y Z T x y z t,l = pc X Y Z T /\ EB X x /\ EB Y y /\ EB Z z /\ EB T t /\ Ed.Rep x y z A /\ t * z = x * y
  on : Ed.On dd A
def PB (l : List Nat) (A : Ed.Pt p) : Prop:=(l = pz /\ A = Ed.zero) \/ QB l A
structure AB (l : List Nat) (A : Ed.Pt p) : Prop where
  ex : ∃ X Y Z T x y z t,l = pc X Y Z T /\ EB X (y + x) /\ EB Y (y - x) /\ EB Z (z + z) /\ EB T ((t + t) * dd) /\ Ed.Rep x y z A /\ t * z = x * y
  on : Ed.On dd A
theorem QB.len {l : List Nat} {A : Ed.Pt p} (h : QB l A) : l.length = 20:=by
 obtain ⟨⟨X,Y,Z,T,x,y,z,t,rfl,hX,hY,hZ,hT,_⟩,_⟩:=h;exact kP hX.len hY.len hZ.len hT.len
theorem AB.len {l : List Nat} {A : Ed.Pt p} (h : AB l A) : l.length = 20:=by
 obtain ⟨⟨X,Y,Z,T,x,y,z,t,rfl,hX,hY,hZ,hT,_⟩,_⟩:=h;exact kP hX.len hY.len hZ.len hT.len
theorem PB.len {l : List Nat} {A : Ed.Pt p} (h : PB l A) : l.length = 20:=by
 rcases h with ⟨rfl,_⟩ | h
 ·rfl
 ·exact h.len
theorem PB.on {l : List Nat} {A : Ed.Pt p} (h : PB l A) : Ed.On dd A:=by
 rcases h with ⟨_,rfl⟩ | h
 ·exact Ed.sS
 ·exact h.on
theorem UI {l : List Nat} {z : F} (h : EB l z) (hz : z ≠ 0) : l ≠ zl:=by
 rintro rfl
 exact hz (h.val.symm.trans uG)
theorem QB.ne {X Y Z T : List Nat} {z : F} (hZ : EB Z z) (hz : z ≠ 0) : ¬ (X = zl /\ Y = zl /\ Z = zl /\ T = zl):=λh=>UI hZ hz h.2.2.1
theorem Ev : Own 66:=λ_ _=>by go_simp
theorem sR : Own 71:=λ_ _=>by go_simp
theorem BT : Own 63:=λ_ _=>by go_simp
theorem BU : Own 89:=λ_ _=>by go_simp
theorem Gd : Own 87:=λ_ _=>by go_simp
theorem qR : Own 67:=λ_ _=>by go_simp
theorem rR : Own 58:=λ_ _=>by go_simp
section
variable {ops : Array Oper} {C0 : World -> Prop} {Q : Act -> Prop} {N : Nat} {E : List (Nat × Value)} {o : Oper} {rest : List Oper} {k : Nat}
theorem dL {x : Operand} {l : List Nat} (b off : Nat) (hl : l.length = 5) (hg : o.guard = none) (hd : o.dst = some k) (hk : aQ k N = true) (ho : o.op = .load 75 x) (hx : ev E x = some (.pointer (some ⟨b,off,none⟩)))
  (hc : ∀ w,C0 w -> w.rangeAt b off (Us l)) (hn : bF Tryd.prog ops C0 Q rest N ((k,.agg (Us l).toArray) :: E)) : bF Tryd.prog ops C0 Q (o :: rest) N E :=
 AO b off (Us l) _ hg hd hk ho hx hc Tryd.underlying75 rfl (MI hl) hn
theorem rD {x : Operand} {l : List Nat} (b off : Nat) (hl : l.length = 20) (hg : o.guard = none) (hd : o.dst = some k) (hk : aQ k N = true) (ho : o.op = .load 77 x) (hx : ev E x = some (.pointer (some ⟨b,off,none⟩)))
  (hc : ∀ w,C0 w -> w.rangeAt b off (Us l)) (hn : bF Tryd.prog ops C0 Q rest N ((k,.agg (Us l).toArray) :: E)) : bF Tryd.prog ops C0 Q (o :: rest) N E :=
 AO b off (Us l) _ hg hd hk ho hx hc Tryd.underlying77 rfl (JB (by rw [cY,hl])) hn
theorem U9 {x : Operand} {l : List Nat} (b off : Nat) (hl : l.length = 20) (hg : o.guard = none) (hd : o.dst = some k) (hk : aQ k N = true) (ho : o.op = .load 112 x) (hx : ev E x = some (.pointer (some ⟨b,off,none⟩)))
  (hc : ∀ w,C0 w -> w.rangeAt b off (Us l)) (hn : bF Tryd.prog ops C0 Q rest N ((k,.agg (Us l).toArray) :: E)) : bF Tryd.prog ops C0 Q (o :: rest) N E :=
 AO b off (Us l) _ hg hd hk ho hx hc Tryd.underlying112 rfl (JC (by rw [cY,hl])) hn
theorem eV {f : FuncId} {xs : Array Operand} {ats : Array TypeId} (args : Array Value) (V : List Nat -> Prop) (hg : o.guard = none) (hd : o.dst = some k) (hk : aQ k N = true)
  (hf : Own f) (hc : ∀ w,C0 w -> Calls Tryd.prog f args w (λe w'=>∃ r,V r /\ e = .returned (.agg (Us r).toArray) /\ Below w.heap.size w w'))
  (ho : o.op = .call { callee:=.value (.func f),args:=xs,argTypes:=ats }) (hx : xs.toList.map (ev E) = args.toList.map some) (hn : ∀ r,V r -> bF Tryd.prog ops C0 Q rest N ((k,.agg (Us r).toArray) :: E)) : bF Tryd.prog ops C0 Q (o :: rest) N E:=by
 refine sW args (λv=>∃ r,V r /\ v = .agg (Us r).toArray) hg hd hk hf (λw hw=>(hc w hw).mono ?_) ho hx ?_
 ·rintro e w2 ⟨r,hr,rfl,hw2⟩
  exact ⟨_,rfl,⟨r,hr,rfl⟩,hw2⟩
 ·rintro _ ⟨r,hr,rfl⟩
  exact hn r hr
end
section
variable {ops : Array Oper} {C0 : World -> Prop} {Q : Act -> Prop} {N : Nat} {E : List (Nat × Value)} {o : Oper} {rest : List Oper} {k : Nat}
theorem GZ {f : FuncId} {xs : Array Operand} {ats : Array TypeId} (args : Array Value) (x : F) (hg : o.guard = none) (hd : o.dst = some k) (hk : aQ k N = true)
  (hf : Own f) (hc : ∀ w,C0 w -> Calls Tryd.prog f args w (λe w'=>∃ r,EB r x /\ e = .returned (.tuple #[.agg (Us r).toArray,.bool true]) /\ Below w.heap.size w w'))
  (ho : o.op = .call { callee:=.value (.func f),args:=xs,argTypes:=ats }) (hx : xs.toList.map (ev E) = args.toList.map some) (hn : ∀ r,EB r x -> bF Tryd.prog ops C0 Q rest N ((k,.tuple #[.agg (Us r).toArray,.bool true]) :: E)) : bF Tryd.prog ops C0 Q (o :: rest) N E:=by
 refine sW args (λv=>∃ r,EB r x /\ v = .tuple #[.agg (Us r).toArray,.bool true]) hg hd hk hf (λw hw=>(hc w hw).mono ?_) ho hx ?_
 ·rintro e w2 ⟨r,hr,rfl,hw2⟩
  exact ⟨_,rfl,⟨r,hr,rfl⟩,hw2⟩
 ·rintro _ ⟨r,hr,rfl⟩
  exact hn r hr
end
theorem Sc (w : World) : (fI 10000 77 (.agg (Us pz).toArray) (.agg (Us pz).toArray)).run Tryd.prog w = .ok true w:=by
 have:=G3 zl zl zl zl zl zl zl zl rfl rfl rfl rfl rfl rfl rfl rfl w;rw [decide_eq_true ⟨rfl,rfl,rfl,rfl⟩] at this;exact this
theorem RT {l : List Nat} {A : Ed.Pt p} (h : QB l A) (w : World) : (fI 10000 77 (.agg (Us l).toArray) (.agg (Us pz).toArray)).run Tryd.prog w = .ok false w:=by
 obtain ⟨⟨X,Y,Z,T,x,y,z,t,rfl,hX,hY,hZ,hT,hr,_⟩,_⟩:=h;have:=G3 X Y Z T zl zl zl zl hX.len hY.len hZ.len hT.len rfl rfl rfl rfl w;rw [decide_eq_false (QB.ne hZ hr.z)] at this;exact this
theorem dR {l : List Nat} (h : l.length = 20) : (Tryd.prog.info? 77).map (·.size) = some (Us l).toArray.size:=JB (aT h)
theorem HV {l : List Nat} (h : l.length = 20) : (Tryd.prog.info? 112).map (·.size) = some (Us l).toArray.size:=JC (aT h)
theorem fS {l : List Nat} (h : l.length = 5) : (Tryd.prog.info? 75).map (·.size) = some (Us l).toArray.size:=by
 rw [aT h]
 kernel_rfl
theorem Tw.only {w w' : World} {g : Nat} (h : Tw w) (ho : uQ w w' g) (hg : 2 < g) : Tw w':=⟨λi hi=>by rw [ho.cell _ (by show (2 : Nat) ≠ g; omega)]; exact h.cell i hi,by rw [ho.size]; exact h.lt⟩
theorem Mr {l : List Nat} (hl : l.length = 5) (hb : ∀ y ∈ l,y < 2251799813685248) {k : Nat} (hk : k < 4) :
  bits .or .u64 ((l[64 * k / 51]! : Nat) / 2 ^ (64 * k % 51) : Int) (IntKind.u64.wrap ((l[64 * k / 51 + 1]! : Nat) * 2 ^ (51 - 64 * k % 51) : Int)) = ((wd (lv l) k : Nat) : Int):=by
 obtain ⟨a0,a1,a2,a3,a4,rfl⟩:=AZ hl;have h0:=hb a0 (by simp);have h1:=hb a1 (by simp);have h2:=hb a2 (by simp);have h3:=hb a3 (by simp);have h4:=hb a4 (by simp)
 unfold wd
 rw [lv5]
 have h4' : k = 0 \/ k = 1 \/ k = 2 \/ k = 3:=by omega
 have key : ∀ (i x y r t L : Nat),y * 2 ^ t % 18446744073709551616 % 2 ^ i = 0 -> x / 2 ^ r < 2 ^ i -> x / 2 ^ r < 18446744073709551616 -> y * 2 ^ t % 18446744073709551616 + x / 2 ^ r = L ->
   bits .or .u64 ((x : Nat) / 2 ^ r : Int) (IntKind.u64.wrap ((y : Nat) * 2 ^ t : Int)) = (L : Int):=by
  intro i x y r t L e1 e2 e3 e4
  have f1 : ((x : Int) / 2 ^ r) = ((x / 2 ^ r : Nat) : Int):=by simp
  have f2 : IntKind.u64.wrap ((y : Int) * 2 ^ t) = ((y * 2 ^ t % 18446744073709551616 : Nat) : Int):=by
   rw [aP]
   simp
  rw [f1,f2,<-e4,u64_or_nat _ _ e3 (by omega),Nat.or_comm,nat_join i _ _ e1 e2]
 rcases h4' with rfl | rfl | rfl | rfl
 ·exact key 51 a0 a1 0 51 _ (by omega) (by omega) (by omega) (by simp only [iM]; omega)
 ·exact key 38 a1 a2 13 38 _ (by omega) (by omega) (by omega) (by simp only [iM]; omega)
 ·exact key 25 a2 a3 26 25 _ (by omega) (by omega) (by omega) (by simp only [iM]; omega)
 ·exact key 12 a3 a4 39 12 _ (by omega) (by omega) (by omega) (by simp only [iM]; omega)
structure HSt (w wr : World) (g : Nat) (l : List Nat) (b : List UInt8) (n : Nat) : Prop where
  b1 : Blk wr (w.heap.size + 1) 24 z32
  b2 : Blk wr g 75 (Us l).toArray
  b3 : Blk wr (g + 1) 24 (By (fb b n)).toArray
  be : Below w.heap.size w wr
  hg : w.heap.size + 1 < g
theorem HSt.drew {w wr : World} {g : Nat} {l : List Nat} {b : List UInt8} {n : Nat} (h : HSt w wr g l b n) : HSt w wr.drew g l b n:=⟨h.b1,h.b2,h.b3,h.be.drew,h.hg⟩
theorem HSt.set {w wr : World} {g : Nat} {l : List Nat} {b : List UInt8} {n : Nat} (h : HSt w wr g l b n) : HSt w (wr.setCell ⟨g + 1,n,none⟩ (.int .u8 ((b[n]!).toNat : Int))) g l b (n + 1) where
 b1:=h.b1.far (by have:=h.hg; simp; omega) _
 b2:=h.b2.far (by simp) _
 b3:=by
  have h4:=h.b3.set n (.int .u8 ((b[n]!).toNat : Int));rw [rG,IW] at h4;exact h4
 be:=h.be.setCell (by have:=h.hg; simp; omega) _
 hg:=h.hg
theorem EM {a : List Nat} {x : F} (ha : EB a x) (w : World) :
  Calls Tryd.prog 68 #[.agg (Us a).toArray] w λe w'=>e = .returned (.agg (By (enc x)).toArray) /\ Below w.heap.size w w':=by
 obtain ⟨hl,hb,hL⟩:=nL ha
 have hbyte : ∀ m,m < 32 -> ((enc x)[m]!).toNat = lv (whole a) / 256 ^ m % 256:=λm hm=>by
  rw [hL];exact nS 32 x.val hm
 have hbl : (enc x).length = 32:=kW x;have h0 : ∀ u,Blk ((w.alloc (gM (Us a).toArray 75)).alloc u) w.heap.size 75 (Us a).toArray:=λu=>(Blk.new w _ _).alloc u;have h1 : Blk ((w.alloc (gM (Us a).toArray 75)).alloc (gM z32 24)) (w.heap.size + 1) 24 z32:=heap_alloc2_new w _ _;have hbel : Below w.heap.size w ((w.alloc (gM (Us a).toArray 75)).alloc (gM z32 24)):=((Below.refl _ _).alloc (aF _) _).alloc (by simp) _;have HWH:=λw1=>aH (Be ha w1);have HK:=aH (aY h1 hbel);have hza:=bV ha.len;clear hL h1 hbel;generalize enc x = b at *;generalize whole a = l at *
 go_enter Tryd.func68,Tryd.ntmps68
 go_wp2_with (refine wpList_load_row rfl 75 _ rfl w.heap.size rfl 75 (Us a).toArray (0,0) _ (h0 _) Tryd.underlying75 rfl (bO _ hza) ?_)
 refine (HWH _).out.mono ?_
 rintro e w1 ⟨rfl,hw1⟩
 obtain ⟨h1,hbel⟩:=HK.out;have hbe:=hbel.trans (hw1.mono hbel.size);have h2:=h1.below hw1 h1.lt;have h2s:=h2.lt;have hn : Blk (w1.alloc (gM z5 75)) w1.heap.size 75 z5:=Blk.new w1 _ _;have hzl:=bV hl
 have h3 : HSt w (((w1.alloc (gM z5 75)).setRow w1.heap.size (Us l).toArray).alloc (gM z32 24)) w1.heap.size l b 0:=by
  have hb3:=Blk.new ((w1.alloc (gM z5 75)).setRow w1.heap.size (Us l).toArray) 24 z32;rw [size_setRow,World.size_alloc] at hb3;refine ⟨((h2.alloc _).aR (by omega) _).alloc _,(hn.row _).alloc _,?_,?_,h2s⟩
  ·rw [ER]
   exact hb3
  ·have hq:=below_setRow (cs:=(Us l).toArray) (hbe.alloc (o:=gM z5 75) hbe.size) (g:=w1.heap.size) (by omega)
   exact hq.alloc hq.size _
 have H3:=aH h3;clear h3 h2 h2s hbe hw1 h1 hbel HK HWH h0;generalize hg : w1.heap.size = g at *
 go_wp2_with (refine wpList_store_row rfl 75 _ _ rfl g rfl (Us l).toArray rfl 75 _ hn (bO _ hzl) (by rw [hzl]; rfl) (cJ _) ?_)
 clear hg hn
 go_loopw [11] (λi wr=>∃ k : Nat,k <= 4 /\ i = .int .i64 k /\ HSt w wr g l b (8 * k)) (λi _=>4 - (intOf i).toNat)
 case atStart=>exact ⟨0,by omega,rfl,H3.out⟩
 case round =>
  clear H3;obtain ⟨k,hk,rfl,hS⟩:=hrel
  by_cases hlt : k < 4
  ·have hwd:=Mr hl hb hlt
   have hW : wd (lv l) k < 18446744073709551616:=Nat.mod_lt _ (by decide)
   have hby : ∀ j,j < 8 -> (b[8 * k + j]!).toNat = wd (lv l) k / 2 ^ (8 * j) % 256:=λj hj=>by
    rw [Js _ _ _ hj,hbyte _ (by omega)]
   have c0:=(hS.b2.drew.cell (64 * k / 51)).trans (iE (by omega));have c1:=(hS.b2.drew.cell (64 * k / 51 + 1)).trans (iE (by omega))
   have qA : IntKind.i64.wrap (64 * (k : Int)) = ((64 * k : Nat) : Int):=by rw [i64_left,wrap64_in _ (by omega)]; omega
   have qd : ((64 * k : Nat) : Int).tdiv 51 = ((64 * k / 51 : Nat) : Int):=rfl;have qm : ((64 * k : Nat) : Int).tmod 51 = ((64 * k % 51 : Nat) : Int):=rfl
   have qs : IntKind.i64.wrap (((64 * k / 51 : Nat) : Int) + 1) = ((64 * k / 51 + 1 : Nat) : Int):=by rw [i64_left,wrap64_in _ (by omega)]; omega
   have qt : IntKind.i64.wrap (51 - ((64 * k % 51 : Nat) : Int)) = ((51 - 64 * k % 51 : Nat) : Int):=by rw [i64_left,wrap64_in _ (by omega)]; omega
   have g1 : ((64 * k / 51 + 1 : Nat) : Int) < 5:=by omega
   have g2 : ((64 * k / 51 : Nat) : Int) < 5:=by omega
   have g3 : ((64 * k % 51 : Nat) : Int) <= 64:=by omega
   have g4 : ((51 - 64 * k % 51 : Nat) : Int) <= 64:=by omega
   have g5 : (0 : Int) <= (k : Int):=by omega
   generalize wd (lv l) k = W at *;generalize l[64 * k / 51]! = u at *;generalize l[64 * k / 51 + 1]! = v at *;generalize 51 - 64 * k % 51 = t at *;generalize 64 * k % 51 = r at *;generalize 64 * k / 51 + 1 = q1 at *;generalize 64 * k / 51 = q at *;generalize 64 * k = A at *;have HS:=aH hS;clear hS
   go_wp2
   go_region
   clear qA qd qm qs qt g1 g2 g3 g4 c0 c1 hwd
   go_wp2
   go_loopw [35] (λi wq=>∃ j : Nat,j <= 8 /\ i = .int .i64 j /\ HSt w wq g l b (8 * k + j)) (λi _=>8 - (intOf i).toNat)
   case atStart=>exact ⟨0,by omega,rfl,HS.out.drew⟩
   case round =>
    clear HS;obtain ⟨j,hj,rfl,hS⟩:=hrel
    by_cases hlj : j < 8
    ·have hbj:=hby j hlj
     have q4 : IntKind.u8.wrap ((W : Int) / 2 ^ (8 * j)) = ((b[8 * k + j]!).toNat : Int):=by
      have f1 : ((W : Int) / 2 ^ (8 * j)) = ((W / 2 ^ (8 * j) : Nat) : Int):=by simp
      rw [f1,IntKind.wrap_u8',hbj]
      omega
     have hN:=hS.set;have hc:=(hS.b3.cell (8 * k + j)).trans (fU (by rw [IX]; omega));have hf:=hS.b3.free (8 * k + j)
     have q1 : IntKind.i64.wrap (8 * (k : Int)) = ((8 * k : Nat) : Int):=by rw [i64_left,wrap64_in _ (by omega)]; omega
     have q2 : IntKind.i64.wrap (((8 * k : Nat) : Int) + (j : Int)) = ((8 * k + j : Nat) : Int):=by rw [i64_left,wrap64_in _ (by omega)]; omega
     have q3 : IntKind.i64.wrap (8 * (j : Int)) = ((8 * j : Nat) : Int):=by rw [i64_left,wrap64_in _ (by omega)]; omega
     have g1 : ((8 * k + j : Nat) : Int) < 32:=by omega
     have g2 : ((8 * j : Nat) : Int) <= 64:=by omega
     have e1 : 8 * k + (j + 1) = 8 * k + j + 1:=by omega
     have HN:=aH hN;clear hS hby hbj hN;generalize (b[8 * k + j]!).toNat = y at *;generalize 8 * k + j = m at *;generalize 8 * k = a8 at *;generalize 8 * j = n at *
     go_wp2
     go_roundw
     case rel =>
      exact ⟨j + 1,by omega,by go_num,by rw [e1]; exact HN.out⟩
     case measure=>simp [intOf]; omega
    ·obtain rfl : j = 8:=by omega
     have HS:=aH hS;clear hS
     go_wp2
     go_roundw
     case rel=>exact ⟨k + 1,by omega,by go_num,by rw [show 8 * (k + 1) = 8 * k + 8 by omega]; exact HS.out⟩
     case measure=>simp [intOf]; omega
  ·obtain rfl : k = 4:=by omega
   obtain ⟨b1,b2,b3,be,hg⟩:=hS;rw [show 8 * 4 = 32 from rfl,IY hbl] at b3
   have hz : (By b).toArray.size = 32:=by rw [bA,b6,hbl]
   clear b2
   go_wp2_with (first
    | (refine wpList_load_row rfl 24 _ rfl (g + 1) rfl 24 (By b).toArray (0,0) _ b3 Tryd.underlying24 rfl (fC _ hz) ?_)
    | (refine wpList_store_row rfl 24 _ _ rfl (w.heap.size + 1) rfl (By b).toArray rfl 24 _ b1 (fC _ hz) (by rw [hz]; rfl) (lJ _) ?_))
   refine bodyPost_ret (results_cell_row rfl _ _ (w.heap.size + 1) 24 (By b).toArray (0,0) _ rfl (b1.row _) Tryd.underlying24 rfl (fC _ hz)) rfl ⟨rfl,?_⟩;exact below_setRow be (by omega) _
end Go.Proofs.YtfkchihlchlfdaaDoor
namespace Nums
end Nums
namespace Go.Proofs.YtfkchihlchlfdaaDoor
open Go.RowKit Nums
end Go.Proofs.YtfkchihlchlfdaaDoor
namespace Nums
end Nums
namespace Nums
end Nums
namespace Nums
end Nums
namespace Go.Proofs.YtfkchihlchlfdaaDoor
open Go.RowKit Go.IntWalk Nums
end Go.Proofs.YtfkchihlchlfdaaDoor
namespace Nums
end Nums
namespace Go.Proofs.YtfkchihlchlfdaaDoor
open Go.RowKit Go.IntWalk Nums
def qD (b : List UInt8) : Bool:=decide ((b[31]!).toNat < 128) && decide (enc (fof (le b % 57896044618658097711785492504343953926634992332820282019728792003956564819968)) = b)
theorem PM (T y q r : Nat) (hr : r < 8) (hT : T < 256 ^ (8 * q + r)) (hy : y < 256) (j : Nat) :
  wd (T + 256 ^ (8 * q + r) * y) j = if j = q then wd T j + 256 ^ r * y else wd T j:=by
 have hp : (256 : Nat) ^ (8 * q + r) = 18446744073709551616 ^ q * 256 ^ r:=by rw [o5,wP]
 have hr8 : (256 : Nat) ^ (r + 1) <= 18446744073709551616:=wQ (by omega) (show r + 1 <= 8 by omega);have hr9 : (256 : Nat) ^ (r + 1) = 256 ^ r * 256:=dE ..;have hm : (256 : Nat) ^ r * y <= 256 ^ r * 255:=mJ (aF _) (by omega);rw [hp] at hT ⊢;have hPq : 0 < (18446744073709551616 : Nat) ^ q:=Mh (by omega)
 unfold wd
 by_cases hjq : j = q
 ·subst hjq
  rw [if_pos rfl,kJ,C2 _ _ hPq];have hz : T / 18446744073709551616 ^ j < 256 ^ r:=C1 hT;rw [bS (by omega),bS (by omega)]
 ·rw [if_neg hjq]
  rcases Nat.lt_or_gt_of_ne hjq with hlt | hgt
  ·obtain ⟨d,rfl⟩ : ∃ d,q = j + 1 + d:=⟨q - j - 1,by omega⟩
   have e : (18446744073709551616 : Nat) ^ (j + 1 + d) * 256 ^ r * y = 18446744073709551616 ^ j * (18446744073709551616 * (18446744073709551616 ^ d * 256 ^ r * y)):=by
    rw [o5,dE];simp only [kJ]
   rw [e,C2 _ _ (Mh (by omega)),Nat.add_mul_mod_self_left]
  ·obtain ⟨d,rfl⟩ : ∃ d,j = q + 1 + d:=⟨j - q - 1,by omega⟩
   have e : (18446744073709551616 : Nat) ^ (q + 1 + d) = 18446744073709551616 ^ q * 18446744073709551616 * 18446744073709551616 ^ d:=by rw [o5,dE]
   have hd : 0 < (18446744073709551616 : Nat) ^ d:=Mh (by omega)
   have hb : 18446744073709551616 ^ q * 18446744073709551616 <= (18446744073709551616 : Nat) ^ (q + 1 + d):=by
    rw [e];exact Nat.le_mul_of_pos_right _ hd
   have h1 : 18446744073709551616 ^ q * 256 ^ r + 18446744073709551616 ^ q * 256 ^ r * y <= 18446744073709551616 ^ q * 18446744073709551616:=by
    rw [kJ,<-Nat.mul_add];exact mJ (aF _) (by omega)
   rw [Nat.div_eq_of_lt (by omega),Nat.div_eq_of_lt (by omega)]
theorem J3 {b : List UInt8} {n : Nat} (h : n < b.length) : le (b.take (n + 1)) = le (b.take n) + 256 ^ n * (b[n]!).toNat:=by
 rw [List.take_succ_eq_append_getElem h,lP,aZ,cO (by omega),getElem!_pos b n h]
 show le (b.take n) + 256 ^ n * ((b[n]).toNat + 256 * 0) = _
 rw [Nat.mul_zero,Nat.add_zero]
def wds (b : List UInt8) (n : Nat) : List Nat:=(sH 5).map λj=>wd (le (b.take n)) j
theorem D2 (b : List UInt8) (n : Nat) : (wds b n).length = 5:=by simp [wds]
theorem Jr (b : List UInt8) (n : Nat) {j : Nat} (h : j < 5) : (wds b n)[j]! = wd (le (b.take n)) j:=by
 rw [getElem!_pos _ j (by rw [D2]; exact h)]
 simp [wds]
theorem Mp (b : List UInt8) : wds b 0 = [0,0,0,0,0]:=by
 have e : ∀ j,wd (le (b.take 0)) j = 0:=λj=>by
  show 0 / _ % _ = 0
  rw [Nat.zero_div]
 simp only [wds,e]
 rfl
theorem Mq {T n : Nat} (hT : T < 256 ^ n) : wd T (n / 8) < 2 ^ (8 * (n % 8)):=by
 have e : (256 : Nat) ^ n = 18446744073709551616 ^ (n / 8) * 2 ^ (8 * (n % 8)):=by
  have h : (256 : Nat) ^ n = 256 ^ (8 * (n / 8) + n % 8):=by congr 1; omega
  rw [h,o5,wP,wP]
 rw [e] at hT;have hz:=C1 hT;exact Nat.lt_of_le_of_lt (Nat.mod_le _ _) hz
theorem PL {b : List UInt8} {n : Nat} (h : n < b.length) : (wds b n).set (n / 8) (wd (le (b.take n)) (n / 8) + 2 ^ (8 * (n % 8)) * (b[n]!).toNat) = wds b (n + 1):=by
 have hT:=AJ (b.take n);rw [aZ,cO (by omega)] at hT
 have e2 : (256 : Nat) ^ n = 256 ^ (8 * (n / 8) + n % 8):=by congr 1; omega
 have e3 : (2 : Nat) ^ (8 * (n % 8)) = 256 ^ (n % 8):=by rw [wP]
 have hy:=(b[n]!).toNat_lt
 apply List.ext_getElem (by simp [wds])
 intro j h1 h2
 have hj : j < 5:=by simpa [wds] using h2
 rw [List.getElem_set];simp only [wds,List.getElem_map,List.getElem_range];rw [J3 h,e2,PM _ _ _ _ (by omega) (by rw [<-e2]; exact hT) hy]
 by_cases hjq : n / 8 = j
 ·subst hjq
  rw [if_pos rfl,if_pos rfl,e3]
 ·rw [if_neg hjq,if_neg (λe=>hjq e.symm)]
theorem Qs {old y m : Nat} (hm : m <= 56) (hold : old < 2 ^ m) (hy : y < 256) :
  bits .or .u64 (old : Int) (IntKind.u64.wrap ((y : Int) * 2 ^ m)) = ((old + 2 ^ m * y : Nat) : Int):=by
 have hp : (2 : Nat) ^ m <= 2 ^ 56:=wQ (by omega) hm
 have h56 : (2 : Nat) ^ 56 = 72057594037927936:=by decide
 have hx : y * 2 ^ m <= 255 * 2 ^ 56:=mJ (by omega) hp
 have f2 : IntKind.u64.wrap ((y : Int) * 2 ^ m) = ((y * 2 ^ m : Nat) : Int):=by
  have : ((y : Int) * 2 ^ m) = ((y * 2 ^ m : Nat) : Int):=by simp
  rw [this,rJ _ (by omega)]
 rw [f2,u64_or_nat _ _ (by omega) (by omega),Nat.or_comm,nat_join m _ _ (Nat.mul_mod_left ..) hold,Nat.add_comm,Nat.mul_comm]
def lbs (L : Nat) : List Nat:=(sH 5).map λi=>L / 2251799813685248 ^ i % 2251799813685248
theorem Tg (L : Nat) : lbs L = mx (λi=>L / 2251799813685248 ^ i % 2251799813685248) [0,0,0,0,0] 5:=rfl
theorem Th (L : Nat) : EB (lbs L) (fof (L % 57896044618658097711785492504343953926634992332820282019728792003956564819968)):=by
 refine EB.mk5 (a0:=L / 2251799813685248 ^ 0 % 2251799813685248) (a1:=L / 2251799813685248 ^ 1 % 2251799813685248) (a2:=L / 2251799813685248 ^ 2 % 2251799813685248) (a3:=L / 2251799813685248 ^ 3 % 2251799813685248) (a4:=L / 2251799813685248 ^ 4 % 2251799813685248) (by omega) (by omega) (by omega) (by omega) (by omega) ?_
 congr 1
 rw [lv5];simp only [iM]
 omega
theorem NZ {L : Nat} (hL : L < 115792089237316195423570985008687907853269984665640564039457584007913129639936) {i : Nat} (hi : i < 5) :
  bits .and .u64 (bits .or .u64 ((wd L (51 * i / 64) : Nat) / 2 ^ (51 * i % 64) : Int) (IntKind.u64.wrap ((wd L (51 * i / 64 + 1) : Nat) * 2 ^ (64 - 51 * i % 64) : Int))) 2251799813685247 = ((L / 2251799813685248 ^ i % 2251799813685248 : Nat) : Int):=by
 have key : ∀ (k x y r t R : Nat),y * 2 ^ t % 18446744073709551616 % 2 ^ k = 0 -> x / 2 ^ r < 2 ^ k -> x / 2 ^ r < 18446744073709551616 -> y * 2 ^ t % 18446744073709551616 + x / 2 ^ r < 18446744073709551616 -> (y * 2 ^ t % 18446744073709551616 + x / 2 ^ r) % 2251799813685248 = R ->
   bits .and .u64 (bits .or .u64 ((x : Nat) / 2 ^ r : Int) (IntKind.u64.wrap ((y : Nat) * 2 ^ t : Int))) 2251799813685247 = (R : Int):=by
  intro k x y r t R e1 e2 e3 e5 e4
  have f1 : ((x : Int) / 2 ^ r) = ((x / 2 ^ r : Nat) : Int):=by simp
  have f2 : IntKind.u64.wrap ((y : Int) * 2 ^ t) = ((y * 2 ^ t % 18446744073709551616 : Nat) : Int):=by
   rw [aP]
   simp
  rw [f1,f2,u64_or_nat _ _ e3 (by omega),Nat.or_comm,nat_join k _ _ e1 e2,Dx _ e5,e4]
 have h5 : i = 0 \/ i = 1 \/ i = 2 \/ i = 3 \/ i = 4:=by omega
 unfold wd
 rcases h5 with rfl | rfl | rfl | rfl | rfl
 ·exact key 64 (L / 18446744073709551616 ^ 0 % 18446744073709551616) (L / 18446744073709551616 ^ 1 % 18446744073709551616) 0 64 _ (by omega) (by omega) (by omega) (by omega) (by simp only [iM]; omega)
 ·exact key 13 (L / 18446744073709551616 ^ 0 % 18446744073709551616) (L / 18446744073709551616 ^ 1 % 18446744073709551616) 51 13 _ (by omega) (by omega) (by omega) (by omega) (by simp only [iM]; omega)
 ·exact key 26 (L / 18446744073709551616 ^ 1 % 18446744073709551616) (L / 18446744073709551616 ^ 2 % 18446744073709551616) 38 26 _ (by omega) (by omega) (by omega) (by omega) (by simp only [iM]; omega)
 ·exact key 39 (L / 18446744073709551616 ^ 2 % 18446744073709551616) (L / 18446744073709551616 ^ 3 % 18446744073709551616) 25 39 _ (by omega) (by omega) (by omega) (by omega) (by simp only [iM]; omega)
 ·exact key 52 (L / 18446744073709551616 ^ 3 % 18446744073709551616) (L / 18446744073709551616 ^ 4 % 18446744073709551616) 12 52 _ (by omega) (by omega) (by omega) (by omega) (by simp only [iM]; omega)
structure NSt (w wr : World) (b : List UInt8) (n : Nat) : Prop where
  b0 : Blk wr w.heap.size 24 (By b).toArray
  b1 : Blk wr (w.heap.size + 1) 75 z5
  b2 : Blk wr (w.heap.size + 1 + 1) 73 (Us (wds b n)).toArray
  be : Below w.heap.size w wr
theorem RR {b : List UInt8} (hbl : b.length = 32) (w : World) :
  Calls Tryd.prog 58 #[.agg (By b).toArray] w λe w' =>
   ((qD b = true /\ ∃ r,EB r (fof (le b % 57896044618658097711785492504343953926634992332820282019728792003956564819968)) /\ e = .returned (.tuple #[.agg (Us r).toArray,.bool true])) \/ (qD b = false /\ e = .returned (.tuple #[.agg z5,.bool false]))) /\ Below w.heap.size w w':=by
 have hG : qD b = decide (enc (fof (le b % 57896044618658097711785492504343953926634992332820282019728792003956564819968)) = b):=by
  unfold qD
  by_cases he : enc (fof (le b % 57896044618658097711785492504343953926634992332820282019728792003956564819968)) = b
  ·have h128 : (b[31]!).toNat < 128:=by
    have:=EV (fof (le b % 57896044618658097711785492504343953926634992332820282019728792003956564819968))
    rwa [he] at this
   rw [decide_eq_true h128,Bool.true_and]
  ·rw [decide_eq_false he,Bool.and_false]
 rw [hG];clear hG;have hE:=Th (le b);generalize fof (le b % 57896044618658097711785492504343953926634992332820282019728792003956564819968) = z at *;have hq:=λw1=>Bn (enc z) b (kW _) hbl w1;generalize decide (enc z = b) = ok at *;have HH:=λw1=>EM hE w1;have hez:=kW z;generalize enc z = ez at *;have HE:=aH (aY hE (aY hq HH));clear hE hq HH
 go_enter Tryd.func58,Tryd.ntmps58
 go_wp2
 go_loopw [9] (λi wr=>∃ n : Nat,n <= 32 /\ i = .int .i64 n /\ NSt w wr b n) (λi _=>32 - (intOf i).toNat)
 case atStart =>
  refine ⟨0,by omega,rfl,mV w _ _ _ _,lI w _ _ _ _,?_,(((Below.refl _ _).alloc (aF _) _).alloc (by simp) _).alloc (by simp; omega) _⟩;rw [Mp];exact lV w _ _ _ _
 case round =>
  obtain ⟨n,hn,rfl,h0,h1,h2,hbel⟩:=hrel
  by_cases hlt : n < 32
  ·have hT:=AJ (b.take n)
   rw [aZ,cO (by omega)] at hT;have hsm:=Mq hT;have hN:=PL (b:=b) (n:=n) (by omega);have c0:=(h2.drew.cell (n / 8)).trans (iE (by rw [D2]; omega));rw [Jr b n (by omega)] at c0;have c1:=(h0.drew.cell n).trans (fU (by omega));have hf:=h2.drew.free (n / 8);have hy:=(b[n]!).toNat_lt;have hor:=Qs (m:=8 * (n % 8)) (by omega) hsm hy;generalize (b[n]!).toNat = y at *;generalize wd (le (b.take n)) (n / 8) = old at *;have q1 : ((n : Nat) : Int).tdiv 8 = ((n / 8 : Nat) : Int):=rfl;have q2 : ((n : Nat) : Int).tmod 8 = ((n % 8 : Nat) : Int):=rfl
   have q3 : IntKind.i64.wrap (((n % 8 : Nat) : Int) * 8) = ((8 * (n % 8) : Nat) : Int):=by rw [i64_left,wrap64_in _ (by omega)]; omega
   have q4 : IntKind.u64.wrap (y : Int) = (y : Int):=rJ y (by omega)
   have q5 : IntKind.i64.wrap ((n / 8 : Nat) : Int) = ((n / 8 : Nat) : Int):=by rw [i64_left,wrap64_in _ (by omega)]
   have q6 : IntKind.i64.wrap ((n % 8 : Nat) : Int) = ((n % 8 : Nat) : Int):=by rw [i64_left,wrap64_in _ (by omega)]
   have g1 : ((n / 8 : Nat) : Int) < 5:=by omega
   have g2 : ((8 * (n % 8) : Nat) : Int) <= 64:=by omega
   have g3 : (0 : Int) <= (n : Int):=by omega
   generalize old + 2 ^ (8 * (n % 8)) * y = nw at *;generalize 8 * (n % 8) = m at *;generalize hq : n / 8 = q at *;generalize n % 8 = r at *;have HK:=aH (aY h0 (aY h1 (aY h2 (aY hbel hN))));clear h0 h1 h2 hbel hN hT hsm hq hy
   go_wp2
   go_still_tail 14,(by kernel_rfl)
   go_wp2
   go_roundw
   case rel =>
    obtain ⟨h0,h1,h2,hbel,hN⟩:=HK.out;have h4:=h2.set q (.int .u64 (nw : Int));rw [uP,hN] at h4;exact ⟨n + 1,by omega,by go_num,h0.far (by simp; omega) _,h1.far (by simp) _,h4,(hbel.setCell (by simp; omega) _).drew⟩
   case measure=>simp [intOf]; omega
  ·obtain rfl : n = 32:=by omega
   have hT : b.take 32 = b:=bT (by omega);have hL:=AJ b;rw [hbl] at hL
   have hW : ∀ j,j < 5 -> (wds b 32)[j]! = wd (le b) j:=λj hj=>by rw [Jr b 32 hj,hT]
   have hwl:=D2 b 32;have hbn:=λo=>Blk.new wr 75 o;have k0 : ∀ o,Blk (wr.alloc o) w.heap.size 24 (By b).toArray:=λo=>h0.alloc o;have k1 : ∀ o,Blk (wr.alloc o) (w.heap.size + 1) 75 z5:=λo=>h1.alloc o;have k2 : ∀ o,Blk (wr.alloc o) (w.heap.size + 1 + 1) 73 (Us (wds b 32)).toArray:=λo=>h2.alloc o;have kb : ∀ o,Below w.heap.size w (wr.alloc o):=λo=>hbel.alloc hbel.size o;have hlt2:=h2.lt;have HK:=aH (aY k0 (aY k1 (aY k2 (aY kb hbn))));clear h0 h1 h2 hbel k0 k1 k2 kb hbn hlt hn;generalize hg : wr.heap.size = g at *;generalize wds b 32 = W at *
   go_wp2
   generalize ((32 : Nat) : Int) = s32
   go_loopw [27] (λi wq=>∃ k : Nat,k <= 5 /\ i = .int .i64 k /\ Blk wq w.heap.size 24 (By b).toArray /\ Blk wq (w.heap.size + 1) 75 z5 /\ Blk wq (w.heap.size + 1 + 1) 73 (Us W).toArray /\ Blk wq g 75 (Us (mx (λi=>le b / 2251799813685248 ^ i % 2251799813685248) [0,0,0,0,0] k)).toArray /\ Below w.heap.size w wq) (λi _=>5 - (intOf i).toNat)
   case atStart =>
    obtain ⟨k0,k1,k2,kb,hbn⟩:=HK.out;exact ⟨0,by omega,rfl,k0 _,k1 _,k2 _,hbn _,kb _⟩
   case round =>
    clear HK hg;obtain ⟨k,hk,rfl,h0,h1,h2,h3,hbel⟩:=hrel
    by_cases hlt : k < 5
    ·have hN:=EA (λi=>le b / 2251799813685248 ^ i % 2251799813685248) [0,0,0,0,0] (k:=k)
     have hlb:=NZ hL hlt;have c0:=(h2.drew.cell (51 * k / 64)).trans (iE (by omega));have c1:=(h2.drew.cell (51 * k / 64 + 1)).trans (iE (by omega));rw [hW _ (by omega)] at c0 c1;have hc:=(h3.drew.cell k).trans (iE (by rw [zV]; omega));have hf:=h3.drew.free k
     have qA : IntKind.i64.wrap (51 * (k : Int)) = ((51 * k : Nat) : Int):=by rw [i64_left,wrap64_in _ (by omega)]; omega
     have qd : ((51 * k : Nat) : Int).tdiv 64 = ((51 * k / 64 : Nat) : Int):=rfl;have qm : ((51 * k : Nat) : Int).tmod 64 = ((51 * k % 64 : Nat) : Int):=rfl
     have qs : IntKind.i64.wrap (((51 * k / 64 : Nat) : Int) + 1) = ((51 * k / 64 + 1 : Nat) : Int):=by rw [i64_left,wrap64_in _ (by omega)]; omega
     have qt : IntKind.i64.wrap (64 - ((51 * k % 64 : Nat) : Int)) = ((64 - 51 * k % 64 : Nat) : Int):=by rw [i64_left,wrap64_in _ (by omega)]; omega
     have q5 : IntKind.i64.wrap ((51 * k / 64 : Nat) : Int) = ((51 * k / 64 : Nat) : Int):=by rw [i64_left,wrap64_in _ (by omega)]
     have q6 : IntKind.i64.wrap ((51 * k % 64 : Nat) : Int) = ((51 * k % 64 : Nat) : Int):=by rw [i64_left,wrap64_in _ (by omega)]
     have g1 : ((51 * k / 64 + 1 : Nat) : Int) < 5:=by omega
     have g2 : ((51 * k / 64 : Nat) : Int) < 5:=by omega
     have g3 : ((51 * k % 64 : Nat) : Int) <= 64:=by omega
     have g4 : ((64 - 51 * k % 64 : Nat) : Int) <= 64:=by omega
     have g5 : (0 : Int) <= (k : Int):=by omega
     have HK:=aH (aY h0 (aY h1 (aY h2 (aY h3 (aY hbel (aY hN hL))))));have HW:=aH hW;clear h0 h1 h2 h3 hbel hN hL hW;generalize le b / 2251799813685248 ^ k % 2251799813685248 = nw at *;generalize wd (le b) (51 * k / 64) = u at *;generalize wd (le b) (51 * k / 64 + 1) = v at *;generalize 64 - 51 * k % 64 = t at *;generalize 51 * k % 64 = r at *;generalize 51 * k / 64 + 1 = q1 at *;generalize 51 * k / 64 = q at *;generalize 51 * k = A at *
     go_wp2
     go_still_tail 21,(by kernel_rfl)
     go_wp2
     go_roundw
     case rel =>
      obtain ⟨h0,h1,h2,h3,hbel,hN,hL⟩:=HK.out;have h4:=h3.set k (.int .u64 (nw : Int));rw [uP,hN] at h4;exact ⟨k + 1,by omega,by go_num,h0.far (by simp; omega) _,h1.far (by simp; omega) _,h2.far (by simp; omega) _,h4,(hbel.setCell (by simp; omega) _).drew⟩
     case measure=>simp [intOf]; omega
    ·obtain rfl : k = 5:=by omega
     rw [<-Tg] at h3;obtain ⟨hE,hq,HH⟩:=HE.out
     have hzb : (By b).toArray.size = 32:=by rw [bA,b6,hbl]
     have hzl:=bV hE.len;clear hW hwl hT hL HE h2;generalize lbs (le b) = l at *;have HK2:=aH (aY hE hbel);clear hE hbel
     go_wp2
     refine yG (by kernel_rfl) (cC (by kernel_rfl)) (λ_ _ d _ _ h=>by cases d <;> exact h) ?_;refine fZ g (by simpa [cY] using hzl) _ rfl rfl rfl (λ_ h=>h.blk h3) ?_; simp only [aE,aA,aB,aC];refine jU rfl yM (λw1=>HH w1) rfl rfl ?_; simp only [aE,aA,aB,aC];refine y9 rfl 24 _ rfl w.heap.size 0 rfl (By b) _ (λ_ h=>(h.blk h0).range) Tryd.underlying24 rfl (fC (By b).toArray hzb) ?_; simp only [aE,aA,aB,aC];refine Sf (By ez).toArray (By b).toArray rfl rfl rfl rfl (by kernel_rfl) hq ?_; simp only [aE,aA,aB,aC];refine cL ?_
     intro w1 hw1
     have j1:=hw1.blk h1;have j3:=hw1.blk h3;have hsz:=hw1.size;have HU:=aH hw1;clear h0 h1 h3 HH hq hw1
     cases ok with
     | true =>
      go_wp2_with (first
       | (refine wpList_load_row rfl 75 _ rfl g rfl 75 (Us l).toArray (0,0) _ j3 Tryd.underlying75 rfl (bO _ hzl) ?_)
       | (refine wpList_store_row rfl 75 _ _ rfl (w.heap.size + 1) rfl (Us l).toArray rfl 75 _ j1 (bO _ hzl) (by rw [hzl]; rfl) (cJ _) ?_))
      obtain ⟨hE,hbel⟩:=HK2.out;refine bodyPost_ret (results_cell_tmp rfl _ _ (w.heap.size + 1) 75 (Us l).toArray (0,0) _ (.bool true) rfl rfl (j1.row _) Tryd.underlying75 rfl (bO _ hzl)) rfl ⟨⟨l,hE,rfl⟩,?_⟩;exact below_setRow (a6 hbel HU.out) (by omega) _
     | false =>
      go_wp2_with (first
       | (refine uZ [] z5 rfl rfl rfl iZ ?_)
       | (refine wpList_store_row rfl 75 _ _ rfl (w.heap.size + 1) rfl z5 rfl 75 _ j1 (bO _ rfl) rfl (cJ _) ?_))
      obtain ⟨hE,hbel⟩:=HK2.out;refine bodyPost_ret (results_cell_tmp rfl _ _ (w.heap.size + 1) 75 z5 (0,0) _ (.bool false) rfl rfl (j1.row _) Tryd.underlying75 rfl (bO _ rfl)) rfl ⟨rfl,?_⟩;exact below_setRow (a6 hbel HU.out) (by omega) _
theorem BB (w : World) : Calls Tryd.prog 59 #[.int .u64 1] w λe w'=>∃ r,EB r 1 /\ e = .returned (.agg (Us r).toArray) /\ Below w.heap.size w w':=by
 have h:=PS 1 (by omega) w;rw [oA] at h;exact h
def Q2 : List UInt8:=[163,120,89,19,202,77,235,117,171,216,65,65,77,10,112,0,152,232,121,119,121,64,199,140,115,254,111,43,238,108,3,82]
def bxB : List UInt8:=[26,213,37,143,96,45,86,201,178,167,37,149,96,199,44,105,92,220,214,253,49,226,164,192,254,83,110,205,211,54,105,33]
def byB : List UInt8:=[88,102,102,102,102,102,102,102,102,102,102,102,102,102,102,102,102,102,102,102,102,102,102,102,102,102,102,102,102,102,102,102]
theorem vG {b : List UInt8} {x : F} (hb : b.length = 32) (hg : qD b = true) (hx : fof (le b % 57896044618658097711785492504343953926634992332820282019728792003956564819968) = x) (w : World) :
  Calls Tryd.prog 58 #[.agg (By b).toArray] w λe w'=>∃ r,EB r x /\ e = .returned (.tuple #[.agg (Us r).toArray,.bool true]) /\ Below w.heap.size w w' :=
 (RR hb w).mono λe w' ⟨h,hw⟩=>by
  rcases h with ⟨_,r,hr,he⟩ | ⟨h,_⟩
  ·exact ⟨r,hx ▸ hr,he,hw⟩
  ·rw [hg] at h
   cases h
theorem Oi : qD Q2 = true:=by decide +kernel
theorem QX : qD bxB = true:=by decide +kernel
theorem QW : qD byB = true:=by decide +kernel
theorem Td : fof (le Q2 % 57896044618658097711785492504343953926634992332820282019728792003956564819968) = dd:=qE (by decide +kernel)
theorem UR : fof (le bxB % 57896044618658097711785492504343953926634992332820282019728792003956564819968) = fof bx:=qE (by decide +kernel)
theorem UQ : fof (le byB % 57896044618658097711785492504343953926634992332820282019728792003956564819968) = fof bY:=qE (by decide +kernel)
theorem Ry {X Y : List Nat} {x y : F} (hX : EB X x) (hY : EB Y y) (hon : Ed.On dd ⟨x,y⟩) (w : World) :
  Calls Tryd.prog 66 #[.agg (Us X).toArray,.agg (Us Y).toArray] w λe w'=>∃ r,QB r ⟨x,y⟩ /\ e = .returned (.agg (Us r).toArray) /\ Below w.heap.size w w':=by
 refine e9 (vs:=[.agg (Us X).toArray,.agg (Us Y).toArray]) 12 Tryd.func66 rfl (by rw [Tryd.ntmps66]; rfl) ?_;refine aM λK hK=>?_;refine eQ ?_;refine gB ((Us X).toArray) rfl rfl rfl rfl rfl λW1 g1 hw1 hg1 b1=>?_;clear hg1;have hU : Up w _:=hw1;refine gB ((Us Y).toArray) rfl rfl rfl rfl rfl λW2 g2 hw2 hg2 b2=>?_;clear hg2;replace b1:=b1.later hw2;replace hU:=hU.step hw2;refine cT ((Us pz).toArray) rfl rfl rfl rfl (by kernel_rfl) λW3 g3 hw3 hg3 b3=>?_
 have q3 : w.heap.size <= g3:=by rw [hg3]; exact hU.size
 clear hg3;replace b1:=b1.later hw3;replace b2:=b2.later hw3;replace hU:=hU.step hw3;refine bG ?_;refine hK _ _ ?_;clear hK K;refine aM λK hK=>?_;refine c_t 7 (by decide) (by kernel_rfl) (cC (by kernel_rfl)) (λ_ _ d _ _ h=>by cases d <;> exact h) ?_;refine dL g1 0 hX.len rfl rfl rfl rfl rfl (λ_ h1=>(h1.blk b1).range) ?_;refine dL g2 0 hY.len rfl rfl rfl rfl rfl (λ_ h1=>(h1.blk b2).range) ?_;refine eV #[.int .u64 1] (EB · 1) rfl rfl rfl zQ (λw1 _=>BB w1) rfl rfl λr7 v7=>?_;refine dL g1 0 hX.len rfl rfl rfl rfl rfl (λ_ h1=>(h1.blk b1).range) ?_;refine dL g2 0 hY.len rfl rfl rfl rfl rfl (λ_ h1=>(h1.blk b2).range) ?_;refine eV #[.agg (Us X).toArray,.agg (Us Y).toArray] (EB · (x * y)) rfl rfl rfl bK (λw1 h1=>dA hX hY w1) rfl rfl λr10 v10=>?_;refine gO [(0,.agg (Us X).toArray),(1,.agg (Us Y).toArray),(2,.agg (Us r7).toArray),(3,.agg (Us r10).toArray)] (Us (pc X Y r7 r10)).toArray rfl rfl rfl rfl rfl (E0 hX.len hY.len v7.len v10.len) ?_;refine iC g3 _ ((Us (pc X Y r7 r10)).toArray) rfl rfl rfl rfl rfl b3 (dR (kP hX.len hY.len v7.len v10.len)) ((aT eX).trans (aT (kP hX.len hY.len v7.len v10.len)).symm) (bP _) λw4 hw4 c4=>?_;replace b3:=c4;replace hU:=cM (hU.step hw4) q3 ((Us (pc X Y r7 r10)).toArray);clear hw4 c4;generalize w4.setRow g3 ((Us (pc X Y r7 r10)).toArray) = W4 at *;refine bG ?_;refine hK _ _ ?_;clear hK K;refine gI (eC g3 _ rfl rfl b3 Tryd.underlying77 rfl (dR (kP hX.len hY.len v7.len v10.len)) ⟨_,⟨⟨X,Y,r7,r10,x,y,1,x * y,rfl,hX,hY,v7,v10,Ed.Rep.one gT x y,by grind only⟩,hon⟩,rfl,hU⟩)
theorem GX  (w : World) :
  Calls Tryd.prog 63 #[] w λe w'=>∃ r,EB r dd /\ e = .returned (.agg (Us r).toArray) /\ Below w.heap.size w w':=by
 refine e9 (vs:=[]) 9 Tryd.func63 rfl (by rw [Tryd.ntmps63]; rfl) ?_;refine aM λK hK=>?_;refine eQ ?_;refine cT z5 rfl rfl rfl rfl (by kernel_rfl) λW1 g1 hw1 hg1 b1=>?_
 have q1 : w.heap.size <= g1:=by rw [hg1]; exact aF _
 clear hg1;have hU : Up w _:=hw1;refine bG ?_;refine hK _ _ ?_;clear hK K;refine aM λK hK=>?_;refine sY 5 [nvE 1] (by decide) ⟨⟨rfl,rfl,rfl,rfl,by kernel_rfl⟩,trivial⟩ ?_;refine gO [(0,.int .u8 163),(1,.int .u8 120),(2,.int .u8 89),(3,.int .u8 19),(4,.int .u8 202),(5,.int .u8 77),(6,.int .u8 235),(7,.int .u8 117),(8,.int .u8 171),(9,.int .u8 216),(10,.int .u8 65),(11,.int .u8 65),(12,.int .u8 77),(13,.int .u8 10),(14,.int .u8 112),(15,.int .u8 0),(16,.int .u8 152),(17,.int .u8 232),(18,.int .u8 121),(19,.int .u8 119),(20,.int .u8 121),(21,.int .u8 64),(22,.int .u8 199),(23,.int .u8 140),(24,.int .u8 115),(25,.int .u8 254),(26,.int .u8 111),(27,.int .u8 43),(28,.int .u8 238),(29,.int .u8 108),(30,.int .u8 3),(31,.int .u8 82)] (By Q2).toArray rfl rfl rfl rfl rfl (by kernel_rfl) ?_;refine GZ #[.agg (By Q2).toArray] dd rfl rfl rfl rR (λw1 _=>vG rfl Oi Td w1) rfl rfl λr5 v5=>?_;refine aK (.tuple #[.agg (Us r5).toArray,.bool true]) rfl rfl rfl rfl rfl ?_;refine dQ (.agg (Us r5).toArray) rfl rfl rfl rfl rfl rfl ?_;refine dQ (.bool true) rfl rfl rfl rfl rfl rfl ?_;refine oL [.tmp 6] [(Us r5).toArray] ⟨rfl,trivial⟩ (by decide) ⟨⟨rfl,rfl,rfl⟩,rfl⟩ ⟨⟨rfl,(aT fR).trans (aT v5.len).symm,fS v5.len,bP _⟩,trivial⟩ λf2 W2 hg2 hd2 hw2 hb2=>?_;have b200 : Blk W2 (f2 0) 75 ((Us r5).toArray):=hb2.1;clear hb2;replace b1:=b1.later hw2;replace hU:=hU.step hw2;clear hg2 hd2 hw2;generalize hf200 : f2 0 = g200 at *;simp only [lO,hf200];clear hf200 f2;refine cP (.bool true) rfl rfl rfl rfl rfl ?_;refine bG ?_;refine dT (E':=[(0,.pointer (some ⟨g1,0,none⟩)),(1,.pointer (some ⟨g200,0,none⟩))]) ⟨rfl,rfl,trivial⟩ ?_;refine hK _ _ ?_;clear hK K;refine aM λK hK=>?_;refine k8 1 ?_;refine dL g200 0 v5.len rfl rfl rfl rfl rfl (λ_ h1=>(h1.blk b200).range) ?_;refine iC g1 _ ((Us r5).toArray) rfl rfl rfl rfl rfl b1 (fS v5.len) ((aT fR).trans (aT v5.len).symm) (bP _) λw3 hw3 c3=>?_;replace b1:=c3;replace hU:=cM (hU.step hw3) q1 ((Us r5).toArray);clear hw3 c3;generalize w3.setRow g1 ((Us r5).toArray) = W3 at *;refine bG ?_;refine hK _ _ ?_;clear hK K;refine gI (eC g1 _ rfl rfl b1 Tryd.underlying75 rfl (fS v5.len) ⟨_,v5,rfl,hU⟩)
theorem KC  (w : World) :
  Calls Tryd.prog 49 #[] w λe w'=>∃ r,QB r base /\ e = .returned (.agg (Us r).toArray) /\ Below w.heap.size w w':=by
 refine e9 (vs:=[]) 18 Tryd.func49 rfl (by rw [Tryd.ntmps49]; rfl) ?_;refine aM λK hK=>?_;refine eQ ?_;refine cT ((Us pz).toArray) rfl rfl rfl rfl (by kernel_rfl) λW1 g1 hw1 hg1 b1=>?_
 have q1 : w.heap.size <= g1:=by rw [hg1]; exact aF _
 clear hg1;have hU : Up w _:=hw1;refine bG ?_;refine hK _ _ ?_;clear hK K;refine aM λK hK=>?_;refine sY 5 [nvE 1] (by decide) ⟨⟨rfl,rfl,rfl,rfl,by kernel_rfl⟩,trivial⟩ ?_;refine gO [(0,.int .u8 26),(1,.int .u8 213),(2,.int .u8 37),(3,.int .u8 143),(4,.int .u8 96),(5,.int .u8 45),(6,.int .u8 86),(7,.int .u8 201),(8,.int .u8 178),(9,.int .u8 167),(10,.int .u8 37),(11,.int .u8 149),(12,.int .u8 96),(13,.int .u8 199),(14,.int .u8 44),(15,.int .u8 105),(16,.int .u8 92),(17,.int .u8 220),(18,.int .u8 214),(19,.int .u8 253),(20,.int .u8 49),(21,.int .u8 226),(22,.int .u8 164),(23,.int .u8 192),(24,.int .u8 254),(25,.int .u8 83),(26,.int .u8 110),(27,.int .u8 205),(28,.int .u8 211),(29,.int .u8 54),(30,.int .u8 105),(31,.int .u8 33)] (By bxB).toArray rfl rfl rfl rfl rfl (by kernel_rfl) ?_;refine GZ #[.agg (By bxB).toArray] (fof bx) rfl rfl rfl rR (λw1 _=>vG rfl QX UR w1) rfl rfl λr7 v7=>?_;refine aK (.tuple #[.agg (Us r7).toArray,.bool true]) rfl rfl rfl rfl rfl ?_;refine dQ (.agg (Us r7).toArray) rfl rfl rfl rfl rfl rfl ?_;refine dQ (.bool true) rfl rfl rfl rfl rfl rfl ?_;refine oL [.tmp 8] [(Us r7).toArray] ⟨rfl,trivial⟩ (by decide) ⟨⟨rfl,rfl,rfl⟩,rfl⟩ ⟨⟨rfl,(aT fR).trans (aT v7.len).symm,fS v7.len,bP _⟩,trivial⟩ λf2 W2 hg2 hd2 hw2 hb2=>?_;have b200 : Blk W2 (f2 0) 75 ((Us r7).toArray):=hb2.1;clear hb2;replace b1:=b1.later hw2;replace hU:=hU.step hw2;clear hg2 hd2 hw2;generalize hf200 : f2 0 = g200 at *;simp only [lO,hf200];clear hf200 f2;refine cP (.bool true) rfl rfl rfl rfl rfl ?_;refine bG ?_;refine dT (E':=[(0,.pointer (some ⟨g1,0,none⟩)),(1,.pointer (some ⟨g200,0,none⟩))]) ⟨rfl,rfl,trivial⟩ ?_;refine hK _ _ ?_;clear hK K;refine aM λK hK=>?_;refine sY 5 [nvE 3] (by decide) ⟨⟨rfl,rfl,rfl,rfl,by kernel_rfl⟩,trivial⟩ ?_;refine gO [(0,.int .u8 88),(1,.int .u8 102),(2,.int .u8 102),(3,.int .u8 102),(4,.int .u8 102),(5,.int .u8 102),(6,.int .u8 102),(7,.int .u8 102),(8,.int .u8 102),(9,.int .u8 102),(10,.int .u8 102),(11,.int .u8 102),(12,.int .u8 102),(13,.int .u8 102),(14,.int .u8 102),(15,.int .u8 102),(16,.int .u8 102),(17,.int .u8 102),(18,.int .u8 102),(19,.int .u8 102),(20,.int .u8 102),(21,.int .u8 102),(22,.int .u8 102),(23,.int .u8 102),(24,.int .u8 102),(25,.int .u8 102),(26,.int .u8 102),(27,.int .u8 102),(28,.int .u8 102),(29,.int .u8 102),(30,.int .u8 102),(31,.int .u8 102)] (By byB).toArray rfl rfl rfl rfl rfl (by kernel_rfl) ?_;refine GZ #[.agg (By byB).toArray] (fof bY) rfl rfl rfl rR (λw1 _=>vG rfl QW UQ w1) rfl rfl λr12 v12=>?_;refine aK (.tuple #[.agg (Us r12).toArray,.bool true]) rfl rfl rfl rfl rfl ?_;refine dQ (.agg (Us r12).toArray) rfl rfl rfl rfl rfl rfl ?_;refine dQ (.bool true) rfl rfl rfl rfl rfl rfl ?_
 refine oL [.tmp 13] [(Us r12).toArray] ⟨rfl,trivial⟩ (by decide) ⟨⟨rfl,rfl,rfl⟩,rfl⟩ ⟨⟨rfl,(aT fR).trans (aT v12.len).symm,fS v12.len,bP _⟩,trivial⟩ λf3 W3 hg3 hd3 hw3 hb3=>?_;have b300 : Blk W3 (f3 0) 75 ((Us r12).toArray):=hb3.1;clear hb3;replace b1:=b1.later hw3;replace b200:=b200.later hw3;replace hU:=hU.step hw3;clear hg3 hd3 hw3;generalize hf300 : f3 0 = g300 at *;simp only [lO,hf300];clear hf300 f3;refine cP (.bool true) rfl rfl rfl rfl rfl ?_;refine bG ?_;refine dT (E':=[(0,.pointer (some ⟨g1,0,none⟩)),(1,.pointer (some ⟨g200,0,none⟩)),(3,.pointer (some ⟨g300,0,none⟩))]) ⟨rfl,rfl,rfl,trivial⟩ ?_;refine hK _ _ ?_;clear hK K;refine aM λK hK=>?_;refine k8 3 ?_;refine dL g200 0 v7.len rfl rfl rfl rfl rfl (λ_ h1=>(h1.blk b200).range) ?_;refine dL g300 0 v12.len rfl rfl rfl rfl rfl (λ_ h1=>(h1.blk b300).range) ?_;refine eV #[.agg (Us r7).toArray,.agg (Us r12).toArray] (QB · ⟨fof bx,fof bY⟩) rfl rfl rfl Ev (λw1 h1=>Ry v7 v12 l8 w1) rfl rfl λr17 v17=>?_;refine iC g1 _ ((Us r17).toArray) rfl rfl rfl rfl rfl b1 (dR v17.len) ((aT eX).trans (aT v17.len).symm) (bP _) λw4 hw4 c4=>?_;replace b1:=c4;replace hU:=cM (hU.step hw4) q1 ((Us r17).toArray);clear hw4 c4;generalize w4.setRow g1 ((Us r17).toArray) = W4 at *;refine bG ?_;refine hK _ _ ?_;clear hK K;refine gI (eC g1 _ rfl rfl b1 Tryd.underlying77 rfl (dR v17.len) ⟨_,v17,rfl,hU⟩)
end Go.Proofs.YtfkchihlchlfdaaDoor
