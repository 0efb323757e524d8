import Derived.Test.YtlhlkofpjhpaoaaGreatDoorMn
import Derived.Test.YtlhlkofpjhpaoaaGreatDoorMj
import Derived.Test.YtlhlkofpjhpaoaaGreatDoorMh
import Derived.Test.YtlhlkofpjhpaoaaGreatDoorMd
import Derived.Maps.OwnSet
import Derived.DeepKeys4
import Derived.Carry
import Derived.Test.YtlhlkofpjhpaoaaGreatDoorMm
set_option maxRecDepth 100000
set_option maxHeartbeats 4000000
open Array renaming getElem?_eq_some_iff->a7,toList_append->dI
open Bool renaming and_eq_true->aN
open Go.Instr renaming typeAssert->lP
open Go.Result renaming andThen_ok->aD
open Go.Sem renaming run_bind->aG,run_pure->aH
open Go.Value renaming iface->pK
open Go.World renaming size_alloc->c8,alloc_heap_new->tM
open Iff renaming rfl->jO
open List renaming length_append->aB,mem_singleton->aE,mem_cons_of_mem->aJ,getElem?_eq_getElem->aK,mem_cons->aL,mem_cons_self->aP,mem_of_getElem?->aR,length_take->aU,append_assoc->a6,getElem?_eq_some_iff->bA,length_singleton->bB,take_of_length_le->bG,mem_map->bP,append_nil->bT,getElem?_append_right->cG,take_append_drop->cW,getElem?_append_left->fV,nil_append->gJ,drop_of_length_le->gW,take_append_of_le_length->jJ,drop_append_of_le_length->jM,not_mem_nil->lM,cons_append->mS,getElem_append_right->rO,getElem_append_left->sD
open Nat renaming le_refl->aF,blt->aQ,add_assoc->bZ,lt_of_lt_of_le->b9,lt_succ_self->qC,le_add_right->qD
open Option.some renaming inj->cR
namespace Go.Proofs.YtlhlkofpjhpaoaaGreatDoor
open Go.RowKit Go.IntWalk Nums
theorem own_tRoot:Own 33:=λ_ _=>by go_simp
def trPs(t:TA)(d:Nat):List Pt:=[.one (.v t.val),.one (.v (.int .u8 (d:Int)))]
def eTr(t:TA)(d:Nat):SQ:=.p (trPs t d)
theorem val_cells1(t:TA):t.val.cells = #[t.val]:=by cases t<;>rfl
theorem trPs_ok(t:TA)(d:Nat):OkP (trPs t d):=λp hp=>by
 rcases aL.1 hp with rfl|hp
 ·exact⟨trivial,val_one t,val_cells1 t⟩
 ·rw [aE.1 hp]
  exact⟨trivial,rfl,rfl⟩
theorem tRoot_S(t:TA)(d:Nat):Spec 33 [(eTr t d).den] [] (TF t) (one (.q (eY 32 t.root))):=by
 refine zQ [eTr t d] 6 Tryz.func33 rfl (by rw [Tryz.ntmps33];rfl) (one_ok (trPs_ok t d)) λb=>?_;refine zA rfl (zC rfl λK hK=>?_);refine l_call0 [t.val] rfl rfl rfl (λ_ _=>by go_simp) rfl rfl (λ_ _=>rfl) (thash_S t) (λ_ h _=>h) λ_=>?_;refine zB rfl (zJ (hK _ ?_));exact zP (zR zY () rfl (by decide) rfl rfl rfl (λ_ _ _=>trivial) zU)
theorem tLen_S(t:TA)(d:Nat):Spec 25 [(eTr t d).den] [] (TF t) (one (.v (.int .i64 (t.len:Int)))):=by
 refine zQ [eTr t d] 6 Tryz.func25 rfl (by rw [Tryz.ntmps25];rfl) (one_ok (trPs_ok t d)) λb=>?_;refine zA rfl (zC rfl λK hK=>?_);refine l_call0 [t.val] rfl rfl rfl (λ_ _=>by go_simp) rfl rfl (λ_ _=>rfl) (tsize_S t) (λ_ h _=>h) λ_=>?_;refine zB rfl (zJ (hK _ ?_));exact zP (zR zY () rfl (by decide) rfl rfl rfl (λ_ _ _=>trivial) zU)
def retL:TA->RV
  | .leaf _ _ p=>.t [eY 32 p.1,eY 32 p.2,.c (.v (.bool true))]
  | _=>.t [eY 32 dJ,eY 32 dJ,.c (.v (.bool false))]
def retSd(d:Nat):TA->RV
  | .node _ a b=>.t [eTr a d,eTr b d,.c (.v (.bool true))]
  | _=>.t [eTr .nil 0,eTr .nil 0,.c (.v (.bool false))]
theorem tLeaf_S(t:TA)(d:Nat):Spec 76 [(eTr t d).den] [] (TF t) { ret:=λ_:Unit=>retL t,own:=λ_=>[] }:=by
 refine zQ [eTr t d] 34 Tryz.func76 rfl (by rw [Tryz.ntmps76];rfl) (one_ok (trPs_ok t d)) λb=>?_;refine zA rfl (zM λK hK=>?_)
 cases t with
 | nil =>
  refine zA rfl ?_;refine s_yes rfl ?_;refine zA rfl ?_;exact zP (zR zY () rfl (by decide) rfl rfl rfl (λ_ _ _=>trivial) zU)
 | leaf g h p =>
  refine zC rfl λK2 hK2=>?_;refine l_ldO zY rfl rfl rfl rfl rfl rfl (obj_fact λ_ h _=>h.1) ?_;refine zB rfl (zJ (hK2 _ ?_));refine s_no rfl ?_;refine zO (hK _ ?_);refine s_pure (OkP (lfPs h p)/\OkP (prPs p)) (λw hw _=>⟨hw.1.2,hw.2.2⟩) λ⟨ho1,ho2⟩=>?_;refine s_locs λG=>?_
  have hsub:∀x∈[(⟨1,some (G 1),31,trPs (.leaf g h p) d⟩:LV)],x∈withG G [⟨3,none,45,[.agg 32 (By dJ).toArray]⟩,⟨2,none,45,[.agg 32 (By dJ).toArray]⟩,⟨1,none,31,trPs (.leaf g h p) d⟩]/\x.g.isSome=true:=λx hx=>by
   rw [aE.1 hx];exact⟨aJ _ (aJ _ aP),rfl⟩
  refine zM λK3 hK3=>?_;refine s_anyP [0,1,2,3,4,5,6,7,8,9,10,11,12,13,14,15] 17 2 (λw=>InvL [⟨1,some (G 1),31,trPs (.leaf g h p) d⟩] w/\TF (.leaf g h p) w) (by kernel_rfl) rfl (inv_two hsub λ_ h _=>h) ?_;refine p_frontS zY 0 (by kernel_rfl) rfl rfl rfl rfl rfl rfl (λx hx=>(hsub x hx).1) (λ_ h=>h.1) ?_;refine p_frontS zY 1 (by kernel_rfl) rfl rfl rfl rfl rfl rfl (λx hx=>(hsub x hx).1) (λ_ h=>h.1) ?_;refine p_frontS zY 2 (by kernel_rfl) rfl rfl rfl rfl rfl rfl (λx hx=>(hsub x hx).1) (λ_ h=>h.1) ?_;refine p_frontS zY 3 (by kernel_rfl) rfl rfl rfl rfl rfl rfl (λx hx=>(hsub x hx).1) (λ_ h=>h.1) ?_;refine p_ldO zY 4 (by kernel_rfl) rfl rfl rfl rfl rfl rfl rfl ho1 (λ_ h=>h.2.1) ?_;refine p_frontS zY 5 (by kernel_rfl) rfl rfl rfl rfl rfl rfl (λx hx=>(hsub x hx).1) (λ_ h=>h.1) ?_;refine p_frontS zY 6 (by kernel_rfl) rfl rfl rfl rfl rfl rfl (λx hx=>(hsub x hx).1) (λ_ h=>h.1) ?_;refine p_ldO zY 7 (by kernel_rfl) rfl rfl rfl rfl rfl rfl rfl ho2 (λ_ h=>h.2.2) ?_;refine p_frontS zY 8 (by kernel_rfl) rfl rfl rfl rfl rfl rfl (λx hx=>(hsub x hx).1) (λ_ h=>h.1) ?_;refine p_frontS zY 9 (by kernel_rfl) rfl rfl rfl rfl rfl rfl (λx hx=>(hsub x hx).1) (λ_ h=>h.1) ?_;refine p_frontS zY 10 (by kernel_rfl) rfl rfl rfl rfl rfl rfl (λx hx=>(hsub x hx).1) (λ_ h=>h.1) ?_;refine p_frontS zY 11 (by kernel_rfl) rfl rfl rfl rfl rfl rfl (λx hx=>(hsub x hx).1) (λ_ h=>h.1) ?_;refine p_ldO zY 12 (by kernel_rfl) rfl rfl rfl rfl rfl rfl rfl ho1 (λ_ h=>h.2.1) ?_;refine p_frontS zY 13 (by kernel_rfl) rfl rfl rfl rfl rfl rfl (λx hx=>(hsub x hx).1) (λ_ h=>h.1) ?_;refine p_frontS zY 14 (by kernel_rfl) rfl rfl rfl rfl rfl rfl (λx hx=>(hsub x hx).1) (λ_ h=>h.1) ?_;refine p_ldO zY 15 (by kernel_rfl) rfl rfl rfl rfl rfl rfl rfl ho2 (λ_ h=>h.2.2) ?_;refine p_step 16 (by kernel_rfl) rfl λK4 hK4=>?_;refine zB rfl ?_
  refine zJ (hK4 _ (inv_two (λx hx=>by
   rw [aE.1 hx]
   exact⟨aJ _ (aJ _ aP),rfl⟩) λ_ h _=>h) ?_)
  refine p_tail [17,18] (by kernel_rfl) rfl ?_;refine zB rfl (zJ (hK3 _ ?_));exact zP (zR zY () rfl (by decide) rfl rfl rfl (λ_ _ _=>trivial) zU)
 | node g x y =>
  refine zC rfl λK2 hK2=>?_;refine l_ldO zY rfl rfl rfl rfl rfl rfl (obj_fact λ_ h _=>h.1) ?_;refine zB rfl (zJ (hK2 _ ?_));refine s_yes rfl ?_;refine zA rfl ?_;exact zP (zR zY () rfl (by decide) rfl rfl rfl (λ_ _ _=>trivial) zU)
theorem tSides_S(t:TA)(d d':Nat)(hd:IntKind.u8.wrap ((d:Int)+1)=(d':Int)):Spec 77 [(eTr t d).den] [] (TF t) { ret:=λ_:Unit=>retSd d' t,own:=λ_=>[] }:=by
 refine zQ [eTr t d] 36 Tryz.func77 rfl (by rw [Tryz.ntmps77];rfl) (one_ok (trPs_ok t d)) λb=>?_;refine zA rfl (zM λK hK=>?_)
 cases t with
 | nil =>
  refine zA rfl ?_;refine s_yes rfl ?_;refine zA rfl ?_;exact zP (zR zY () rfl (by decide) rfl rfl rfl (λ_ _ _=>trivial) zU)
 | leaf g h p =>
  refine zC rfl λK2 hK2=>?_;refine l_ldO zY rfl rfl rfl rfl rfl rfl (obj_fact λ_ h _=>h.1) ?_;refine zB rfl (zJ (hK2 _ ?_));refine s_yes rfl ?_;refine zA rfl ?_;exact zP (zR zY () rfl (by decide) rfl rfl rfl (λ_ _ _=>trivial) zU)
 | node g x y =>
  refine zC rfl λK2 hK2=>?_;refine l_ldO zY rfl rfl rfl rfl rfl rfl (obj_fact λ_ h _=>h.1) ?_;refine zB rfl (zJ (hK2 _ ?_));refine s_no rfl ?_;refine zO (hK _ (zC rfl λK4 hK4=>?_));refine l_ldO zY rfl rfl rfl rfl rfl rfl (obj_fact λ_ h _=>h.1) ?_;refine zB rfl (zJ (hK4 _ ?_));refine s_locs λG=>?_
  have hsub:∀u∈([⟨5,some (G 5),137,sdPs x y⟩,⟨1,some (G 1),31,trPs (.node g x y) d⟩]:List LV),u∈withG G [⟨5,none,137,sdPs x y⟩,⟨3,none,31,trPs .nil 0⟩,⟨2,none,31,trPs .nil 0⟩,⟨1,none,31,trPs (.node g x y) d⟩]/\u.g.isSome=true:=λu hu=>by
   rcases aL.1 hu with rfl|hu
   ·exact⟨aP,rfl⟩
   ·rw [aE.1 hu]
    exact⟨aJ _ (aJ _ (aJ _ aP)),rfl⟩
  refine zM λK3 hK3=>?_;refine s_anyP [0,1,2,3,4,5,6,7,8,9,10,11] 13 2 (InvL [⟨5,some (G 5),137,sdPs x y⟩,⟨1,some (G 1),31,trPs (.node g x y) d⟩]) (by kernel_rfl) rfl (inv_of hsub) ?_;refine p_frontO (.a 5 (0+1*0)) trivial 0 (by kernel_rfl) rfl rfl rfl rfl rfl (runO_ixA 0 rfl Tryz.underlying137 rfl rfl rfl (by decide)) ?_;refine p_frontA (.v x.val) trivial 1 (by kernel_rfl) rfl rfl rfl rfl rfl (λx hx=>(hsub x hx).1) (λ_ h=>h) (runO_ldL _ rfl rfl rfl rfl Tryz.underlying29 rfl) ?_;refine p_frontS zY 2 (by kernel_rfl) rfl rfl rfl rfl rfl rfl (λx hx=>(hsub x hx).1) (λ_ h=>h) ?_;refine p_frontS zY 3 (by kernel_rfl) rfl rfl rfl rfl rfl rfl (λx hx=>(hsub x hx).1) (λ_ h=>h) ?_;refine p_frontS zY 4 (by kernel_rfl) rfl rfl rfl rfl rfl rfl (λx hx=>(hsub x hx).1) (λ_ h=>h) ?_;refine p_frontS zY 5 (by kernel_rfl) rfl rfl rfl rfl rfl rfl (λx hx=>(hsub x hx).1) (λ_ h=>h) ?_;refine p_frontO (.a 5 (0+1*1)) trivial 6 (by kernel_rfl) rfl rfl rfl rfl rfl (runO_ixA 1 rfl Tryz.underlying137 rfl rfl rfl (by decide)) ?_;refine p_frontA (.v y.val) trivial 7 (by kernel_rfl) rfl rfl rfl rfl rfl (λx hx=>(hsub x hx).1) (λ_ h=>h) (runO_ldL _ rfl rfl rfl rfl Tryz.underlying29 rfl) ?_;refine p_frontS zY 8 (by kernel_rfl) rfl rfl rfl rfl rfl rfl (λx hx=>(hsub x hx).1) (λ_ h=>h) ?_;refine p_frontS zY 9 (by kernel_rfl) rfl rfl rfl rfl rfl rfl (λx hx=>(hsub x hx).1) (λ_ h=>h) ?_;refine p_frontS zY 10 (by kernel_rfl) rfl rfl rfl rfl rfl rfl (λx hx=>(hsub x hx).1) (λ_ h=>h) ?_;refine p_frontS zY 11 (by kernel_rfl) rfl rfl rfl rfl rfl rfl (λx hx=>(hsub x hx).1) (λ_ h=>h) ?_;refine p_step 12 (by kernel_rfl) rfl λK5 hK5=>?_;refine zB rfl ?_
  refine zJ (hK5 _ (inv_of λu hu=>by
   rcases aL.1 hu with rfl|hu
   ·exact⟨aP,rfl⟩
   ·rw [aE.1 hu]
    exact⟨aJ _ (aJ _ (aJ _ aP)),rfl⟩) ?_)
  refine p_tail [13,14] (by kernel_rfl) rfl ?_;refine zB rfl (zJ (hK3 _ ?_));exact zP (zR zY () rfl (by decide) rfl (congrArg (λz:Int=>RV.t [.p [.one (.v x.val),.one (.v (.int .u8 z))],.p [.one (.v y.val),.one (.v (.int .u8 z))],.c (.v (.bool true))]) hd.symm) rfl (λ_ _ _=>trivial) zU)
theorem tPut_S(r:Nat)(l:List PairT)(t:TA)(p:PairT)(hp:OkT2 p)(hr:r<=256)(ht:TOk r l t)(hs:cV l)(hk:gL l)(hsh:dO (256-r) (p::l))(hl:l.length+1<=1000000) :
  Spec 52 [(eTr t ((256-r)%256)).den,(eY 32 p.1).den,(eY 32 p.2).den] [] (λw=>TF t w/\Tsh w) { ret:=λx:{ t':TA // TOk r (dT l p) t' }=>.q (eTr x.1 ((256-r)%256)),own:=λ_=>[],p:=λx=>TF x.1 }:=by
 have hput:=λh=>tput_S r l t h p hr ht hs hk hsh hl;obtain⟨D,hD⟩:∃D,(256-r)%256=D:=⟨_,rfl⟩;rw [hD] at hput ⊢;refine zQ [eTr t D,eY 32 p.1,eY 32 p.2] 19 Tryz.func52 rfl (by rw [Tryz.ntmps52];rfl) (more_ok (trPs_ok t _) (two_ok (eY_ok hp.1).1 (eY_ok hp.2).1)) λb=>?_;refine zA rfl ?_;refine s_locs λG=>?_
 have hsub:∀u∈([⟨5,some (G 5),45,[.agg 32 (By p.2).toArray]⟩,⟨4,some (G 4),45,[.agg 32 (By p.1).toArray]⟩,⟨3,some (G 3),31,trPs t D⟩]:List LV),u∈withG G [⟨6,none,31,trPs .nil 0⟩,⟨5,none,45,[.agg 32 (By p.2).toArray]⟩,⟨4,none,45,[.agg 32 (By p.1).toArray]⟩,⟨3,none,31,trPs t D⟩]/\u.g.isSome=true:=λu hu=>by
  rcases aL.1 hu with rfl|hu
  ·exact⟨aJ _ aP,rfl⟩
  rcases aL.1 hu with rfl|hu
  ·exact⟨aJ _ (aJ _ aP),rfl⟩
  rw [aE.1 hu];exact⟨aJ _ (aJ _ (aJ _ aP)),rfl⟩
 refine zM λK3 hK3=>?_;refine s_anyP [0,1,2,3,4,6,7,9,10] 11 2 (InvL [⟨5,some (G 5),45,[.agg 32 (By p.2).toArray]⟩,⟨4,some (G 4),45,[.agg 32 (By p.1).toArray]⟩,⟨3,some (G 3),31,trPs t D⟩]) (by kernel_rfl) rfl (inv_of hsub) ?_;refine p_frontS zY 0 (by kernel_rfl) rfl rfl rfl rfl rfl rfl (λx hx=>(hsub x hx).1) (λ_ h=>h) ?_;refine p_frontS zY 1 (by kernel_rfl) rfl rfl rfl rfl rfl rfl (λx hx=>(hsub x hx).1) (λ_ h=>h) ?_;refine p_frontS zY 2 (by kernel_rfl) rfl rfl rfl rfl rfl rfl (λx hx=>(hsub x hx).1) (λ_ h=>h) ?_;refine p_frontS zY 3 (by kernel_rfl) rfl rfl rfl rfl rfl rfl (λx hx=>(hsub x hx).1) (λ_ h=>h) ?_;refine p_frontS zY 4 (by kernel_rfl) rfl rfl rfl rfl rfl rfl (λx hx=>(hsub x hx).1) (λ_ h=>h) ?_;refine p_frontS zY 6 (by kernel_rfl) rfl rfl rfl rfl rfl rfl (λx hx=>(hsub x hx).1) (λ_ h=>h) ?_;refine p_frontS zY 7 (by kernel_rfl) rfl rfl rfl rfl rfl rfl (λx hx=>(hsub x hx).1) (λ_ h=>h) ?_;refine p_frontS zY 9 (by kernel_rfl) rfl rfl rfl rfl rfl rfl (λx hx=>(hsub x hx).1) (λ_ h=>h) ?_;refine p_frontS zY 10 (by kernel_rfl) rfl rfl rfl rfl rfl rfl (λx hx=>(hsub x hx).1) (λ_ h=>h) ?_;refine p_step 5 (by kernel_rfl) rfl λK5 hK5=>?_;refine zB rfl ?_;refine l_give 12 (E':=[(8,.v t.val),(14,.v (.int .u8 (D:Int))),(17,.v (.int .u8 (D:Int))),(6,.a 6 0)]) rfl ⟨rfl,rfl,rfl,rfl,trivial⟩ λh=>?_;refine l_objOut 0 rfl ?_;refine zJ (hK5 _ (inv_of hsub) ?_);refine p_step 8 (by kernel_rfl) rfl λK6 hK6=>?_;refine l_call0 [t.val,.pointer (some ⟨h,0,none⟩),.int .u8 (D:Int)] rfl rfl rfl own_tput rfl rfl (λ_ _=>rfl) (hput h) (λ_ h _=>⟨h.2.1,h.1,h.2.2⟩) λx=>?_;refine zJ (hK6 _ (inv_of hsub) ?_);refine p_tail [11,12] (by kernel_rfl) rfl ?_;refine zB rfl (zJ (hK3 _ ?_));exact zP (zR zY x rfl (by decide) rfl rfl rfl (λ_ h _=>h.1) zU)
theorem own_tAll11:Own 67:=λ_ _=>by go_simp
theorem TOk.all_eq:∀{r:Nat} {l:List PairT} {t:TA},TOk r l t->cV l->gL l->dO (256-r) l->r<=256->t.all=l
 | _,_,.nil,h,_,_,_,_=>h.nil_inv.symm
 | _,_,.leaf _ _ _,h,_,_,_,_=>h.leaf_inv.symm
 | 0,_,.node _ _ _,h,_,_,_,_=>h.elim
 | r+1,l,.node _ a b,h,hs,hk,hsh,hr=>by
  obtain⟨_,h2,h3⟩:=h
  have e:256-(r+1)=255-r:=by omega
  rw [e] at hsh
  have e2:255-r+1=256-r:=by omega
  have hl:=hsh.left;have hr':=hsh.right;rw [e2] at hl hr'
  show a.all++b.all=l
  rw [h2.all_eq (hs.filter _) (hk.filter _) hl (by omega),h3.all_eq (hs.filter _) (hk.filter _) hr' (by omega)];exact s7 (by omega) hs hk hsh
theorem twalk_S{f:FuncId}(hf:Own f)(caps:List Value)(Fc:World->Prop)(JR:Nat->Res)(JX:Res):∀(t:TA) (i:Nat),
  (∀(j:Nat) (p:PairT) (h:Nat),t.all[j]?=some p->Spec f (.pointer (some ⟨h,0,none⟩)::caps) [JR (i+j)] (λw=>ObjF h 135 (prPs p) w/\Fc w) (bpost (JR (i+j+1)) JX)) ->
  Spec 91 [t.val,.func (.func f) #[] caps.toArray] [JR i] (λw=>TF t w/\Fc w) (bpost (JR (i+t.all.length)) JX):=by
 intro t
 induction t with
 | nil =>
  intro i _
  refine zQ [.c (.v TA.nil.val),.c (.v (.func (.func f) #[] caps.toArray))] 34 Tryz.func91 rfl (by rw [Tryz.ntmps91];rfl) (two_ok trivial trivial) λb=>?_;refine zA rfl (zM λK hK=>?_);refine zA rfl ?_;refine s_yes rfl ?_;refine zA rfl ?_;exact zP (zR zY true rfl (by decide) rfl rfl rfl (λ_ _ _=>trivial) zU)
 | leaf g h p =>
  intro i ht
  have htell:=ht 0 p h rfl;refine zQ [.c (.v (TA.leaf g h p).val),.c (.v (.func (.func f) #[] caps.toArray))] 34 Tryz.func91 rfl (by rw [Tryz.ntmps91];rfl) (two_ok trivial trivial) λb=>?_;refine zA rfl (zM λK hK=>?_);refine zA rfl ?_;refine s_no rfl ?_;refine zO (hK _ (zM λK2 hK2=>?_));refine zC rfl λK3 hK3=>?_;refine l_ldO zY rfl rfl rfl rfl rfl rfl (obj_fact λ_ h _=>h.1.1) ?_;refine zB rfl (zJ (hK3 _ ?_));refine s_yes rfl ?_;refine zC rfl λK4 hK4=>?_;refine l_ldO zY rfl rfl rfl rfl rfl rfl (obj_fact λ_ h _=>h.1.1) ?_;refine l_callV (own:=[JR (i+0)]) (R':=[]) (.pointer (some ⟨h,0,none⟩)::caps) rfl rfl rfl hf rfl rfl rfl (λ_ _=>rfl) htell (λ_ h _=>⟨h.1.2,h.2⟩) λt=>?_;refine zB rfl (zJ (hK4 _ ?_));exact zP (zR zY t rfl (by decide) rfl rfl rfl (λ_ _ _=>trivial) zU)
 | node g x y ihx ihy =>
  intro i ht
  have hx:=ihx i λj p h hj=>ht j p h (by
   show(x.all++y.all)[j]?=_
   rw [fV (bA.1 hj).1]
   exact hj)
  have hy:=ihy (i+x.all.length) λj p h hj=>by
   have:=ht (x.all.length+j) p h (by
    show(x.all++y.all)[_]?=_
    rw [cG (by omega),Nat.add_sub_cancel_left]
    exact hj)
   rwa [<-bZ] at this
  have hlen:(TA.node g x y).all.length=x.all.length+y.all.length:=aB;rw [hlen];clear ihx ihy ht hlen;refine zQ [.c (.v (TA.node g x y).val),.c (.v (.func (.func f) #[] caps.toArray))] 34 Tryz.func91 rfl (by rw [Tryz.ntmps91];rfl) (two_ok trivial trivial) λb=>?_;refine zA rfl (zM λK hK=>?_);refine zA rfl ?_;refine s_no rfl ?_;refine zO (hK _ (zM λK2 hK2=>?_));refine zC rfl λK3 hK3=>?_;refine l_ldO zY rfl rfl rfl rfl rfl rfl (obj_fact λ_ h _=>h.1.1) ?_;refine zB rfl (zJ (hK3 _ ?_));refine s_no rfl ?_;refine zO (hK2 _ (zC rfl λK4 hK4=>?_));refine l_op (.v (.pointer (some ⟨g,34+1*0,none⟩))) trivial rfl rfl rfl (runO_ixP 0 rfl Tryz.underlying137 rfl rfl rfl (by decide)) ?_;refine l_opV (.v x.val) trivial rfl rfl rfl (runO_ldB x.val rfl rfl (nd_at x y).1 Tryz.underlying29 rfl (obj_fact λ_ h _=>h.1.1)) ?_;refine zB rfl ?_;refine l_callA (own:=[JR i]) (R':=[]) [x.val,.func (.func f) #[] caps.toArray] rfl rfl rfl (λ_ _=>by go_simp) rfl rfl (λ_ _=>rfl) hx (λ_ h _=>⟨h.1.2.1,h.2⟩) λt=>?_
  cases t with
  | false =>
   refine zB rfl (zJ (hK4 _ ?_));exact zP (zR zY false rfl (by decide) rfl rfl rfl (λ_ _ _=>trivial) zU)
  | true =>
   refine zB rfl ?_;refine l_op (.v (.pointer (some ⟨g,34+1*1,none⟩))) trivial rfl rfl rfl (runO_ixP 1 rfl Tryz.underlying137 rfl rfl rfl (by decide)) ?_;refine zB rfl ?_;refine l_opV (.v y.val) trivial rfl rfl rfl (runO_ldB y.val rfl rfl (nd_at x y).2 Tryz.underlying29 rfl (obj_fact λ_ h _=>h.2.1.1)) ?_;refine zB rfl ?_;refine l_callA (own:=[JR (i+x.all.length)]) (R':=[]) [y.val,.func (.func f) #[] caps.toArray] rfl rfl rfl (λ_ _=>by go_simp) rfl rfl (λ_ _=>rfl) hy (λ_ h _=>⟨h.2.1.2.2,h.2.2⟩) λt=>?_;refine zB rfl (zJ (hK4 _ ?_));refine zP ?_;rw [<-bZ];exact zR zY t rfl (by decide) rfl rfl rfl (λ_ _ _=>trivial) zU
def telA(p:PairT):List Value:=[(eY 32 p.1).den,(eY 32 p.2).den]
def ylPs(l:Nat):List Pt:=[.one (.v (.func (.yield l) #[] #[]))]
theorem ttell_S{l g h:Nat}{p:PairT}{r r1 r0:Res}{Fy:World->Prop}(hy:YSpec l (telA p) Fy r r1 r0):Spec 67 [.pointer (some ⟨h,0,none⟩),.pointer (some ⟨g,0,none⟩)] [r] (λw=>ObjF h 135 (prPs p) w/\ObjF g 116 (ylPs l) w/\Fy w) (bpost r1 r0):=by
 refine zQ [.c (.v (.pointer (some ⟨h,0,none⟩))),.c (.v (.pointer (some ⟨g,0,none⟩)))] 14 Tryz.func67 rfl (by rw [Tryz.ntmps67];rfl) (two_ok trivial trivial) λb=>?_;refine s_pure (OkT2 p/\OkP (prPs p)) (λw hw _=>⟨prPs_ok hw.1.2,hw.1.2⟩) λ⟨hp,hop⟩=>?_;refine s_of_r ?_;refine r_auto rfl zY rfl ?_;refine r_seq λK hK=>?_;refine r_anyP [0,1,2,3,4,5,6,7,8] 9 2 (λw=>InvL [] w/\ObjF h 135 (prPs p) w/\ObjF g 116 (ylPs l) w) (by kernel_rfl) rfl rfl (inv_two (λ_ h=>by cases h) λ_ h _=>⟨h.1,h.2.1⟩) ?_;refine p_frontI (.v (.func (.yield l) #[] #[])) trivial 0 (by kernel_rfl) rfl rfl rfl rfl rfl (λG a w ha hw=>runO_ldB (L:=[]) (R:=[]) (F:=λw=>ObjF g 116 (ylPs l) w) (M:=λ_=>True) _ rfl rfl rfl Tryz.underlying116 rfl (obj_fact λ_ h _=>h) G (λ_=>False) a w ha ⟨λ_ h=>(by cases h),λ_ h=>h,hw.2.2,trivial⟩) ?_;refine p_frontS zY 1 (by kernel_rfl) rfl rfl rfl rfl rfl rfl (λ_ h=>by cases h) (λ_ h=>h.1) ?_;refine p_frontS zY 2 (by kernel_rfl) rfl rfl rfl rfl rfl rfl (λ_ h=>by cases h) (λ_ h=>h.1) ?_;refine p_frontS zY 3 (by kernel_rfl) rfl rfl rfl rfl rfl rfl (λ_ h=>by cases h) (λ_ h=>h.1) ?_;refine p_ldO zY 4 (by kernel_rfl) rfl rfl rfl rfl rfl rfl rfl hop (λ_ h=>h.2.1) ?_;refine p_frontS zY 5 (by kernel_rfl) rfl rfl rfl rfl rfl rfl (λ_ h=>by cases h) (λ_ h=>h.1) ?_;refine p_frontS zY 6 (by kernel_rfl) rfl rfl rfl rfl rfl rfl (λ_ h=>by cases h) (λ_ h=>h.1) ?_;refine p_frontS zY 7 (by kernel_rfl) rfl rfl rfl rfl rfl rfl (λ_ h=>by cases h) (λ_ h=>h.1) ?_;refine p_ldO zY 8 (by kernel_rfl) rfl rfl rfl rfl rfl rfl rfl hop (λ_ h=>h.2.1) ?_;refine p_tailR [9,10] (by kernel_rfl) rfl ?_;refine t_yield (telA p) rfl rfl rfl rfl rfl rfl (λ_=>rfl) hy (λ_ h _=>h.2.2) λt=>?_;refine t_list rfl ?_;refine zB rfl (zJ (hK _ ?_));exact r_ret (zR zY t rfl (by decide) rfl rfl rfl (λ_ _ _=>trivial) zU)
def epost(r1 r0:Res):Post Bool:={ ret:=λ_=>.t [],own:=λt=>[bif t then r1 else r0] }
theorem teach_S{f:FuncId}(hf:Own f)(caps:List Value)(Fc:World->Prop)(JR:Nat->Res)(JX:Res)(t:TA)
 (ht:∀(j:Nat) (p:PairT) (h:Nat),t.all[j]?=some p->Spec f (.pointer (some ⟨h,0,none⟩)::caps) [JR j] (λw=>ObjF h 135 (prPs p) w/\Fc w) (bpost (JR (j+1)) JX)) :
  Spec 66 [(eTr t 0).den,.func (.func f) #[] caps.toArray] [JR 0] (λw=>TF t w/\Fc w) (epost (JR t.all.length) JX):=by
 have hw:=twalk_S hf caps Fc JR JX t 0 (by simpa using ht);rw [Nat.zero_add] at hw;refine zQ [eTr t 0,.c (.v (.func (.func f) #[] caps.toArray))] 34 Tryz.func66 rfl (by rw [Tryz.ntmps66];rfl) (two_ok (trPs_ok t 0) trivial) λb=>?_;refine zA rfl (zM λK hK=>?_);refine zA rfl ?_;refine zW (((0:Nat):Int)=0) rfl (λ_=>?_) (λh=>absurd rfl h);refine zC rfl λK2 hK2=>?_;refine l_callA (own:=[JR 0]) (R':=[]) [t.val,.func (.func f) #[] caps.toArray] rfl rfl rfl (λ_ _=>by go_simp) rfl rfl (λ_ _=>rfl) hw (λ_ h _=>h) λx=>?_;exact zJ (hK2 _ (zP (zR zY x rfl (by decide) rfl rfl rfl (λ_ _ _=>trivial) zU)))
theorem tAll1_S(l gb:Nat)(Fy:World->Prop)(JR:Nat->Res)(JX:Res)(t:TA)(hy:∀(j:Nat) (p:PairT),t.all[j]?=some p->YSpec l (telA p) Fy (JR j) (JR (j+1)) JX) :
  Spec 65 [.func (.yield l) #[] #[],.pointer (some ⟨gb,0,none⟩)] [JR 0] (λw=>(ObjF gb 31 (trPs t 0) w/\TF t w)/\Fy w) (epost (JR t.all.length) JX):=by
 refine zQ [.c (.v (.func (.yield l) #[] #[])),.c (.v (.pointer (some ⟨gb,0,none⟩)))] 6 Tryz.func65 rfl (by rw [Tryz.ntmps65];rfl) (two_ok trivial trivial) λb=>?_;refine zC rfl λK hK=>?_;refine l_give 2 (E':=[(1,.v (.pointer (some ⟨gb,0,none⟩)))]) rfl ⟨rfl,trivial⟩ λg2=>?_;refine l_objOut 0 rfl ?_;refine zJ (hK _ (s_lit ?_));refine l_ldO zY rfl rfl rfl rfl rfl rfl (obj_fact λ_ h _=>h.2.1.1) ?_;refine l_op (.v (.func (.func 67) #[] #[.pointer (some ⟨g2,0,none⟩)])) trivial rfl rfl rfl (run_makeF rfl rfl (λ_=>rfl)) ?_;refine l_callA (own:=[JR 0]) (R':=[]) [(eTr t 0).den,.func (.func 67) #[] #[.pointer (some ⟨g2,0,none⟩)]] rfl rfl rfl (λ_ _=>by go_simp) rfl rfl (λ_ _=>rfl) (teach_S own_tAll11 [.pointer (some ⟨g2,0,none⟩)] (λw=>ObjF g2 116 (ylPs l) w/\Fy w) JR JX t λj p h hj=>ttell_S (hy j p hj)) (λ_ h _=>⟨h.2.1.2,h.1,h.2.2⟩) λx=>?_;refine zJ ?_;exact zR zY x rfl (by decide) rfl rfl rfl (λ_ _ _=>trivial) zU
theorem tAll_S(t:TA)(d:Nat):Spec 44 [(eTr t d).den] [] (λ_=>True) { ret:=λg:Nat=>.v (.func (.func 65) #[] #[.pointer (some ⟨g,0,none⟩)]),own:=λ_=>[],p:=λg=>ObjF g 31 (trPs t d) }:=by
 refine zQ [eTr t d] 4 Tryz.func44 rfl (by rw [Tryz.ntmps44];rfl) (one_ok (trPs_ok t d)) λb=>?_;refine zC rfl λK hK=>?_;refine l_give 1 (E':=[]) rfl trivial λg=>?_;refine l_objOut 0 rfl ?_;refine zJ (hK _ (zC rfl λK2 hK2=>?_));refine l_op (.v (.func (.func 65) #[] #[.pointer (some ⟨g,0,none⟩)])) trivial rfl rfl rfl (run_makeF rfl rfl (λ_=>rfl)) ?_;refine zB rfl (zJ (hK2 _ ?_));exact zP (zR zY g rfl (by decide) rfl rfl rfl (λ_ h _=>h.1) zU)
end Go.Proofs.YtlhlkofpjhpaoaaGreatDoor
namespace Go.Proofs.YtlhlkofpjhpaoaaGreatDoor
open Go.RowKit Go.IntWalk
def LoopR(l:Nat)(o:Loop):Res where
  holds w S:=w.heap[l]?=some (.loop o)/\∀k,S k↔k=l
  keep:=λ⟨h1,h2⟩ hk=>⟨(hk l ((h2 l).2 rfl)).trans h1,h2⟩
  lt:=λ⟨h1,h2⟩ k hk=>by rw [(h2 k).1 hk];exact(a7.1 h1).1
def VRes(G:Nat->Nat)(L:List LV)(R:List Res):Res where
  holds w S:=∃S0,(∀x∈L,Blk w (G x.j) x.t (catP x.ps)/\OkP x.ps)/\(namesL L).Pairwise (λi j=>G i≠G j)/\starL R w S0/\(∀j∈namesL L,¬S0 (G j))/\∀k,S k↔Mine S0 G L k
  keep:=λ⟨S0,h1,h2,h3,h4,h5⟩ hk=>⟨S0,λx hx=>⟨(hk _ ((h5 _).2 (.inr ⟨x.j,bP.2 ⟨x,hx,rfl⟩,rfl⟩))).trans (h1 x hx).1,(h1 x hx).2⟩,h2,h3.keep λk hs=>hk k ((h5 k).2 (.inl hs)),h4,h5⟩
  lt:=λ⟨S0,h1,_,h3,_,h5⟩ k hk=>by
    rcases(h5 k).1 hk with hk|⟨j,hj,rfl⟩
    · exact h3.lt k hk
    · obtain⟨x,hx,rfl⟩:=bP.1 hj
      exact(h1 x hx).1.lt
def noneL:List LV->Bool
  | []=>true
  | x::L=>x.g.isNone&&noneL L
theorem noneL_ok:∀{L:List LV},noneL L=true->∀x∈L,x.g=none
 | y::L,h,x,hx=>by
  unfold noneL at h
  rw [aN] at h
  rcases aL.1 hx with rfl|hx
  ·exact Option.isNone_iff_eq_none.1 h.1
  ·exact noneL_ok h.2 x hx
section
variable{b:Base}{G G':Nat->Nat}{S:Nat->Prop}{L L':List LV}{R R':List Res}{F M:World->Prop}{w w':World}
theorem StW.toV(h:StW b G S L R F M w):(VRes G L R).holds w (Mine S G L):=⟨S,λx hx=>⟨(h.var x hx).1,(h.var x hx).2.1⟩,h.apart,h.res,h.sep,λ_=>jO⟩
theorem mem_withG{G:Nat->Nat}:∀{L:List LV} {x:LV},x∈L->{ x with g:=some (G x.j) }∈withG G L
 | y::L,x,h=>by
  rcases aL.1 h with rfl|h
  ·exact aP
  ·exact aJ _ (mem_withG h)
theorem StW.at_withG(h:StW b G' S (withG G L) R F M w):∀j∈namesL L,G' j=G j:=λj hj=>by
 obtain⟨x,hx,rfl⟩:=bP.1 hj;exact(h.var _ (mem_withG hx)).2.2 _ rfl
theorem StW.toVG(h:StW b G' S (withG G L) R F M w):(VRes G L R).holds w (Mine S G L)/\∀k,Mine S G L k↔Mine S G' (withG G L) k:=by
 have hg:=h.at_withG;refine⟨⟨S,λx hx=>?_,?_,h.res,λj hj=>?_,λ_=>jO⟩,λk=>?_⟩
 ·have h1:=h.var _ (mem_withG hx)
  have h2:=hg x.j (bP.2 ⟨x,hx,rfl⟩);rw [<-h2];exact⟨h1.1,h1.2.1⟩
 ·have h1:=h.apart
  rw [withG_names] at h1
  exact h1.imp_of_mem λhi hj hne=>by rwa [<-hg _ hi,<-hg _ hj]
 ·rw [<-hg j hj]
  exact h.sep j (by rw [withG_names];exact hj)
 ·unfold Mine
  rw [withG_names];exact or_congr jO ⟨λ⟨j,hj,e⟩=>⟨j,hj,(hg j hj).trans e⟩,λ⟨j,hj,e⟩=>⟨j,hj,(hg j hj).symm.trans e⟩⟩
theorem StW.ofV{S1:Nat->Prop}(h:(VRes G L R).holds w S1)(hF:Stb S1 F w):∃S0,StW ⟨λ_=>False,w,S1⟩ G S0 (withG G L) R F (λ_=>True) w:=by
 obtain⟨S0,h1,h2,h3,h4,h5⟩:=h
 have hM:∀k,Mine S0 G (withG G L) k↔S1 k:=λk=>by
  rw [h5 k]
  unfold Mine
  rw [withG_names]
 refine⟨S0,λx hx=>?_,by rw [withG_names];exact h2,h3,by rw [withG_names];exact h4,hF.less λk _ hk=>hk.elim False.elim (hM k).1,λ_ _=>trivial,Chg.refl _ _,λk hk _=>(hM k).1 hk,λ_ h=>h.elim⟩;obtain⟨y,hy,rfl⟩:=withG_mem hx;exact⟨(h1 y hy).1,(h1 y hy).2,λg hg=>cR hg⟩
theorem StW.back{T:Nat->Prop}(h:StW b G S L R F M w)(hg:noneL L'=true)(hc:Chg (Mine S G L) w w')(hv:(VRes G L' R').holds w' T)(hT:∀k,T k->k<w.heap.size->Mine S G L k):∃S',StW b G S' L' R' F M w':=by
 obtain⟨S0,h1,h2,h3,h4,h5⟩:=hv;have hm:∀k,Mine S0 G L' k->k<w.heap.size->Mine S G L k:=λk hk=>hT k ((h5 k).2 hk);refine⟨S0,λx hx=>⟨(h1 x hx).1,(h1 x hx).2,λg e=>?_⟩,h2,h3,h4,?_,?_,h.chg.step hc λi hi hs=>h.mine i hs hi,λk hk hlt=>h.mine k (hm k hk (b9 hlt h.chg.size)) hlt,h.old⟩
 ·rw [noneL_ok hg x hx] at e
  cases e
 ·exact h.fact.past (D':=Dof b.X S0 G L') (hc.mono (D':=Dof b.X S G L) λi _ hs=>.inr hs) λi hi hd=>hd.imp id λhd=>hm i hd hi
 ·exact h.fresh.past (D':=Nof b S0 G L') (hc.mono (D':=Nof b S G L) λi _ hs=>.inr hs) λi hi hd=>hd.imp id λhd=>hm i hd hi
theorem StW.mark{l:Nat}{o:Loop}(o':Loop)(h:StW b G S L (LoopR l o::R) F M w):∃S',StW b G S' L (LoopR l o'::R) F M (w.putObj l (.loop o')):=by
 obtain⟨S1,h1,h2⟩:=h.put (i:=0) rfl;refine h2 (LoopR l o') _ (λk=>k=l) ((chg_putObj w l _).mono λk _ hk=>(h1.2 k).2 hk) ⟨World.putObj_heap_same (a7.1 h1.1).1,λ_=>jO⟩ λk hk _=>(h1.2 k).2 hk
theorem StW.recd{l:Nat}{o:Loop}(h:StW b G S L (LoopR l o::R) F M w):w.heap[l]?=some (.loop o):=by
 obtain⟨S1,h1,_⟩:=h.put (i:=0) rfl;exact h1.1
end
def jumpX:Option Nat->Exit
  | none=>.ret
  | some id=>.exit id
def jumpC:Option Nat->Code
  | none=>.ret
  | some id=>.exit id
def AnyR{σ:Type}(p:σ->Prop)(r:σ->Res):Res where
  holds w S:=∃s,p s/\(r s).holds w S
  keep:=λ⟨s,hp,h⟩ hk=>⟨s,hp,(r s).keep h hk⟩
  lt:=λ⟨s,_,h⟩=>(r s).lt h
def StarR(R:List Res):Res where
  holds w S:=starL R w S
  keep:=λh hk=>h.keep hk
  lt:=λh=>h.lt
theorem starR{R R':List Res}{w:World}{S:Nat->Prop}:starL (StarR R::R') w S↔starL (R++R') w S:=by
 rw [starL.app]
 rfl
theorem VRes.more{G:Nat->Nat}{L:List LV}{R O:List Res}{w:World}{S1 S2:Nat->Prop}(h:(VRes G L R).holds w S1)(h2:starL O w S2)(hd:∀k,S2 k->¬S1 k):(VRes G L (O++R)).holds w λk=>S2 k\/S1 k:=by
 obtain⟨S0,h3,h4,h5,h6,h7⟩:=h;refine⟨λk=>S2 k\/S0 k,h3,h4,starL.app.2 ⟨S2,S0,h2,h5,λ_=>jO,λk hk h0=>hd k hk ((h7 k).2 (.inl h0))⟩,λj hj hk=>?_,λk=>?_⟩
 ·rcases hk with hk|hk
  ·exact hd _ hk ((h7 _).2 (.inr ⟨j,hj,rfl⟩))
  ·exact h6 j hj hk
 ·show S2 k\/S1 k↔(S2 k\/S0 k)\/_
  rw [h7 k]
  constructor
  ·rintro(h|h|h)
   ·exact .inl (.inl h)
   ·exact .inl (.inr h)
   ·exact .inr h
  ·rintro((h|h)|h)
   ·exact .inl h
   ·exact .inr (.inl h)
   ·exact .inr (.inr h)
theorem YSpec.bare{l:Nat}{args:List Value}{Fy:World->Prop}{r r1 r0:Res}(h:YSpec l args Fy (StarR [r]) r1 r0):YSpec l args Fy r r1 r0:=λw S hr hF m=>h w S (star1.2 hr) hF m
section
variable{ds:List Deferred}{b:Base}{Q:Exit->Act->World->Prop}{N:Nat}{E:SE}{F M:World->Prop}{g:Operand}{k1 k2:Tmp}{assign body:Code}{gf:FuncId}{lb:List Value}{α β σ:Type}
def roundE(b1:Base)(N:Nat)(G:Nat->Nat)(busy:Res)(Rd:Res)(I:σ->Prop)(Ix:Option Nat->σ->Prop)(Lf:σ->List LV)(Rf:σ->List Res):Exit->Act->World->Prop
  | .normal,a,w=>∃s,I s/\St b1 N ⟨[],withG G (Lf s),busy::Rd::Rf s,λ_=>True,λ_=>True⟩ a w
  | .ret,a,w=>∃s,Ix none s/\St b1 N ⟨[],withG G (Lf s),busy::Rd::Rf s,λ_=>True,λ_=>True⟩ a w
  | .exit id,a,w=>∃s,Ix (some id) s/\St b1 N ⟨[],withG G (Lf s),busy::Rd::Rf s,λ_=>True,λ_=>True⟩ a w
  | _,_,_=>False
instance{b1:Base}{G:Nat->Nat}{busy Rd:Res}{I:σ->Prop}{Ix:Option Nat->σ->Prop}{Lf:σ->List LV}{Rf:σ->List Res}:NoOut (roundE b1 N G busy Rd I Ix Lf Rf):=⟨λ_ _ h=>h⟩
theorem k_rnd{b1:Base}{G:Nat->Nat}{busy Rd:Res}{I:σ->Prop}{Ix:Option Nat->σ->Prop}{Lf:σ->List LV}{Rf:σ->List Res}{e:Env}(s:σ)(hI:I s)(hw:Weak e ⟨[],withG G (Lf s),busy::Rd::Rf s,λ_=>True,λ_=>True⟩):kS b1 (roundE b1 N G busy Rd I Ix Lf Rf .normal) N e:=λ_ _ hs=>⟨s,hI,hs.weak hw⟩
theorem k_jump{b1:Base}{G:Nat->Nat}{busy Rd:Res}{I:σ->Prop}{Ix:Option Nat->σ->Prop}{Lf:σ->List LV}{Rf:σ->List Res}{e:Env}(c:Option Nat)(s:σ)(hI:Ix c s)(hw:Weak e ⟨[],withG G (Lf s),busy::Rd::Rf s,λ_=>True,λ_=>True⟩):kS b1 (roundE b1 N G busy Rd I Ix Lf Rf (jumpX c)) N e:=λ_ _ hs=>by
 cases c<;>exact⟨s,hI,hs.weak hw⟩
theorem d_rangeO(xs:List α)(vk:α->SQ)(vv:α->β->SQ)(Ov:α->β->List Res)(Lf:σ->List LV)(Rf:σ->List Res)(I:Nat->σ->Prop)(Ix:Option Nat->σ->Prop)(s0:σ)(Fi:World->Prop)
 (hg:evS E g=some (.v (.func (.func gf) #[] lb.toArray)))(hf:Own gf)(hnone:∀s,noneL (Lf s)=true)(hok:∀x∈xs,∀y,(vk x).Ok/\(vv x y).Ok)(hk1:aQ k1 N=true)(hk2:aQ k2 N=true)
 (hFi:∀w,F w->M w->Fi w)
 (hseq:∀(l:Nat) (Fy:World->Prop) (JR:Nat->Res) (JX:Res),(∀(j:Nat) (x:α) (y:β),xs[j]?=some x->YSpec l [(vk x).den,(vv x y).den] Fy (StarR (Ov x y++[JR j])) (JR (j+1)) JX)->Spec gf (.func (.yield l) #[] #[]::lb) [JR 0] (λw=>Fi w/\Fy w) (epost (JR xs.length) JX))
 (h0:I 0 s0)
 (hround:∀(G:Nat->Nat) (l D m:Nat) (ready busy:Loop) (b1:Base) (j:Nat) (s:σ) (x:α) (y:β),b.B.heap.size<=b1.B.heap.size->I j s->xs[j]?=some x->∀K:Act->World->Prop,
   (∀E' L' R' F' M',rS (some l) m b1 body (roundE b1 N G (LoopR l busy) (DefR D) (I (j+1)) Ix Lf Rf) N ⟨E',L',LoopR l busy::R',F',M'⟩->kS b1 K N ⟨E',L',LoopR l ready::R',F',M'⟩) ->
   rS (some l) m b1 assign (Exit.then K λ_ _ _=>False) N ⟨(k2,.q (vv x y))::(k1,.q (vk x))::E,withG G (Lf s),LoopR l ready::DefR D::(Ov x y++Rf s),λw=>F w/\M w,λ_=>True⟩)
 (hdone:∀s D,I xs.length s->kD (dD D::ds) b (Q .normal) N ⟨E,Lf s,DefR D::Rf s,F,M⟩)
 (hstop:∀c s D,Ix c s->dS (dD D::ds) b (jumpC c) Q N ⟨E,Lf s,DefR D::Rf s,F,M⟩):dS ds b (.rangeFunc g #[k1,k2] assign body) Q N ⟨E,Lf s0,Rf s0,F,M⟩:=λa w hs=>by
 obtain⟨G,S,hfr,hE,hW⟩:=hs;refine(wpIn_wide (n:=0)).1 (wpIn_rangeFunc ?_)
 intro fn _
 obtain⟨rec,hrec⟩:∃rec:LoopState->Option Code->Loop,rec=λst pe=>{ state:=st,pending:=pe,fn,tmps:=a.tmps,params:=#[k1,k2],assign,body,defers:=w.heap.size }:=⟨_,rfl⟩
 have hpe:∀st pe,(rec st pe).pending=pe:=λst pe=>by rw [hrec]
 obtain⟨w1,hw1⟩:∃w1,(w.alloc (.deferred (some []))).alloc (.loop (rec .ready none))=w1:=⟨_,rfl⟩;obtain⟨l,hl⟩:∃l,w.heap.size+1=l:=⟨_,rfl⟩;obtain⟨D,hD⟩:∃D,w.heap.size=D:=⟨_,rfl⟩
 -- the two blocks of book-keeping
 have hSt1:∃S1,StW b G S1 (Lf s0) (LoopR l (rec .ready none)::DefR D::Rf s0) F M w1:=by
  obtain⟨S2,h2⟩:=hW.gain (w':=w.alloc (.deferred (some []))) ((Below.refl _ w).alloc (aF _) _) (r:=DefR D) (S':=λk=>k=D) ⟨by rw [<-hD];exact tM w _,λ_=>jO⟩ λk hk=>by omega
  obtain⟨S3,h3⟩:=h2.gain (w':=w1) (by rw [<-hw1];exact(Below.refl _ _).alloc (aF _) _) (r:=LoopR l (rec .ready none)) (S':=λk=>k=l) ⟨by
   rw [<-hw1,<-hl];have:=tM (w.alloc (.deferred (some []))) (.loop (rec .ready none))
   rwa [c8] at this,λ_=>jO⟩ λk hk=>by rw [c8];omega
  exact⟨S3,h3⟩
 obtain⟨S1,hW1⟩:=hSt1;refine⟨l,[dD D],w1,{ target:=.fn (.func gf) lb.toArray,args:=#[.func (.yield l) #[] #[]] },w1,gf,#[.func (.yield l) #[] #[]]++lb.toArray,w1,?_,?_,λ_ _=>trivial,?_,λh=>(by cases h),?_⟩
 ·rw [<-hw1,hrec,<-hl,<-hD]
  exact run_enterLoop_outer _ _ _ _ _
 ·have e:(withD ds a).eval g = .func (.func gf) #[] lb.toArray:=hfr.eval (evS_ok hg)
  simp only [resolve,e]
  simp [go_sem]
 ·simp [invoke,go_sem]
  exact hf _ w1
 -- the iterator
 let JR:Nat->Res:=λj=>AnyR (I j) λs=>VRes G (Lf s) (LoopR l (rec .ready none)::DefR D::Rf s)
 let JX:Res:=AnyR (λx:Option Nat×σ=>Ix x.1 x.2) λx=>VRes G (Lf x.2) (LoopR l (rec .done (some (jumpC x.1)))::DefR D::Rf x.2)
 have hy:∀(j:Nat) (x:α) (y:β),xs[j]?=some x->YSpec l [(vk x).den,(vv x y).den] (λw=>F w/\M w) (StarR (Ov x y++[JR j])) (JR (j+1)) JX:=by
  rintro j x y hj w2 S2 hst2 hF2 m
  obtain⟨SO,SJ,hO,hJ,hS2,hdis⟩:=starL.app.1 hst2;obtain⟨s,hI,hv0⟩:=star1.1 hJ
  have hv1:(VRes G (Lf s) (Ov x y++(LoopR l (rec .ready none)::DefR D::Rf s))).holds w2 S2:=by
   obtain⟨S0,a1,a2,a3,a4,a5⟩:=VRes.more hv0 hO hdis;exact⟨S0,a1,a2,a3,a4,λk=>(hS2 k).trans (a5 k)⟩
  have hv:(VRes G (Lf s) (LoopR l (rec .ready none)::DefR D::(Ov x y++Rf s))).holds w2 S2:=by
   obtain⟨S0,a1,a2,a3,a4,a5⟩:=hv1;exact⟨S0,a1,a2,a3.perm (List.perm_middle.trans (.cons _ List.perm_middle)),a4,a5⟩
  obtain⟨S3,h3⟩:=StW.ofV hv hF2
  have hle:b.B.heap.size<=w2.heap.size:=by
   have h1:=(a7.1 h3.recd).1;have h2:=hW.chg.size
   omega
  have hy:(Instr.yield l [(vk x).den,(vv x y).den].toArray).run Tryz.prog w2 = .ok (.round l fn ((a.tmps.setIfInBounds k1 (vk x).den).setIfInBounds k2 (vv x y).den) assign body) w2:=by
   have hy:=run_yield (P:=Tryz.prog) (args:=[(vk x).den,(vv x y).den].toArray) h3.recd (by rw [hrec];rfl);rw [hrec] at hy
   simpa using hy
  refine⟨fn,_,assign,body,hy,roundIn_of_wpIn trivial ?_⟩;refine hround G l D m (rec .ready none) (rec .busy none) ⟨λ_=>False,w2,S2⟩ j s x y hle hI hj _ ?_ _ _ ⟨G,S3,?_,?_,h3⟩
  ·rintro E' L' R' F' M' hb a3 w3 ⟨G4,S4,h41,h42,h43⟩
   refine⟨_,run_beginRound h43.recd (by rw [hrec]),?_⟩;obtain⟨S5,h5⟩:=h43.mark (rec .busy none);have h6:=hb a3 _ ⟨G4,S5,h41,h42,h5⟩
   have eb:({ rec .ready none with state:=.busy }:Loop)=rec .busy none:=by rw [hrec]
   rw [eb];refine wpIn_mono h6 ?_
   have fin:∀(c:Option Code) (a4:Act) (w4:World) (s':σ),St ⟨λ_=>False,w2,S2⟩ N ⟨[],withG G (Lf s'),LoopR l (rec .busy none)::DefR D::Rf s',λ_=>True,λ_=>True⟩ a4 w4 ->
     ∃w5 S5,(Instr.endRound l c).run Tryz.prog w4 = .ok (.bool c.isNone) w5/\Chg S2 w2 w5/\(VRes G (Lf s') (LoopR l (rec (if c.isNone then .ready else .done) c)::DefR D::Rf s')).holds w5 S5/\∀k,S5 k->k<w2.heap.size->S2 k:=by
    rintro c a4 w4 s' ⟨G7,S7,_,_,h7⟩
    obtain⟨S8,h8⟩:=h7.mark (rec (if c.isNone then .ready else .done) c);have hr:=run_endRound (P:=Tryz.prog) c h7.recd
    have eb:({ rec .busy none with state:=if c.isNone then .ready else .done,pending:=c }:Loop)=rec (if c.isNone then .ready else .done) c:=by rw [hrec]
    rw [eb] at hr;obtain⟨h9,h10⟩:=h8.toVG;exact⟨_,_,hr,h8.chg,h9,λk hk hlt=>h8.mine k ((h10 k).1 hk) hlt⟩
   rintro e a4 w4 hp
   cases e with
   | normal =>
    obtain⟨s',hI',hs'⟩:=hp;obtain⟨w5,S5,hr,hc,hv,hS⟩:=fin none a4 w4 s' hs';exact⟨_,_,hr,true,S5,rfl,hc,⟨s',hI',hv⟩,hS⟩
   | ret =>
    obtain⟨s',hI',hs'⟩:=hp;obtain⟨w5,S5,hr,hc,hv,hS⟩:=fin (some .ret) a4 w4 s' hs';exact⟨_,_,hr,false,S5,rfl,hc,⟨(none,s'),hI',hv⟩,hS⟩
   | exit id =>
    obtain⟨s',hI',hs'⟩:=hp;obtain⟨w5,S5,hr,hc,hv,hS⟩:=fin (some (.exit id)) a4 w4 s' hs';exact⟨_,_,hr,false,S5,rfl,hc,⟨(some id,s'),hI',hv⟩,hS⟩
   | _=>exact hp.elim
  ·have hf0:Fr N (denE G E) { tmps:=a.tmps,defers:=[] }:=by
    have e:({ tmps:=a.tmps,defers:=[] }:Act)=a:=by
     have:=hfr.defers
     cases a
     simp only at this;rw [this]
    rw [e];exact hfr
   exact(hf0.put hk1 (vk x).den).put hk2 (vv x y).den
  ·exact(hE.cons (v:=.q (vk x)) (hok x (aR hj) y).1).cons (v:=.q (vv x y)) (hok x (aR hj) y).2
 have hcall:=hseq l (λw=>F w/\M w) JR JX hy w1 (Mine S1 G (Lf s0)) (λ_=>False) (star1.2 ⟨s0,h0,hW1.toV⟩) (λ_ h=>h.elim) ((hW1.all.imp λw hw=>⟨hFi w hw.1 hw.2,hw⟩).less λk _ hk=>.inr (hk.elim False.elim id))
 have e:(.func (.yield l) #[] #[]::lb).toArray = #[.func (.yield l) #[] #[]]++lb.toArray:=by simp
 rw [e] at hcall;refine(calls_in (ro:=none) (n:=0-1) hcall).mono ?_
 have ea:({ withD ds a with defers:=[dD D]++(withD ds a).defers }:Act)=withD (dD D::ds) a:=by
  have:=hfr.defers
  cases a
  simp only at this;subst this
  rfl
 rw [ea]
 rintro e w2 ⟨t,S2,rfl,_,hc2,h2,hS2,_,_⟩
 have h2:=star1.1 h2
 cases t with
 | true =>
  obtain⟨s,hI,hv⟩:=h2;obtain⟨S3,h3⟩:=hW1.back (hnone s) hc2 hv hS2;have hr:=run_endLoop (P:=Tryz.prog) h3.recd (by rw [hrec];simp);obtain⟨S4,h4⟩:=StW.drop (D:=l) h3 (λS1 hS=>(hS.2 l).2 rfl) (chg_putObj w2 l (.loop (rec .exhausted none)))
  have eb:({ rec .ready none with state:=.exhausted }:Loop)=rec .exhausted none:=by rw [hrec]
  rw [eb,hpe] at hr;exact⟨_,_,hr,hdone s D hI a _ ⟨G,S4,hfr,hE,h4⟩⟩
 | false =>
  obtain⟨⟨c,s⟩,hI,hv⟩:=h2;obtain⟨S3,h3⟩:=hW1.back (hnone s) hc2 hv hS2;have hr:=run_endLoop (P:=Tryz.prog) h3.recd (by rw [hrec];simp);obtain⟨S4,h4⟩:=StW.drop (D:=l) h3 (λS1 hS=>(hS.2 l).2 rfl) (chg_putObj w2 l (.loop (rec .exhausted (some (jumpC c)))))
  have eb:({ rec .done (some (jumpC c)) with state:=.exhausted }:Loop)=rec .exhausted (some (jumpC c)):=by rw [hrec]
  rw [eb,hpe] at hr;exact⟨_,_,hr,(wpIn_wide (n:=0)).2 (hstop c s D hI a _ ⟨G,S4,hfr,hE,h4⟩)⟩
theorem d_rangeB(xs:List α)(vk vv:α->SQ)(Lf:σ->List LV)(Rf:σ->List Res)(I:Nat->σ->Prop)(Ix:Option Nat->σ->Prop)(s0:σ)(Fi:World->Prop)
 (hg:evS E g=some (.v (.func (.func gf) #[] lb.toArray)))(hf:Own gf)(hnone:∀s,noneL (Lf s)=true)(hok:∀x∈xs,(vk x).Ok/\(vv x).Ok)(hk1:aQ k1 N=true)(hk2:aQ k2 N=true)
 (hFi:∀w,F w->M w->Fi w)
 (hseq:∀(l:Nat) (Fy:World->Prop) (JR:Nat->Res) (JX:Res),(∀(j:Nat) (x:α),xs[j]?=some x->YSpec l [(vk x).den,(vv x).den] Fy (JR j) (JR (j+1)) JX)->Spec gf (.func (.yield l) #[] #[]::lb) [JR 0] (λw=>Fi w/\Fy w) (epost (JR xs.length) JX))
 (h0:I 0 s0)
 (hround:∀(G:Nat->Nat) (l D m:Nat) (ready busy:Loop) (b1:Base) (j:Nat) (s:σ) (x:α),b.B.heap.size<=b1.B.heap.size->I j s->xs[j]?=some x->∀K:Act->World->Prop,
   (∀E' L' R' F' M',rS (some l) m b1 body (roundE b1 N G (LoopR l busy) (DefR D) (I (j+1)) Ix Lf Rf) N ⟨E',L',LoopR l busy::R',F',M'⟩->kS b1 K N ⟨E',L',LoopR l ready::R',F',M'⟩) ->
   rS (some l) m b1 assign (Exit.then K λ_ _ _=>False) N ⟨(k2,.q (vv x))::(k1,.q (vk x))::E,withG G (Lf s),LoopR l ready::DefR D::Rf s,λw=>F w/\M w,λ_=>True⟩)
 (hdone:∀s D,I xs.length s->kD (dD D::ds) b (Q .normal) N ⟨E,Lf s,DefR D::Rf s,F,M⟩)
 (hstop:∀c s D,Ix c s->dS (dD D::ds) b (jumpC c) Q N ⟨E,Lf s,DefR D::Rf s,F,M⟩):dS ds b (.rangeFunc g #[k1,k2] assign body) Q N ⟨E,Lf s0,Rf s0,F,M⟩ :=
 d_rangeO (β:=Unit) xs vk (λx _=>vv x) (λ_ _=>[]) Lf Rf I Ix s0 Fi hg hf hnone (λx hx _=>hok x hx) hk1 hk2 hFi (λl Fy JR JX hy=>hseq l Fy JR JX λj x hj=>(hy j x () hj).bare) h0 (λG l D m ready busy b1 j s x _=>hround G l D m ready busy b1 j s x) hdone hstop
theorem d_range(xs:List α)(vk vv:α->SQ)(Lf:σ->List LV)(Rf:σ->List Res)(I:Nat->σ->Prop)(Ix:Option Nat->σ->Prop)(s0:σ)(Fi:World->Prop)
 (hg:evS E g=some (.v (.func (.func gf) #[] lb.toArray)))(hf:Own gf)(hnone:∀s,noneL (Lf s)=true)(hok:∀x∈xs,(vk x).Ok/\(vv x).Ok)(hk1:aQ k1 N=true)(hk2:aQ k2 N=true)
 (hFi:∀w,F w->M w->Fi w)
 (hseq:∀(l:Nat) (Fy:World->Prop) (JR:Nat->Res) (JX:Res),(∀(j:Nat) (x:α),xs[j]?=some x->YSpec l [(vk x).den,(vv x).den] Fy (JR j) (JR (j+1)) JX)->Spec gf (.func (.yield l) #[] #[]::lb) [JR 0] (λw=>Fi w/\Fy w) (epost (JR xs.length) JX))
 (h0:I 0 s0)
 (hround:∀(G:Nat->Nat) (l D m:Nat) (ready busy:Loop) (b1:Base) (j:Nat) (s:σ) (x:α),I j s->xs[j]?=some x->∀K:Act->World->Prop,
   (∀E' L' R' F' M',rS (some l) m b1 body (roundE b1 N G (LoopR l busy) (DefR D) (I (j+1)) Ix Lf Rf) N ⟨E',L',LoopR l busy::R',F',M'⟩->kS b1 K N ⟨E',L',LoopR l ready::R',F',M'⟩) ->
   rS (some l) m b1 assign (Exit.then K λ_ _ _=>False) N ⟨(k2,.q (vv x))::(k1,.q (vk x))::E,withG G (Lf s),LoopR l ready::DefR D::Rf s,λw=>F w/\M w,λ_=>True⟩)
 (hdone:∀s D,I xs.length s->kD (dD D::ds) b (Q .normal) N ⟨E,Lf s,DefR D::Rf s,F,M⟩)
 (hstop:∀c s D,Ix c s->dS (dD D::ds) b (jumpC c) Q N ⟨E,Lf s,DefR D::Rf s,F,M⟩):dS ds b (.rangeFunc g #[k1,k2] assign body) Q N ⟨E,Lf s0,Rf s0,F,M⟩ :=
 d_rangeB xs vk vv Lf Rf I Ix s0 Fi hg hf hnone hok hk1 hk2 hFi hseq h0 (λG l D m ready busy b1 j s x _=>hround G l D m ready busy b1 j s x) hdone hstop
end
end Go.Proofs.YtlhlkofpjhpaoaaGreatDoor
namespace Go.Proofs.YtlhlkofpjhpaoaaGreatDoor
open Go.RowKit Go.IntWalk Nums
section
variable{ds:List Deferred}{ro:Option Nat}{n:Nat}{b:Base}{Q:Exit->Act->World->Prop}{N:Nat}{E:SE}{L:List LV}{R:List Res}{F M:World->Prop}{id:Nat}{l:List Oper}{y:Code}
theorem d_regH(m:Nat)(hn:m<=l.length)(hm:Tryz.prog.follows .mixedOrders=true)(hB:tailH l.toArray m (l.drop m).length=true)
 (h:∀K:Act->World->Prop,(∀e',dS ds b y Q N e'->kD ds b K N e')->∀G S w0,StW b G S L R F M w0->hS Tryz.prog l.toArray (Qd ds (Exit.then K Q)) N (l.drop m) G w0 (idx 0 (l.take m)) E []):dS ds b (.seq (.region id l.toArray true) y) Q N ⟨E,L,R,F,M⟩ :=
 d_regD m hn hm hB λK hK G S w0 hst=>h K hK G S w0 hst
theorem r_regH[NoOut Q](m:Nat)(hn:m<=l.length)(hm:Tryz.prog.follows .mixedOrders=true)(hB:tailH l.toArray m (l.drop m).length=true)(hd:noDef l=true)
 (h:∀K:Act->World->Prop,(∀e',rS ro n b y Q N e'->kS b K N e')->∀G S w0,StW b G S L R F M w0->hS Tryz.prog l.toArray (Exit.then K Q) N (l.drop m) G w0 (idx 0 (l.take m)) E []):rS ro n b (.seq (.region id l.toArray true) y) Q N ⟨E,L,R,F,M⟩ :=
 r_regD m hn hm hB hd λK hK G S w0 hst=>h K hK G S w0 hst
theorem d_seqD{x:Code}{e:Env}(h:∀K:Act->World->Prop,(∀ds' e',dS ds' b y Q N e'->kD ds' b K N e')->dS ds b x (Exit.then K Q) N e):dS ds b (.seq x y) Q N e:=λa w hs =>
 wp_seq_k λK hK=>h K (λ_ _ h' a' w' hs'=>hK _ _ (h' a' w' hs')) a w hs
theorem d_pure{c:Code}(p:Prop)(h0:∀w,F w->M w->p)(h:p->dS ds b c Q N ⟨E,L,R,F,M⟩):dS ds b c Q N ⟨E,L,R,F,M⟩:=λa w ⟨G,S,h1⟩=>h (h0 w h1.st.all.now.1 h1.st.all.now.2) a w ⟨G,S,h1⟩
instance:NoOut (λ_ _ _=>False):=⟨λ_ _ h=>h⟩
end
theorem laidOut9:laidOutB Tryz.prog=true:=by kernel_rfl
theorem hash_keyed:Maps.Keyed Tryz.prog 45:=Maps.Keyed.of_law (deep_law_laid (m:=4) laidOut9 (by decide) (of_decide_eq_true (by kernel_rfl)) (by kernel_rfl) (by kernel_rfl))
def KVT(s:List UInt8):Value:=.agg (By s).toArray
theorem KVT_inj:∀{l m:List UInt8},KVT l=KVT m->l=m:=by
 intro l m h
 have h8:By l=By m:=by
  injection h with h
  exact List.toArray_inj h
 clear h
 induction l generalizing m with
 | nil=>cases m with
  | nil=>rfl
  | cons=>cases h8
 | cons x l ih=>cases m with
  | nil=>cases h8
  | cons y m =>
   injection h8 with h1 h2
   injection h1 with _ h1
   rw [ih h2,UInt8.toNat_inj.1 (by omega:x.toNat=y.toNat)]
theorem key_u8T(d:Nat)(n:Nat)(h:n<256):Tryz.prog.keyLits (d+1) 5 [.int .u8 (n:Int)]=some [.int .u8 (n:Int)]:=by
 have hw:(Lit.int .u8 (n:Int)).wf=true:=by
  simp [Lit.wf,IntKind.min,IntKind.max,IntKind.signed,IntKind.bits]
  omega
 simp [Program.keyLits,Tryz.underlying5,hw]
theorem key_hashL(d:Nat){s:List UInt8}(hs:s.length=32):∃l,Tryz.prog.keyLits (d+2) 45 (By s)=some l:=by
 have hc:Tryz.prog.cellsOf 45 = 32:=by kernel_rfl
 have h8:Tryz.prog.cellsOf 5 = 1:=by kernel_rfl
 have hm:∀i,i<32->∃l,Tryz.prog.keyLits (d+1) 5 (((By s).drop (i*1)).take 1)=some l:=λi hi=>by
  have e:((By s).drop (i*1)).take 1=[.int .u8 ((s[i]'(by omega)).toNat:Int)]:=by
   rw [Nat.mul_one,List.drop_eq_getElem_cons (by rw [By_len];omega)]
   simp [By]
  rw [e];exact⟨_,key_u8T d _ (UInt8.toNat_lt _)⟩
 have key:∀(is:List Nat),(∀i∈is,i<32)->∃L,is.mapM (λi=>Tryz.prog.keyLits (d+1) 5 (((By s).drop (i*1)).take 1))=some L:=by
  intro is
  induction is with
  | nil=>intro _;exact⟨[],rfl⟩
  | cons i is ih =>
   intro h
   obtain⟨l,hl⟩:=hm i (h i (by simp));obtain⟨L,hL⟩:=ih λj hj=>h j (by simp [hj]);exact⟨l::L,by simp only [List.mapM_cons,hl,hL];rfl⟩
 obtain⟨L,hL⟩:=key (List.range 32) (λi hi=>List.mem_range.1 hi);refine⟨L.flatten,?_⟩
 unfold Program.keyLits
 simp only [Tryz.underlying45];rw [if_pos (by rw [By_len,hs,hc]),h8,hL]
 rfl
theorem hash_key{s:List UInt8}(hs:s.length=32):∃l,keyOf Tryz.prog 45 (KVT s)=some l:=by
 have hk:Tryz.prog.keyType 45 = true:=by kernel_rfl
 have hc:Tryz.prog.cellsOf 45 = 32:=by kernel_rfl
 have hf:(KVT s).formed Tryz.prog 45 = true:=by
  unfold KVT Value.formed
  simp only [Tryz.underlying45,hc]
  simp [By_len,hs]
 obtain⟨n,hn⟩:∃n,Tryz.prog.types.size+1=n+2:=⟨Tryz.prog.types.size-1,by
  have:decide (2<=Tryz.prog.types.size)=true:=by kernel_rfl
  have:=of_decide_eq_true this
  omega⟩
 obtain⟨ls,hls⟩:=key_hashL n hs;have hcs:(KVT s).cells.toList=By s:=rfl;refine⟨.string (keyBytes ls),?_⟩
 unfold keyOf
 simp only [Tryz.underlying45,hk,hf,Bool.and_self,if_true,hn,hcs,hls]
 rfl
abbrev TH:MapT (List UInt8) HSeg:={ t:=28,kt:=45,vt:=43,kv:=eY 32,vv:=eHs }
abbrev ok32(k:List UInt8):Prop:=k.length=32
theorem TH_ok:TH.Ok ok32 where
 und:=Tryz.underlying28
 keyed:=hash_keyed
 key _ h:=hash_key h
 inj _ _ h:=KVT_inj h
theorem nilH_zero:∀w,(zeroValue TH.vt).run Tryz.prog w = .ok (TH.V nilH) w:=λw=>by
 have hi:(Tryz.prog.info? 43).bind (·.zero)=some (.slice none 0 0):=by kernel_rfl
 unfold zeroValue typeInfo
 cases h:Tryz.prog.info? 43 with
 | none=>rw [h] at hi;cases hi
 | some i =>
  rw [h] at hi;have hi:i.zero=some (.slice none 0 0):=hi
  simp [h,hi]
  rfl
structure DirV where
  ep:Int
  mv:Option Nat
  es:Array MapEntry
  clock:Nat
  n:Nat
  h:List UInt8->Option HSeg
  t:TA
  l:List EntD
def DirV.parts(d:DirV):List Pt:=[.one (.v (.int .i64 d.ep)),.one (.v (.map d.mv)),.agg 2 #[d.t.val,.int .u8 0]]
abbrev eDv(d:DirV):SQ:=.p d.parts
theorem dval_one(t:TA):t.val.oneCell'=true:=by cases t<;>rfl
theorem DirV.parts_ok(d:DirV):OkP d.parts:=λp hp=>by
 simp only [DirV.parts,aL,lM,or_false] at hp
 rcases hp with rfl|rfl|rfl
 ·exact⟨trivial,rfl,rfl⟩
 ·exact⟨trivial,rfl,rfl⟩
 ·refine⟨rfl,λv hv=>?_⟩
  simp only [aL,lM,or_false] at hv
  rcases hv with rfl|rfl
  ·exact dval_one _
  ·rfl
structure DirV.Ok(d:DirV):Prop where
  dir:DirOk d.l
  small:SmallD d.l
  tells:Tells d.h d.l
  tree:TOk 256 (pairsD d.l) d.t
  map:match d.mv with|none=>∀k,d.h k=none|some _=>MapH TH ok32 d.es d.clock d.n d.h
def DirV.F(d:DirV)(w:World):Prop:=(∀m,d.mv=some m->MapE m d.es d.clock w)/\(∀k s,d.h k=some s->s.rd w)/\TF d.t w
instance dirPst{d:DirV}:Pst d.F:=⟨λ_ _ ⟨h1,h2,h3⟩ hb=>⟨λm hm=>Pst.later _ _ (h1 m hm) hb,λk s hs=>Pst.later (p:=s.rd) _ _ (h2 k s hs) hb,h3.later hb⟩⟩
def zDirV:DirV:=⟨0,none,#[],0,0,λ_=>none,.nil,[]⟩
theorem zDirV_ok:zDirV.Ok:=⟨DirOk.nil,λ_ h=>(by cases h),Tells.nil,rfl,λ_=>rfl⟩
theorem zDirV_F(w:World):zDirV.F w:=⟨λ_ h=>(by cases h),λ_ _ h=>(by cases h),trivial⟩
def DirV.cnt(d:DirV):Nat:=match d.mv with
  | none=>0
  | some _=>d.n
def DirV.seg(d:DirV)(k:List UInt8):HSeg:=(d.h k).getD nilH
theorem DirV.Ok.seg_l{d:DirV}(h:d.Ok)(k:List UInt8):(d.seg k).l=bU d.l k:=by
 unfold DirV.seg
 cases hk:d.h k with
 | none=>exact((h.tells k).2 hk).symm
 | some s=>exact((h.tells k).1 s hk).2.symm
theorem DirV.F.seg_rd{d:DirV}{w:World}(h:d.F w)(k:List UInt8):(d.seg k).rd w:=by
 unfold DirV.seg
 cases hk:d.h k with
 | none=>exact Rd.nil _ _ _
 | some s=>exact h.2.1 k s hk
section
variable{N:Nat}{E:SE}{L:List LV}{R:List Res}{F M:World->Prop}{o:Oper}{x y:Operand}
theorem runO_hist{d:DirV}(hd:d.Ok)(hF:∀G S w,View G S L R F M w->d.F w)(k:List UInt8)(hk:k.length=32)(ho:o.op = .lookup TH.t x y false)(hx:evS E x=some (.v (.map d.mv)))(hy:evS E y=some (.q (eY 32 k))) :
  ∀(G:Nat->Nat) (S:Nat->Prop) (a:Act) (w:World),Fr N (denE G E) a->View G S L R F M w->(execOp a.eval o).run Tryz.prog w = .ok (.value ((SV.q (eHs (d.seg k))).den G)) w:=by
 have hm:=hd.map
 unfold DirV.seg
 cases hmv:d.mv with
 | none =>
  rw [hmv] at hm hx;rw [hm k];exact runO_noneN TH_ok k nilH hk nilH_zero ho hx hy
 | some m =>
  rw [hmv] at hm hx;have hA:∀G S w,View G S L R F M w->MapA TH ok32 m d.n d.h w:=λG S w h=>⟨d.es,d.clock,(hF G S w h).1 m hmv,hm⟩
  cases hs:d.h k with
  | none=>exact runO_noneA TH_ok hA k nilH hk hs nilH_zero ho hx hy
  | some s=>exact runO_lookA TH_ok hA k s hk hs ho hx hy
theorem runO_grown{m n:Nat}{g:List UInt8->Option HSeg}(hA:∀G S w,View G S L R F M w->MapA TH ok32 m n g w)(k:List UInt8)(hk:k.length=32)(ho:o.op = .lookup TH.t x y true)(hx:evS E x=some (.v (.map (some m))))(hy:evS E y=some (.q (eY 32 k))) :
  ∀(G:Nat->Nat) (S:Nat->Prop) (a:Act) (w:World),Fr N (denE G E) a->View G S L R F M w->(execOp a.eval o).run Tryz.prog w = .ok (.value ((SV.t [eHs ((g k).getD nilH),.c (.b (g k).isSome)]).den G)) w:=by
 cases hs:g k with
 | none=>exact runO_noneA2 TH_ok hA k nilH hk hs nilH_zero ho hx hy
 | some s=>exact runO_lookA2 TH_ok hA k s hk hs ho hx hy
theorem runO_lenD{d:DirV}(hd:d.Ok)(hF:∀G S w,View G S L R F M w->d.F w)(ho:o.op = .call { callee:=.builtin .len,args:=#[x],argTypes:=#[TH.t] })(hx:evS E x=some (.v (.map d.mv))) :
  ∀(G:Nat->Nat) (S:Nat->Prop) (a:Act) (w:World),Fr N (denE G E) a->View G S L R F M w->(execOp a.eval o).run Tryz.prog w = .ok (.value ((SV.v (.int .i64 (d.cnt:Int))).den G)) w:=by
 have hm:=hd.map
 unfold DirV.cnt
 cases hmv:d.mv with
 | none =>
  rw [hmv] at hx;exact runO_lenN TH_ok ho hx
 | some m =>
  rw [hmv] at hm hx;exact runO_lenA TH_ok (λG S w h=>⟨d.es,d.clock,(hF G S w h).1 m hmv,hm⟩) ho hx
end
theorem eY_all{k:List UInt8}(h:ok32 k):(TH.kv k).Ok:=(eY_ok h).1
theorem eHs_all(s:HSeg):(TH.vv s).Ok:=trivial
def HasM(h:List UInt8->Option HSeg)(done:List (List UInt8×HSeg)):Prop:=∀k s,h k=some s↔(k,s)∈done
theorem HasM.nil:HasM (λ_=>none) []:=λk s=>by simp
theorem HasM.put{h:List UInt8->Option HSeg}{done:List (List UInt8×HSeg)}(hh:HasM h done){k:List UInt8}(s:HSeg)(hn:∀d∈done,d.1≠k):HasM (putF h k s) (done++[(k,s)]):=λx y=>by
 unfold putF
 rw [List.mem_append,aE]
 by_cases c:x=k
 ·subst c
  rw [if_pos rfl]
  constructor
  ·exact λe=>.inr (by injection e with e;rw [e])
  ·rintro(e|e)
   ·exact absurd rfl (hn _ e)
   ·injection e with _ e
    rw [e]
 ·rw [if_neg c,hh x y]
  exact⟨.inl,λe=>e.resolve_right λe=>c (by injection e)⟩
theorem HasM.eq{h g:List UInt8->Option HSeg}{done:List (List UInt8×HSeg)}(hh:HasM h done)(h1:∀d∈done,g d.1=some d.2)(h2:∀k s,g k=some s->(k,s)∈done):h=g:=by
 funext k
 cases hg:g k with
 | some s=>exact(hh k s).2 (h2 k s hg)
 | none =>
  cases hk:h k with
  | none=>rfl
  | some s =>
   have:=h1 _ ((hh k s).1 hk);rw [hg] at this
   cases this
theorem mcopy_S{d:DirV}(hd:d.Ok)(m:Nat):Spec 51 [.map (some m),.map d.mv] [MapG TH ok32 m 0 λ_=>none] d.F { ret:=λ_=>.t [],own:=λn:Nat=>[MapG TH ok32 m n d.h] }:=by
 refine zQ [.c (.v (.map (some m))),.c (.v (.map d.mv))] 16 Tryz.func51 rfl (by rw [Tryz.ntmps51];rfl) (two_ok trivial trivial) λb=>?_;have hm:=hd.map
 cases hmv:d.mv with
 | none =>
  rw [hmv] at hm;have hh:d.h=λ_=>none:=funext hm;refine zC rfl λK hK=>?_;refine l_rangeN rfl rfl rfl rfl Tryz.underlying28 rfl λr=>?_;refine zJ (hK _ (zN ?_))
  let Fs:Unit->Env:=λ_=>⟨[(7,.v (.pointer (some ⟨r,0,none⟩)))],[],[ItR none r 0 #[],MapG TH ok32 m 0 λ_=>none],λ_=>True,λ_=>True⟩
  refine c_weak (e':=Fs ()) ⟨⟨rfl,trivial⟩,trivial,.refl _,λ_ _ _=>trivial, zU⟩ (s_loop (λ_=>0) Fs (λ_=>True) ?_ () trivial)
  intro _ _
  refine zC rfl λK2 hK2=>?_;refine l_nextN 0 rfl rfl rfl rfl rfl rfl ?_;refine zB rfl (zJ (hK2 _ ?_));refine zM λK3 hK3=>?_;refine s_no rfl ?_;refine s_exit (zS (zS (k_out ?_)));refine k_drop 0 rfl ?_;exact zR zY 0 rfl (by decide) rfl rfl (by rw [hh];rfl) (λ_ _ _=>trivial) zU
 | some m2 =>
  rw [hmv] at hm;have hH:MapH TH ok32 d.es d.clock d.n d.h:=hm;refine zC rfl λK hK=>?_;refine l_rangeM rfl rfl rfl rfl Tryz.underlying28 rfl (es:=d.es) (clock:=d.clock) (λ_ _ _ h=>h.fact.1 m2 hmv) λr=>?_;refine zJ (hK _ (zN ?_))
  let Fs:Array Nat×List (List UInt8×HSeg)×Nat×(List UInt8->Option HSeg)->Env:=λx=>⟨[(7,.v (.pointer (some ⟨r,0,none⟩))),(0,.v (.map (some m)))],[],[ItR (some m2) r d.clock x.1,MapG TH ok32 m x.2.2.1 x.2.2.2],MapE m2 d.es d.clock,λ_=>True⟩
  refine c_weak (e':=Fs (#[],[],0,λ_=>none)) ⟨zE rfl, trivial, .refl _,λ_ h _=>h.1 m2 hmv, zU⟩ (s_loop (λx=>(leftOf d.es x.1).size) Fs (λx=>DidM TH ok32 d.es d.h x.1 x.2.1/\HasM x.2.2.2 x.2.1) ?_ (#[],[],0,λ_=>none) ⟨DidM.nil,HasM.nil⟩)
  rintro⟨seen,done,n,f⟩ ⟨hD,hB⟩
  dsimp only at hD hB
  refine zC rfl λK2 hK2=>?_;refine l_nextM hH hD (λ_ h=>eY_all h) eHs_all 0 rfl rfl rfl rfl rfl rfl (λ_ _ _ h=>h.fact) (λh0=>?_) λq v seen' hq hv hne hlt hl hD'=>?_
  ·refine zB rfl ?_
   refine zJ (hK2 _ (zM λK3 hK3=>?_));refine s_no rfl ?_;refine s_exit (zS (zS (k_out ?_)));refine k_drop 0 rfl ?_;exact zR zY n rfl (by decide) rfl rfl (by rw [hB.eq (λd hd=>(hD.in_ d hd).2) λk s h=>hD.all TH_ok hH h0 h];rfl) (λ_ _ _=>trivial) zU
  refine zB rfl (zJ (hK2 _ ?_));refine zM λK3 hK3=>?_;refine s_yes rfl ?_;refine zO (hK3 _ ?_);refine zN (zC rfl λK4 hK4=>?_);refine l_opV (.t [eY 32 q,eHs v]) (two_ok (eY_all hq) trivial) rfl rfl rfl (runO_entry hH 0 rfl hl (λ_ _ _ h=>h.fact) rfl rfl) ?_;refine zB rfl (zJ (hK4 _ ?_));refine s_lit (zB rfl ?_);refine l_updG TH_ok 1 rfl q v hq rfl rfl rfl rfl rfl rfl ?_;refine zJ ?_;exact(zX (seen',done++[(q,v)],_,putF f q v) ⟨hD',hB.put v hne⟩ hlt ⟨zE rfl, trivial, .refl _,λ_ h _=>h,λ_ h=>h⟩)
def isI:TypeDesc->Bool
  | .interface _=>true
  | _=>false
section
variable{P:Program}{a t ti:TypeId}{d:TypeDesc}{v z:Value}{w:World}
theorem assert_yes(hu:P.underlying a=some d)(hd:isI d=false):(lP (.iface a v) ti a true).run P w = .ok (.tuple #[v,.bool true]) w:=by
 simp only [lP,aG,run_underlying hu,aD]
 cases d<;>first|(simp;done)|cases hd
theorem assert_no(hu:P.underlying a=some d)(hd:isI d=false)(ht:t≠a)(hz:(P.info? a).map (·.zero)=some (some z)):(lP (.iface t v) ti a true).run P w = .ok (.tuple #[z,.bool false]) w:=by
 obtain⟨j,hj,hz'⟩:=Option.map_eq_some_iff.1 hz;simp only [lP,aG,run_underlying hu,aD]
 cases d<;>first|(simp [ht,zeroValue,typeInfo,hj,hz'];done)|cases hd
def ownM(P:Program)(t:TypeId)(name:String)(f:FuncId):Bool:=match P.info? t,P.underlying t with
  | some i,some d=>(match i.methods.find? (·.name==name) with
    | some m=>m.path.isEmpty&&(m.func==some (f,false)) && !(match d with | .pointer _=>true|_=>false)
    | none=>false)
  | _,_=>false
end
section
variable{N:Nat}{E:SE}{o:Oper}{x y:Operand}{t ti a t':TypeId}{d:TypeDesc}{q z:SQ}{v:Value}
theorem run_mkI(ho:o.op = .makeInterface t x)(hu:Tryz.prog.underlying t=some d)(hd:isI d=false)(hx:evS E x=some (.q q)) :
  ∀(G:Nat->Nat) (a:Act) (w:World),Fr N (denE G E) a->(execOp a.eval o).run Tryz.prog w = .ok (.value ((SV.v (.iface t q.den)).den G)) w:=λG a w ha=>by
 have h1:a.eval x=q.den:=ha.eval (evS_ok hx)
 unfold execOp
 simp only [ho,h1,Instr.makeInterface,aG,run_underlying hu,aD]
 cases d<;>first|rfl|cases hd
theorem run_asYes(ho:o.op = .typeAssert x ti a true)(hu:Tryz.prog.underlying a=some d)(hd:isI d=false)(hx:evS E x=some (.v (.iface a v)))(hv:v=q.den) :
  ∀(G:Nat->Nat) (ac:Act) (w:World),Fr N (denE G E) ac->(execOp ac.eval o).run Tryz.prog w = .ok (.value ((SV.t [q,.c (.v (.bool true))]).den G)) w:=λG ac w ha=>by
 have h1:ac.eval x = .iface a v:=ha.eval (evS_ok hx);subst hv
 unfold execOp
 simp only [ho,h1,assert_yes hu hd,aG,aD,aH]
 rfl
theorem run_asNo(ho:o.op = .typeAssert x ti a true)(hu:Tryz.prog.underlying a=some d)(hd:isI d=false)(hx:evS E x=some (.v (.iface t v)))(ht:t≠a)(hz:(Tryz.prog.info? a).map (·.zero)=some (some z.den)) :
  ∀(G:Nat->Nat) (ac:Act) (w:World),Fr N (denE G E) ac->(execOp ac.eval o).run Tryz.prog w = .ok (.value ((SV.t [z,.c (.v (.bool false))]).den G)) w:=λG ac w ha=>by
 have h1:ac.eval x = .iface t v:=ha.eval (evS_ok hx)
 unfold execOp
 simp only [ho,h1,assert_no hu hd ht hz,aG,aD,aH]
 rfl
theorem run_eqNilI(ms:Array (String×TypeId))(hu:Tryz.prog.underlying ti=some (.interface ms))(ho:o.op = .binOp .eql ti x (.const .nilIface) t')(hx:evS E x=some (.v (.iface t v))) :
  ∀(G:Nat->Nat) (ac:Act) (w:World),Fr N (denE G E) ac->(execOp ac.eval o).run Tryz.prog w = .ok (.value ((SV.v (.bool false)).den G)) w:=λG ac w ha=>by
 have h1:ac.eval x = .iface t v:=ha.eval (evS_ok hx)
 unfold execOp
 simp only [ho,h1]
 go_simp
 rfl
theorem run_eqNilN(ms:Array (String×TypeId))(hu:Tryz.prog.underlying ti=some (.interface ms))(ho:o.op = .binOp .eql ti x (.const .nilIface) t')(hx:evS E x=some (.v .nilIface)) :
  ∀(G:Nat->Nat) (ac:Act) (w:World),Fr N (denE G E) ac->(execOp ac.eval o).run Tryz.prog w = .ok (.value ((SV.v (.bool true)).den G)) w:=λG ac w ha=>by
 have h1:ac.eval x = .nilIface:=ha.eval (evS_ok hx)
 unfold execOp
 simp only [ho,h1]
 go_simp
 rfl
end
theorem run_method{P:Program}{t:TypeId}{v:Value}{name:String}{f:FuncId}{fuel:Nat}{w:World}(h:ownM P t name f=true):(method (fuel+1) t v name).run P w = .ok (f,v) w:=by
 unfold ownM at h
 cases hi:P.info? t with
 | none=>rw [hi] at h;cases h
 | some i =>
  cases hu:P.underlying t with
  | none=>rw [hi,hu] at h;cases h
  | some d =>
   rw [hi,hu] at h
   dsimp only at h
   cases hm:i.methods.find? (·.name==name) with
   | none=>rw [hm] at h;cases h
   | some m =>
    rw [hm] at h;simp only [aN,beq_iff_eq,Bool.not_eq_true',Array.isEmpty_iff] at h;obtain⟨⟨h1,h2⟩,h3⟩:=h
    have hti:∀w,(typeInfo t).run P w = .ok i w:=λw=>by simp [typeInfo,hi]
    have hrc:∀w wr,(receiverAt t (.val v) false wr).run P w = .ok v w:=λw wr=>by
     unfold receiverAt
     simp only [run_underlying hu,aG,aD]
     cases d<;>first|rfl|cases h3
    unfold method
    simp only [aG,hti,aD,hm];rw [h1];simp only [follow,aH,aD,h2,aG,hrc]
theorem run_callI{a:Act}{o:Oper}{f:FuncId}{x:Operand}{name:String}{xs:Array Operand}{ats:Array TypeId}{t:TypeId}{v:Value}(hf:Own f)(hm:ownM Tryz.prog t name f=true)(ho:o.op = .call { callee:=.invoke x name,args:=xs,argTypes:=ats })(hx:a.eval x = .iface t v)(w:World) :
  (execOp a.eval o).run Tryz.prog w = .ok (.enter f (#[v]++xs.map a.eval)) w:=by
 obtain⟨dst,op,ty,pos,af,gd⟩:=o;simp only at ho;subst ho;have h:=hf (#[v]++xs.map a.eval) w;have h2:∀fuel w,(method (fuel+1) t v name).run Tryz.prog w = .ok (f,v) w:=λfuel w=>run_method hm
 have e0:(#[pK t v]++xs.map a.eval)[0]?=some (.iface t v):=by
  rw [Array.getElem?_append_left (show 0<1 from Nat.zero_lt_one)]
  rfl
 have e1:(#[pK t v]++xs.map a.eval).extract 1 (#[pK t v]++xs.map a.eval).size=xs.map a.eval:=by
  apply Array.toList_inj.1
  rw [Array.toList_extract,dI,<-Array.length_toList,dI]
  show List.take (([pK t v]++(Array.map a.eval xs).toList).length-1) (Array.map a.eval xs).toList=_
  exact bG (by rw [aB,bB];omega)
 have h3:=λw=>h2 (Tryz.prog.types.size+99) w
 unfold execOp
 simp only [resolve,hx,aG,aH,aD]
 unfold invoke
 dsimp only
 rw [e0]
 dsimp only
 rw [e1]
 unfold callMethod
 dsimp only
 generalize Tryz.prog=P at *;simp only [aG,run_program,aD];rw [show P.types.size+Made.depth=P.types.size+99+1 from rfl,h3];exact h
section
variable{b:Base}{ops:Array Oper}{Q:Exit->Act->World->Prop}{N:Nat}{E:SE}{L:List LV}{R R' own:List Res}{F M F':World->Prop}{o:Oper}{rest:List Oper}{k:Nat}{α:Type}{post:Post α}{f:FuncId}{x:Operand}{name:String}{xs:Array Operand}{ats:Array TypeId}{svs:List SV}{t:TypeId}{v:Value}
theorem l_callI(args:List Value)(hg:o.guard=none)(hd:o.dst=some k)(hk:aQ k N=true)(hf:Own f)(ho:o.op = .call { callee:=.invoke x name,args:=xs,argTypes:=ats })(hx0:evS E x=some (.v (.iface t v)))(hm:ownM Tryz.prog t name f=true)(hx:evSs E xs.toList=some svs)
 (ha:∀G:Nat->Nat,(∀x∈L,∀g,x.g=some g->G x.j=g)->svs.map (SV.den G)=args)(hs:Spec f (v::args) own F' post)(hF:∀w,F w->M w->F' w)
 (hn:∀x,lS Tryz.prog b ops Q N rest ⟨(k,(post.ret x).sv)::E,L,post.own x++R',λw=>post.p x w/\F w,λw=>post.n x w/\M w⟩):lS Tryz.prog b ops Q N (o::rest) ⟨E,L,own++R',F,M⟩:=λa w ⟨G,S,h1,h2,h3⟩=>by
 have hr:=run_callI hf hm ho (show a.eval x = .iface t v from h1.eval (evS_ok hx0)) w;rw [map_eval (args:=(svs.map (SV.den G)).toArray) (h1.evals _ _ (by rw [evSs_ok hx])),ha G λx hx=>(h3.var x hx).2.2,show #[v]++args.toArray=(v::args).toArray by simp] at hr
 unfold wpList
 rw [if_pos (by simp [Region.wanted,hg])];refine .inl ?_
 unfold Oper.wp
 rw [hr];simp only [Oper.upon,hd];refine(h3.callA hs hF).mono ?_
 rintro e w' ⟨x,S',rfl,hok,h4⟩
 have h5:=h1.put hk (post.ret x).den;rw [<-RV.sv_den _ G] at h5;have h6:=hn x _ w' ⟨G,S',h5,h2.cons hok,h4⟩;rw [RV.sv_den] at h6;exact h6
end
end Go.Proofs.YtlhlkofpjhpaoaaGreatDoor
namespace Go.Proofs.YtlhlkofpjhpaoaaGreatDoor
open Nums
inductive PW where
  | empty
  | leaf (p:PairT)
  | inner (a b:PW)
  | hid (h:List UInt8)
namespace PW
def root:PW->List UInt8
  | empty=>dJ
  | leaf p=>g6 p
  | inner a b=>fF a.root b.root
  | hid h=>h
def bytes:PW->List UInt8
  | empty=>[0]
  | leaf p=>1::(p.1++p.2)
  | inner a b=>2::(a.bytes++b.bytes)
  | hid h=>3::h
def kind:PW->Nat
  | empty=>0
  | leaf _=>1
  | inner _ _=>2
  | hid _=>3
def find(k:List UInt8):Nat->PW->PW
  | d,inner a b=>if cK k d=0 then find k (d+1) a else find k (d+1) b
  | _,w=>w
def tell(k:List UInt8):PW->List UInt8×Bool×Bool
  | leaf p=>if p.1=k then(p.2,true,false) else(dJ,false,false)
  | hid _=>(dJ,false,true)
  | _=>(dJ,false,false)
def two:Nat->Nat->PairT->PairT->PW
  | 0,_,_,_=>empty
  | n+1,d,q,p=>if cK q.1 d=cK p.1 d then(if cK q.1 d=0 then inner (two n (d+1) q p) empty else inner empty (two n (d+1) q p)) else if cK q.1 d=0 then inner (leaf q) (leaf p) else inner (leaf p) (leaf q)
def put(p:PairT):Nat->PW->PW
  | _,empty=>leaf p
  | d,leaf q=>if q.1=p.1 then leaf p else two (256-d) d q p
  | d,inner a b=>if cK p.1 d=0 then inner (put p (d+1) a) b else inner a (put p (d+1) b)
  | _,hid h=>hid h
def bad(a b:PW):Bool:=(a.kind==0&&b.kind==0)||(a.kind==0&&b.kind==1)||(a.kind==1&&b.kind==0)
end PW
def Leads(way:List Nat)(k:List UInt8):Prop:=∀i,i<way.length->cK k i=way[i]!
instance(way:List Nat)(k:List UInt8):Decidable (Leads way k):=Nat.decidableBallLT way.length λi _=>cK k i=way[i]!
theorem Leads.more{way:List Nat}{k:List UInt8}{b:Nat}:Leads (way++[b]) k↔Leads way k/\cK k way.length=b:=by
 constructor
 ·intro h
  refine⟨λi hi=>?_,?_⟩
  ·have:=h i (by rw [aB];exact b9 hi (qD _ _))
   rw [this,getElem!_pos (way++[b]) _ (by rw [aB];exact b9 hi (qD _ _)),sD hi,getElem!_pos way i hi]
  ·have:=h way.length (by rw [aB];exact qC _)
   rw [this,getElem!_pos (way++[b]) _ (by rw [aB];exact qC _),rO (aF _)]
   simp
 ·rintro⟨h1,h2⟩ i hi
  rw [aB,bB] at hi
  by_cases e:i=way.length
  ·subst e
   rw [h2,getElem!_pos (way++[b]) _ (by rw [aB];exact qC _),rO (aF _)]
   simp
  ·have hi:i<way.length:=by omega
   rw [h1 i hi,getElem!_pos way i hi,getElem!_pos (way++[b]) _ (by rw [aB];exact b9 hi (qD _ _)),sD hi]
namespace PW
def Right:List Nat->PW->Prop
  | _,empty=>True
  | way,leaf p=>p.1.length=32/\p.2.length=32/\Leads way p.1
  | way,inner a b=>way.length<256/\Right (way++[0]) a/\Right (way++[1]) b/\bad a b=false
  | _,hid h=>h.length=32
def read:Nat->List Nat->List UInt8->Except Nat (PW×List UInt8)
  | _,_,[]=>.error 10
  | n,way,x::b =>
    if x=0 then .ok (empty,b)
    else if x=1 then(if b.length<64 then .error 10 else if Leads way (b.take 32) then .ok (leaf (b.take 32,(b.drop 32).take 32),b.drop 64) else .error 13)
    else if x=2 then(match n with
      | 0=>.error 13
      | n+1=>match read n (way++[0]) b with
        | .error e=>.error e
        | .ok (l,b1)=>match read n (way++[1]) b1 with
          | .error e=>.error e
          | .ok (r,b2)=>if bad l r then .error 13 else .ok (inner l r,b2))
    else if x=3 then(if b.length<32 then .error 10 else .ok (hid (b.take 32),b.drop 32))
    else .error 13
def parse(b:List UInt8):Except Nat PW:=match read 256 [] b with
  | .error e=>.error e
  | .ok (w,[])=>.ok w
  | .ok _=>.error 11
theorem read_ok:∀{n:Nat} {way:List Nat} {b:List UInt8} {w:PW} {rest:List UInt8},n+way.length=256->read n way b = .ok (w,rest)->Right way w/\b=w.bytes++rest
 | _,_,[],_,_,_,h=>by unfold read at h;cases h
 | n,way,x::b,w,rest,hn,h=>by
  unfold read at h
  by_cases h0:x=0
  ·rw [if_pos h0] at h
   injection h with h
   injection h with h1 h2
   subst h1 h2 h0;exact⟨trivial,rfl⟩
  rw [if_neg h0] at h
  by_cases h1:x=1
  ·rw [if_pos h1] at h
   by_cases hl:b.length<64
   ·rw [if_pos hl] at h;cases h
   rw [if_neg hl] at h
   by_cases hw:Leads way (b.take 32)
   ·rw [if_pos hw] at h
    injection h with h
    injection h with e1 e2
    subst e1 e2 h1;refine⟨⟨by rw [aU];omega,by rw [aU,List.length_drop];omega,hw⟩,?_⟩
    show _=1::(b.take 32++(b.drop 32).take 32)++b.drop 64
    rw [mS,a6,show b.drop 64=(b.drop 32).drop 32 by rw [List.drop_drop],cW,cW]
   ·rw [if_neg hw] at h;cases h
  rw [if_neg h1] at h
  by_cases h2:x=2
  ·rw [if_pos h2] at h
   cases n with
   | zero=>cases h
   | succ n =>
    dsimp only at h
    cases hr:read n (way++[0]) b with
    | error e=>rw [hr] at h;cases h
    | ok u =>
     obtain⟨l,b1⟩:=u;rw [hr] at h
     dsimp only at h
     cases hr2:read n (way++[1]) b1 with
     | error e=>rw [hr2] at h;cases h
     | ok u =>
      obtain⟨r,b2⟩:=u;rw [hr2] at h
      dsimp only at h
      obtain⟨k1,k2⟩:=read_ok (by rw [aB,bB];omega) hr;obtain⟨k3,k4⟩:=read_ok (by rw [aB,bB];omega) hr2
      by_cases hb:bad l r=true
      ·rw [if_pos hb] at h;cases h
      ·rw [if_neg hb] at h
       injection h with h
       injection h with e1 e2
       subst e1 e2 h2;refine⟨⟨by omega,k1,k3,by simpa using hb⟩,?_⟩;rw [k2,k4]
       show _=2::(l.bytes++r.bytes)++b2
       simp
  rw [if_neg h2] at h
  by_cases h3:x=3
  ·rw [if_pos h3] at h
   by_cases hl:b.length<32
   ·rw [if_pos hl] at h;cases h
   rw [if_neg hl] at h
   injection h with h
   injection h with e1 e2
   subst e1 e2 h3;refine⟨by show(b.take 32).length=32;rw [aU];omega,?_⟩
   show _=3::b.take 32++b.drop 32
   rw [mS,cW]
  ·rw [if_neg h3] at h;cases h
theorem read_right:∀{n:Nat} {way:List Nat} {w:PW} {rest:List UInt8},n+way.length=256->Right way w->read n way (w.bytes++rest) = .ok (w,rest)
 | n,way,empty,rest,_,_=>by
  show read n way (0::rest)=_
  unfold read
  rfl
 | n,way,leaf p,rest,_,⟨h1,h2,h3⟩=>by
  show read n way (1::(p.1++p.2++rest))=_
  have e1:(p.1++p.2++rest).take 32=p.1:=by rw [a6,jJ (by omega),bG (by omega)]
  have e2:(p.1++p.2++rest).drop 32=p.2++rest:=by rw [a6,jM (by omega),gW (by omega),gJ]
  have e3:(p.1++p.2++rest).drop 64=rest:=by rw [show(64:Nat)=32+32 from rfl,<-List.drop_drop,e2,jM (by omega),gW (by omega),gJ]
  have e4:(p.2++rest).take 32=p.2:=by rw [jJ (by omega),bG (by omega)]
  unfold read
  rw [if_neg (by decide),if_pos rfl,if_neg (by rw [aB,aB];omega),e1,e2,e3,e4,if_pos h3]
 | n,way,inner a b,rest,hn,⟨h1,h2,h3,h4⟩=>by
  show read n way (2::(a.bytes++b.bytes++rest))=_
  obtain⟨m,rfl⟩:∃m,n=m+1:=⟨n-1,by omega⟩
  unfold read
  rw [if_neg (by decide),if_neg (by decide),if_pos rfl]
  dsimp only
  rw [a6,read_right (by rw [aB,bB];omega) h2]
  dsimp only
  rw [read_right (by rw [aB,bB];omega) h3]
  dsimp only
  rw [if_neg (by rw [h4];decide)]
 | n,way,hid h,rest,_,h1=>by
  have h1:h.length=32:=h1
  show read n way (3::(h++rest))=_
  unfold read
  rw [if_neg (by decide),if_neg (by decide),if_neg (by decide),if_pos rfl,if_neg (by rw [aB];omega),jJ (by omega),bG (by omega),jM (by omega),gW (by omega),gJ]
theorem parse_bytes{w:PW}(h:Right [] w):parse w.bytes = .ok w:=by
 have:=read_right (rest:=[]) rfl h;rw [bT] at this
 unfold parse
 rw [this]
abbrev keyL(d:Nat)(ks:List (List UInt8)):List (List UInt8):=ks.filter λk=>cK k d==0
abbrev keyR(d:Nat)(ks:List (List UInt8)):List (List UInt8):=ks.filter λk=>cK k d != 0
def Of:Nat->List PairT->List (List UInt8)->PW->Prop
  | _,l,_,empty=>l=[]
  | _,l,_,leaf p=>l=[p]
  | d,l,ks,inner a b=>d<256/\2<=l.length/\Of (d+1) (bS d l) (keyL d ks) a/\Of (d+1) (bC d l) (keyR d ks) b
  | d,l,ks,hid h=>ks=[]/\l≠[]/\h=dX (256-d) l
theorem halves(d:Nat)(l:List PairT):(bS d l).length+(bC d l).length=l.length:=by
 unfold bS bC
 induction l with
 | nil=>rfl
 | cons x l ih =>
  by_cases h:cK x.1 d=0
  ·simp [h] at ih ⊢
   omega
  ·simp [h] at ih ⊢
   omega
theorem Of.root:∀{d:Nat} {l:List PairT} {ks:List (List UInt8)} {w:PW},Of d l ks w->w.root=dX (256-d) l
 | _,l,_,empty,h=>by
  have h:l=[]:=h;subst h;exact(kE _).symm
 | _,l,_,leaf p,h=>by
  have h:l=[p]:=h;subst h;exact(jA _ p).symm
 | d,l,_,inner a b,⟨h1,h2,h3,h4⟩=>by
  have e:256-d=(255-d)+1:=by omega
  rw [e,kW h2]
  show fF a.root b.root=_
  rw [h3.root,h4.root,show 255-(255-d)=d by omega,show 256-(d+1)=255-d by omega]
 | _,_,_,hid _,h=>h.2.2
theorem Of.right:∀{way:List Nat} {l:List PairT} {ks:List (List UInt8)} {w:PW},Of way.length l ks w->(∀p∈l,p.1.length=32/\p.2.length=32/\Leads way p.1)->Right way w
 | _,_,_,empty,_,_=>trivial
 | _,l,_,leaf p,h,hl=>hl p (by have h:l=[p]:=h;rw [h];exact aP)
 | way,l,_,inner a b,⟨h1,h2,h3,h4⟩,hl=>by
  have e:∀x:Nat,(way++[x]).length=way.length+1:=λx=>by rw [aB,bB]
  refine⟨h1,Of.right (by rw [e];exact h3) λp hp=>?_,Of.right (by rw [e];exact h4) λp hp=>?_,?_⟩
  ·obtain⟨k1,k2⟩:=fG.1 hp
   obtain⟨l1,l2,l3⟩:=hl p k1;exact⟨l1,l2,Leads.more.2 ⟨l3,k2⟩⟩
  ·obtain⟨k1,k2⟩:=eF.1 hp
   obtain⟨l1,l2,l3⟩:=hl p k1;have:=lA p.1 way.length;exact⟨l1,l2,Leads.more.2 ⟨l3,by omega⟩⟩
  ·have hs:=halves way.length l
   have hE:∀{d:Nat} {m:List PairT} {k:List (List UInt8)} {w:PW},Of d m k w->(w.kind=0->m.length=0)/\(w.kind=1->m.length=1):=λ{d m k w} h=>by
    cases w with
    | empty=>have h:m=[]:=h;subst h;exact⟨λ_=>rfl,λh=>(by cases h)⟩
    | leaf p=>have h:m=[p]:=h;subst h;exact⟨λh=>(by cases h),λ_=>rfl⟩
    | inner=>exact⟨λh=>(by cases h),λh=>(by cases h)⟩
    | hid=>exact⟨λh=>(by cases h),λh=>(by cases h)⟩
   have ha:=hE h3;have hb:=hE h4
   unfold bad
   generalize a.kind=x at *;generalize b.kind=y at *;simp only [Bool.or_eq_false_iff,Bool.and_eq_false_iff,beq_eq_false_iff_ne]
   omega
 | way,l,_,hid h,⟨_,h2,h3⟩,hl=>by
  show h.length=32
  rw [h3]
  cases l with
  | nil=>exact absurd rfl h2
  | cons p l =>
   cases l with
   | nil=>rw [jA];exact digest256_len _
   | cons q l =>
    generalize 256-way.length=r
    cases r with
    | zero=>rfl
    | succ r=>exact digest256_len _
theorem Of.tells:∀{d:Nat} {l:List PairT} {ks:List (List UInt8)} {w:PW} {k:List UInt8},Of d l ks w->k∈ks->cV l->tell k (find k d w)=(match nB l k with
  | some v=>(v,true,false)
  | none=>(dJ,false,false))
 | _,l,_,empty,k,h,_,_=>by
  have h:l=[]:=h;subst h
  rfl
 | _,l,_,leaf p,k,h,_,_=>by
  have h:l=[p]:=h;subst h
  show(if p.1=k then _ else _)=_
  by_cases e:p.1=k
  ·rw [if_pos e]
   subst e
   simp [nB]
  ·rw [if_neg e]
   simp [nB,e]
 | d,l,ks,inner a b,k,⟨h1,h2,h3,h4⟩,hk,hs=>by
  show tell k (if cK k d=0 then find k (d+1) a else find k (d+1) b)=_
  by_cases e:cK k d=0
  ·rw [if_pos e,h3.tells (List.mem_filter.2 ⟨hk,by simpa using e⟩) (hs.filter _)]
   have:nB (bS d l) k=nB l k:=by
    cases hg:nB l k with
    | some v=>exact(mA (hs.filter _)).2 (fG.2 ⟨(mA hs).1 hg,e⟩)
    | none=>exact mB.2 λq hq=>mB.1 hg q (fG.1 hq).1
   rw [this]
  ·rw [if_neg e,h4.tells (List.mem_filter.2 ⟨hk,by simpa using e⟩) (hs.filter _)]
   have:nB (bC d l) k=nB l k:=by
    cases hg:nB l k with
    | some v=>exact(mA (hs.filter _)).2 (eF.2 ⟨(mA hs).1 hg,e⟩)
    | none=>exact mB.2 λq hq=>mB.1 hg q (eF.1 hq).1
   rw [this]
 | _,_,ks,hid _,k,h,hk,_=>by
  rw [h.1] at hk
  cases hk
def cut:Nat->Nat->List PairT->List (List UInt8)->PW
  | _,_,[],_=>empty
  | _,d,p::l,[]=>hid (dX (256-d) (p::l))
  | _,_,[p],_::_=>leaf p
  | 0,_,_::_::_,_::_=>empty
  | n+1,d,p::q::l,k::ks=>inner (cut n (d+1) (bS d (p::q::l)) (keyL d (k::ks))) (cut n (d+1) (bC d (p::q::l)) (keyR d (k::ks)))
theorem cut_of:∀(n:Nat) {d:Nat} {l:List PairT} (ks:List (List UInt8)),n+d=256->cV l->gL l->dO d l->Of d l ks (cut n d l ks)
 | n,d,[],_,_,_,_,_=>by
  cases n<;>rfl
 | n,d,p::l,[],_,_,_,_=>by
  cases n<;>exact⟨rfl,by simp,rfl⟩
 | n,d,[p],k::ks,_,_,_,_=>by
  cases n<;>rfl
 | 0,d,p::q::l,k::ks,hn,hs,hk,hsh=>by
  obtain rfl:d=256:=by omega
  have:=hsh.one hs hk
  simp at this
 | n+1,d,p::q::l,k::ks,hn,hs,hk,hsh=>⟨by omega,by simp,cut_of n _ (by omega) (hs.filter _) (hk.filter _) hsh.left,cut_of n _ (by omega) (hs.filter _) (hk.filter _) hsh.right⟩
end PW
end Go.Proofs.YtlhlkofpjhpaoaaGreatDoor
namespace Go.Proofs.YtlhlkofpjhpaoaaGreatDoor
open Go.RowKit Go.IntWalk Nums
section
variable{α:Type}{fe:α->SQ}{l:List α}{P:Program}{T:List TyR}{b:Base}{ops:Array Oper}{Q:Exit->Act->World->Prop}{N:Nat}{E:SE}{L:List LV}{R:List Res}{F M:World->Prop}{o:Oper}{rest:List Oper}{k:Nat}{t e:TypeId}{x y z:Operand}{A:Option Addr}{lo c sz bs g:Nat}
theorem l_appZ{A2':(Nat->Nat)->Option Addr}{n c2:Nat}{u:SV}(hT:OkT P T)(i:Nat)(m:List α)(hg:o.guard=none)(hd:o.dst=some k)(hk:aQ k N=true)(ho:o.op = .call { callee:=.builtin .append,args:=#[x,y],argTypes:=#[t,t] })(hs:slS T t=some (e,sz,bs))(hx:evS E x=some (.v (.slice A n c)))(hy:evS E y=some u)(hu:∀G,u.den G = .slice (A2' G) m.length c2)
 (hi:R[i]?=some (OwnS lo e sz fe A c l))(hn:n=l.length)(hrd:∀G S w,View G S L R F M w->Rd sz fe (A2' G) c2 m w)(h0:0<sz)(hb:(l.length+m.length)*bs<=140737488355328)(hm:l.length+m.length<=9223372036854775807-64)(hlo:lo<=b.B.heap.size)
 (hc:∀A' c',lS P b ops Q N rest ⟨(k,.v (.slice A' (l++m).length c'))::E,L,R.set i (OwnS lo e sz fe A' c' (l++m)),F,M⟩):lS P b ops Q N (o::rest) ⟨E,L,R,F,M⟩:=λa w ⟨G,S,f1,f2,f3⟩=>by
 have hR:=hrd G S w f3.view;obtain⟨S1,h5,hput⟩:=f3.put hi;have e1:=f1.eval (evS_ok hx);have e2:=f1.eval (evS_ok hy);rw [hu G] at e2;generalize A2' G=A2 at *;subst hn
 have key:∃A' c' w' S',(Builtin.append_ #[t,t] o.type #[.slice A l.length c,.slice A2 m.length c2]).run P w = .ok (.slice A' (l++m).length c') w'/\Chg S1 w w'/\(OwnS lo e sz fe A' c' (l++m)).holds w' S'/\∀k,S' k->k<w.heap.size->S1 k:=by
  cases hA2:A2 with
  | none =>
   have hc2:=hR.2.2.1 hA2;have hml:m=[]:=List.eq_nil_of_length_eq_zero (by have:=hR.1;omega);subst hml;subst hc2;obtain⟨ht,ie,zz,hie,hz,hsz,hbs,hzs,_⟩:=slS_ok hT hs;have hr:=run_append_owned_none (P:=P) w lo t o.type e ie sz ht hie _ l.length (flatF fe l) h5.2.1;refine⟨A,c,w,S1,by rw [bT];exact hr,Chg.refl _ _,by rw [bT];exact h5,λ_ h _=>h⟩
  | some ad =>
   refine OwnS.grow hT (d:=c2) (ad:=ad) o.type hs h0 h5 hR.2.2.2.1 (λj v hj=>?_) hb hm (Nat.le_trans hlo f3.chg.size);have hlen:=flatF_len hR.2.2.2.1;have hjl:=(bA.1 hj).1
   have hml:0<m.length:=by
    rcases Nat.eq_zero_or_pos m.length with h|h
    ·rw [hlen,h,Nat.zero_mul] at hjl
     omega
    ·exact h
   obtain⟨bb,oo,e,_,hcell⟩:=hR.2.2.2.2 hml;rw [hA2] at e
   injection e with e
   subst e
   have hq:j/sz<m.length:=by
    rw [hlen] at hjl;exact Nat.div_lt_of_lt_mul (by rwa [Nat.mul_comm] at hjl)
   obtain⟨B,Z,h9,h10,_⟩:=flatF_split hR.2.2.2.1 (aK hq);have hmod:=Nat.div_add_mod j sz;have hlt:=Nat.mod_lt j h0;have hcl:=(hR.2.2.2.1 _ (List.getElem_mem hq)).2
   have hv:(fe m[j/sz]).cl[j%sz]?=some v:=by
    rw [h9,cG (by omega),h10,fV (by omega)] at hj
    rwa [show j-sz*(j/sz)=j%sz by omega] at hj
   have:=hcell (j/sz) _ (aK hq) (j%sz) v hv;rw [Addr.add_mid]
   rwa [bZ,hmod] at this
 obtain⟨A',c',w',S',hr,hch,ho',hS'⟩:=key;obtain⟨S'',h6⟩:=hput _ _ _ hch ho' hS'
 refine wpl_go (v:=.slice A' (l++m).length c') (w':=w') (oneS hg) (by
  unfold execOp
  simp only [ho,resolve,invoke,builtin,aG,aH,aD,List.map_toArray,List.map_cons,List.map_nil,e1,e2,SV.den,SQ.den,SC.den,hr]) ?_
 rw [hd];exact hc A' c' _ _ ⟨G,S'',f1.put hk _,f2.cons trivial,h6⟩
end
theorem rd_part{j off n:Nat}{l:List UInt8}{L:List LV}{R:List Res}{F M:World->Prop}(ps:List Pt)(hj:lookL L j=some ps)(hat:atP ps off=some (.agg n (By l).toArray))(hl:l.length=n)(hm:n<=9223372036854775807):∀G S w,View G S L R F M w->Rd 1 eB (some ⟨G j,off,none⟩) n l w:=λG S w hv=>by
 obtain⟨z,hz,rfl,hps⟩:=lookL_mem hj;have hb:=(hv.var z hz).1;have hok:=(hv.var z hz).2.1;rw [hps] at hb hok;obtain⟨_,A,Z,e,hA⟩:=atP_ok hok hat;have hr:=range_of hb e;rw [hA] at hr;refine⟨Nat.le_of_eq hl,hm,λh=>(by cases h),okF_B l,λ_=>⟨G z.j,off,rfl,hb.lt,λi x hi j v hj=>?_⟩⟩
 cases j with
 | zero =>
  have e:v = .int .u8 (x.toNat:Int):=(cR ((show(eB x).cl[0]?=some (.int .u8 (x.toNat:Int)) from rfl).symm.trans hj)).symm;obtain⟨h2,h3⟩:=bA.1 hi;have h4:=By_at? h2;rw [getElem!_pos l i h2,h3] at h4;have h5:=hr i (.int .u8 (x.toNat:Int)) (by simpa [Pt.cells] using h4);rw [e,Nat.one_mul,Nat.add_zero];exact h5
 | succ j =>
  have:(eB x).cl[j+1]?=none:=rfl;rw [this] at hj
  cases hj
structure ND where
  k:Nat
  key:List UInt8
  val:List UInt8
  l:Int
  r:Int
def At(ns:List ND):PW->Nat->Prop
  | .empty,n=>ns[n]?=some ⟨0,dJ,dJ, -1, -1⟩
  | .leaf p,n=>ns[n]?=some ⟨1,p.1,p.2, -1, -1⟩
  | .inner a b,n=>∃i j:Nat,ns[n]?=some ⟨2,dJ,dJ,i,j⟩/\At ns a i/\At ns b j
  | .hid h,n=>ns[n]?=some ⟨3,dJ,h, -1, -1⟩
def PW.Good:PW->Prop
  | .empty=>True
  | .leaf p=>OkT2 p
  | .inner a b=>Good a/\Good b
  | .hid h=>h.length=32
theorem PW.Right.good:∀{way:List Nat} {w:PW},PW.Right way w->w.Good
 | _,.empty,_=>trivial
 | _,.leaf _,h=>⟨h.1,h.2.1⟩
 | _,.inner _ _,h=>⟨h.2.1.good,h.2.2.1.good⟩
 | _,.hid _,h=>h
theorem PW.Good.root_len:∀{w:PW},w.Good->w.root.length=32
 | .empty,_=>rfl
 | .leaf _,_=>digest256_len _
 | .inner _ _,_=>digest256_len _
 | .hid _,h=>h
namespace PW
def ty:PW->TypeId
  | .empty=>154
  | .leaf _=>160
  | .inner _ _=>167
  | .hid _=>156
def val:PW->Value
  | .empty=>.iface 154 (SQ.p []).den
  | .leaf p=>.iface 160 (SQ.p [.agg 32 (By (g6 p)).toArray,.agg 32 (By p.1).toArray,.agg 32 (By p.2).toArray]).den
  | .inner a b=>.iface 167 (SQ.p [.agg 32 (By (fF a.root b.root)).toArray,.agg 2 #[a.val,b.val]]).den
  | .hid h=>.iface 156 (SQ.p [.agg 32 (By h).toArray]).den
def ps:PW->List Pt
  | .empty=>[]
  | .leaf p=>[.agg 32 (By (g6 p)).toArray,.agg 32 (By p.1).toArray,.agg 32 (By p.2).toArray]
  | .inner a b=>[.agg 32 (By (fF a.root b.root)).toArray,.agg 2 #[a.val,b.val]]
  | .hid h=>[.agg 32 (By h).toArray]
theorem val_eq(w:PW):w.val = .iface w.ty (SQ.p w.ps).den:=by cases w<;>rfl
theorem val_cells(w:PW):w.val.cells = #[w.val]:=by cases w<;>rfl
theorem val_one(w:PW):w.val.oneCell'=true:=by cases w<;>rfl
end PW
theorem agg_ok{l:List UInt8}(h:l.length=32):(Pt.agg 32 (By l).toArray).Ok:=(eY_ok h).1 _ (by simp [SQ.parts1,eY])
def sdW(a b:PW):List Pt:=[.agg 2 #[a.val,b.val]]
theorem sdW_ok(a b:PW):OkP (sdW a b):=λp hp=>by
 rw [aE.1 hp];refine⟨rfl,λv hv=>?_⟩
 rcases aL.1 hv with rfl|hv
 ·exact a.val_one
 ·rw [aE.1 hv]
  exact b.val_one
theorem PW.ps_ok{w:PW}(h:w.Good):OkP w.ps:=by
 cases w with
 | empty=>intro p hp;cases hp
 | leaf p =>
  intro x hx
  simp only [PW.ps,aL,lM,or_false] at hx
  rcases hx with rfl|rfl|rfl
  ·exact agg_ok (digest256_len _)
  ·exact agg_ok h.1
  ·exact agg_ok h.2
 | inner a b =>
  intro x hx
  rcases aL.1 hx with rfl|hx
  ·exact agg_ok (digest256_len _)
  ·exact sdW_ok a b x hx
 | hid l =>
  intro x hx
  rw [aE.1 hx];exact agg_ok h
theorem own_wbit:Own 84:=λ_ _=>by go_simp
theorem wbit_S{k:List UInt8}(hk:k.length=32)(n:Nat)(hn:n<256):Spec 84 [(eY 32 k).den,.int .u8 (n:Int)] [] (λ_=>True) (one (.v (.int .u8 ((cK k n:Nat):Int)))):=by
 refine zQ [eY 32 k,.c (.v (.int .u8 (n:Int)))] 14 Tryz.func84 rfl (by rw [Tryz.ntmps84];rfl) (two_ok (eY_ok hk).1 trivial) λb=>?_;refine zA rfl (zC rfl λK hK=>?_);refine l_num 6 ((n/8:Nat):Int) rfl (wrapB (by rw [Int.tdiv_eq_ediv_of_nonneg (by omega)];omega) (by omega) (by omega)) ?_;refine l_op (.a 2 (0+1*(n/8))) trivial rfl rfl rfl (runO_ixA (n/8) rfl Tryz.underlying45 rfl rfl rfl (by omega)) ?_;refine l_opV (.v (.int .u8 ((k[n/8]!).toNat:Int))) trivial rfl rfl rfl (runO_ldA _ rfl rfl rfl (row_at (by omega)) Tryz.underlying5 rfl) ?_;have hlt:=(k[n/8]!).toNat_lt;have hb:cK k n=(k[n/8]!).toNat/2^(7-n%8)%2:=rfl;generalize (k[n/8]!).toNat=v at *;refine zB rfl ?_;refine l_num 11 ((7-n%8:Nat):Int) rfl (wrapB (by rw [Int.tmod_eq_emod_of_nonneg (by omega)];omega) (by omega) (by omega)) ?_;refine l_op (.v (.int .u8 ((v/2^(7-n%8):Nat):Int))) trivial rfl rfl rfl (run_shr8 (by omega) rfl rfl rfl) ?_;have h2:v/2^(7-n%8)<256:=Nat.lt_of_le_of_lt (Nat.div_le_self _ _) hlt;generalize v/2^(7-n%8)=z at *;refine l_op (.v (.int .u8 (bits .and .u8 (z:Int) 1))) trivial rfl rfl rfl (run_and8 rfl rfl rfl) ?_;refine l_num 13 ((z%2:Nat):Int) rfl (low1T z h2) ?_;refine zB rfl (zJ (hK _ ?_));exact zP (zR zY () rfl (by decide) rfl (congrArg (λx:Nat=>RV.v (.int .u8 (x:Int))) hb) rfl (λ_ _ _=>trivial) zU)
def PW.rootF:PW->FuncId
  | .empty=>203
  | .leaf _=>207
  | .inner _ _=>209
  | .hid _=>205
theorem own_wroot(w:PW):Own w.rootF:=by
 cases w
 ·exact λ_ _=>by unfold PW.rootF;go_simp
 ·exact λ_ _=>by unfold PW.rootF;go_simp
 ·exact λ_ _=>by unfold PW.rootF;go_simp
 ·exact λ_ _=>by unfold PW.rootF;go_simp
theorem has_root(w:PW):ownM Tryz.prog w.ty "witan/witness.root" w.rootF=true:=by
 cases w
 ·show ownM Tryz.prog 154 "witan/witness.root" 203 = true
  kernel_rfl
 ·show ownM Tryz.prog 160 "witan/witness.root" 207 = true
  kernel_rfl
 ·show ownM Tryz.prog 167 "witan/witness.root" 209 = true
  kernel_rfl
 ·show ownM Tryz.prog 156 "witan/witness.root" 205 = true
  kernel_rfl
theorem wroot_S{w:PW}(h:w.Good):Spec w.rootF [(SQ.p w.ps).den] [] (λ_=>True) (one (.q (eY 32 w.root))):=by
 cases w with
 | empty =>
  refine zQ [.p []] 4 Tryz.func203 rfl (by rw [Tryz.ntmps203];rfl) (one_ok (PW.ps_ok h)) λb=>?_;refine zA rfl (zA rfl ?_);exact zP (zR zY () rfl (by decide) rfl rfl rfl (λ_ _ _=>trivial) zU)
 | leaf p =>
  refine zQ [.p (PW.leaf p).ps] 5 Tryz.func207 rfl (by rw [Tryz.ntmps207];rfl) (one_ok (PW.ps_ok h)) λb=>?_;refine zA rfl (zA rfl ?_);exact zP (zR zY () rfl (by decide) rfl rfl rfl (λ_ _ _=>trivial) zU)
 | inner a b =>
  refine zQ [.p (PW.inner a b).ps] 5 Tryz.func209 rfl (by rw [Tryz.ntmps209];rfl) (one_ok (PW.ps_ok h)) λb=>?_;refine zA rfl (zA rfl ?_);exact zP (zR zY () rfl (by decide) rfl rfl rfl (λ_ _ _=>trivial) zU)
 | hid l =>
  refine zQ [.p (PW.hid l).ps] 5 Tryz.func205 rfl (by rw [Tryz.ntmps205];rfl) (one_ok (PW.ps_ok h)) λb=>?_;refine zA rfl (zA rfl ?_);exact zP (zR zY () rfl (by decide) rfl rfl rfl (λ_ _ _=>trivial) zU)
end Go.Proofs.YtlhlkofpjhpaoaaGreatDoor
