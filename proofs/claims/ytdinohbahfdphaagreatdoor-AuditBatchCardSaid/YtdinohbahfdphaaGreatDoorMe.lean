import Derived.Test.YtdinohbahfdphaaGreatDoorMd
import Derived.Test.YtdinohbahfdphaaGreatDoorMc
import Derived.Test.YtdinohbahfdphaaGreatDoorMb
import Derived.Lib.AppendZeros
import Derived.Maps.OwnSet
import Derived.Maps.Keyed
import Derived.Carry
import Derived.Maps.RangeRun
import Derived.RangeFuncNested
import Derived.RangeFuncBound
import Derived.RangeFuncCalls
import Derived.RangeFuncLeaves
import Derived.OrdersIn
import Derived.DeepKeys4
set_option linter.defProp false
open Go.Proofs.Tryz
set_option maxRecDepth 100000
set_option maxHeartbeats 4000000
open Array renaming getElem?_eq_some_iff->bD,length_toList->bH,toList_append->dK,getElem?_toList->fL,toList_push->l9,mem_of_getElem?->nI,getElem?_modify->oY
open Bool renaming and_eq_true->aM
open False renaming elim->qR
open Go.Addr renaming add_mid->cM
open Go.Builtin renaming zeroCells->jW,len_->nE
open Go.ChangeMaps renaming setBlock->iB,heap_setBlock_same->pE
open Go.Exit renaming inBlock->kQ
open Go.Fence renaming wide->nB
open Go.Instr renaming lookup->iJ,findKey->mG,typeAssert->mL,checkKey->nV,mapUpdate->q9
open Go.IntKind renaming signed->oI,bits->qC,wrap_u32->qP,wrap->uH
open Go.Lib renaming hid->dV
open Go.MapKept renaming run_getObj_map->gC,run_setObj_map->sH
open Go.Next renaming value->l4
open Go.Oper renaming upon->eX,wp->fJ
open Go.Region renaming wanted->aQ
open Go.Result renaming andThen_ok->aC,andThen->gE,ok->mJ
open Go.Sem renaming run_bind->aG,run_pure->aI
open Go.Value renaming int->cK,bool->mH,iface->qK
open Go.World renaming size_alloc->dG,alloc_heap_new->uI
open Iff renaming rfl->g8
open List renaming length_append->aA,replicate->aB,mem_singleton->aE,mem_cons->aH,mem_cons_of_mem->aJ,getElem?_eq_getElem->aK,mem_cons_self->aL,getElem?_eq_some_iff->aP,append_assoc->aR,mem_map->aU,length_take->aV,size_toArray->aW,mem_of_getElem?->a8,append_nil->bB,length_singleton->bJ,take_of_length_le->bK,length_replicate->bM,mem_append->bO,map_append->bS,take_append_drop->bX,nil_append->cP,getElem?_map->cQ,length_drop->cT,drop_of_length_le->c8,take_length->dF,map_set->dO,not_mem_nil->fW,getElem?_of_mem->gP,take_append_of_le_length->gZ,getElem_mem->iA,mem_append_left->jA,mem_filter->jZ,length_filter_le->j9,drop_append_of_le_length->kP,mem_append_right->lB,length->lR,pairwise_map->pB,cons_append->qB,nodup_append->sF,getElem_append_right->sJ,getElem_append_left->s8
open List.Pairwise renaming nil->pC
open Nat renaming le_of_ble_eq_true->aD,le_refl->aF,zero_le->aN,blt->aT,zero_add->aX,mod_eq_of_lt->a7,le_trans->bP,lt_of_lt_of_le->bZ,lt_of_le_of_lt->c7,div_le_self->gG,le_of_eq->iU,lt_succ_self->kJ,add_le_add_right->kT,le_succ->qL,le_add_right->q7
open Option.some renaming injEq->a9,inj->bL
open Prod.mk renaming injEq->cI
open UInt8 renaming toNat_lt->dN
namespace Go.Proofs.YtdinohbahfdphaaGreatDoor
open Go.RowKit Go.IntWalk Nums
section
variable{b:Base}{ops:Array Oper}{Q:Exit->Act->World->Prop}{N:Nat}{G:Nat->Nat}{S:Nat->Prop}{E E':SE}{L L':List LV}{R:List Res}{F M:World->Prop}{w0:World}{Z:Act->Prop}{l l' rest:List Oper}{k:Nat}{f:FuncId}{svs:List SV}{r:RV}{o:Oper}{y:Code}
theorem l_P(hf:Own f)(hr:r.sv.Ok)(h:nextL ops N l E L=some (l',E',L',k,f,svs))(hs:∀G S w,View G S L' R F M w->Calls prog f (svs.map (SV.den G)).toArray w λe w'=>e = .returned r.den/\Below w.heap.size w w')(hn:lS prog b ops Q N l' ⟨(k,r.sv)::E',L',R,F,M⟩):lS prog b ops Q N l ⟨E,L,R,F,M⟩:=by
 unfold nextL at h;split at h
 .rename_i o l2 E2 L2 h2
  split at h
  .rename_i k2 f2 v2 h3;simp only [a9,cI] at h;obtain⟨rfl,rfl,rfl,rfl,rfl,rfl⟩:=h;obtain⟨hg,hd,hk,xs,ats,ho,hx⟩:=callB_ok h3;refine l_auto2 h2 λa w ⟨G,S,h1,h4,h5⟩=>?_;have hr':=call_run (w:=w) hf ho hx h1;unfold wpList;rw [if_pos (by simp [aQ,hg])];refine .inl ?_;unfold fJ;rw [hr'];simp only [eX,hd];refine(hs G S w h5.view).mono ?_;rintro e w' ⟨rfl,hb⟩;have h6:=h1.put hk r.den;rw [<-RV.sv_den _ G] at h6;have h7:=hn _ w' ⟨G,S,h6,h4.cons hr,h5.later hb⟩;rw [RV.sv_den] at h7;exact h7
  .cases h
 .cases h
def n_P(hst:StW b G S L R F M w0)(hf:Own f)(hr:r.sv.Ok)(h:nextN ops N L l E=some (l',E',k,f,svs))(hs:∀w,View G S L R F M w->Calls prog f (svs.map (SV.den G)).toArray w λe w'=>e = .returned r.den/\Below w.heap.size w w')(hn:nS prog ops N w0 Z G l' ((k,r.sv)::E')):nS prog ops N w0 Z G l E:=by
 unfold nextN at h;split at h
 .rename_i o l2 E2 h2
  split at h
  .rename_i k2 f2 v2 h3;simp only [a9,cI] at h;obtain⟨rfl,rfl,rfl,rfl,rfl⟩:=h;obtain⟨hg,hd,hk,xs,ats,ho,hx⟩:=callB_ok h3;refine n_auto2 hst h2 λhE=>f_call (v2.map (SV.den G)).toArray r.den hg hd hk hf (λw hw=>hs w (hst.later hw).view) ho (evSs_ok hx) ?_;have h:=hn (hE.cons hr);rw [denE,RV.sv_den] at h;exact h
  .cases h
 .cases h
end
instance:Pst Ta:=⟨λ_ _ h hb=>h.below hb⟩
instance pst_pt{P:Option Addr}{ls:List (List UInt8)}:Pst (λw=>PT w P ls):=⟨λ_ _ h hb=>h.later hb⟩
def own_spread:Own 101:=λ_ _=>by go_simp
def own_based:Own 102:=λ_ _=>by go_simp
def own_number:Own 130:=λ_ _=>by go_simp
def own_public:Own 59:=λ_ _=>by go_simp
def cop_64{d:List UInt8}(h:d.length=32):(cop z64 0 d).length=64:=by rw [cop_len (by rw [h];decide)];rfl
def halves(l:List UInt8):catP [.agg 32 (By (l.take 32)).toArray,.agg 32 (By (l.drop 32)).toArray]=catP [.agg 64 (By l).toArray]:=by apply Array.ext';simp [catP,Pt.cells,By,List.map_take,List.map_drop]
def two_okP{x y:Pt}(h:OkP [x])(h2:OkP [y]):OkP [x,y]:=λq hq=>by
 rcases aH.1 hq with rfl|hq
 .exact h _ aL
 .exact h2 q hq
def halves_ok{l:List UInt8}(h:l.length=64):OkP [.agg 32 (By (l.take 32)).toArray,.agg 32 (By (l.drop 32)).toArray]:=two_okP (eY_ok (by rw [aV,h];rfl)).1 (eY_ok (by rw [cT,h])).1
def sub2{x y:LV}{L:List LV}:∀z∈[x,y],z∈x::y::L:=λz hz=>by
 rcases aH.1 hz with rfl|hz
 .exact .head _
 .rw [aE.1 hz];exact .tail _ (.head _)
def inv2{b:Base}{N:Nat}{E:SE}{x y:LV}{L:List LV}{R:List Res}{F M:World->Prop}(hx:x.g.isSome=true)(hy:y.g.isSome=true):∀a w,St b N ⟨E,x::y::L,R,F,M⟩ a w->InvL [x,y] w:=inv_of λz hz=>⟨sub2 z hz,by
 rcases aH.1 hz with rfl|hz
 .exact hx
 .rw [aE.1 hz];exact hy⟩
theorem spread_C{seed:List UInt8}(hs:seed.length=32):Ct Tsh 101 [eY 32 seed] (one (.t [eS (le (kV seed)%LL),eY 32 (pO seed)])):=⟨own_spread,by
 have hD:=pI seed;have hd:((sgD seed).take 32).length=32:=by rw [aV,hD];rfl
 refine zQ [eY 32 seed] 26 func101 rfl (by rw [ntmps101];rfl) (one_ok (eY_ok hs).1) λB=>?_;refine zA rfl (s_reg λK hK=>l_auto2 rfl ?_);refine l_dig zY [.s 1 0 32 32] [seed] (sgD seed) rfl rfl rfl rfl rfl rfl rfl rfl rfl own_sum512 (λ_=>rfl) rfl (by decide) (by decide) hD (λA w hp hF _=>by
  have h:=sum512_f A [seed] 1 w hF hp (aD rfl) (aD rfl)
  rwa [List.flatten_cons,List.flatten_nil,bB] at h) (λG S w hv=>⟨sb_var rfl hs (by decide) G S w hv,trivial⟩) λA=>l_N hK rfl ?_
 refine zA rfl ?_;refine s_N 2 [] (by kernel_rfl) λK hK G S w0 hst=>n_L hst rfl ?_;obtain⟨D,eD⟩:∃D,D=(sgD seed).take 32:=⟨_,rfl⟩;rw [<-eD] at hd;refine l_copyW (z:=z64) (ps:=[.agg 64 (By (sgD seed)).toArray]) D rfl rfl rfl rfl rfl rfl rfl rfl ?_ rfl hd (iU hd) (by rw [hd];exact aD rfl) (l_E rfl (hK _ ?_))
 .rw [hd,eD];exact src_one 0 32
 have x0:=(D[0]!).toNat_lt;refine s_reg λK hK=>?_;refine l_cell rfl arr64 (aD rfl) _ (By_get (l:=cop z64 0 D) (j:=0) (by rw [cop_64 hd];exact aD rfl)) ?_;refine l_auto2 rfl ?_;refine l_put rfl arr64 (aD rfl) [.agg 64 (By (cop z64 0 (mP D))).toArray] (eY_ok (cop_64 (by rw [n7,hd]))).1 ?_ ?_ (l_N hK rfl ?_)
 .show _<(By (cop z64 0 D)).toArray.size;rw [aW,By_len,cop_64 hd];exact aD rfl
 .show By (cop z64 0 (mP D))=(By (cop z64 0 D)).set 0 (.int .u8 (bits .and .u8 ((cop z64 0 D)[0]!.toNat:Int) 248));rw [cop_get hd (by decide),and248 _ x0,mP,<-cop_set hd (by decide),By,By,dO,ofNat_toNat (by omega)]
 have hl:(mP D).length=32:=by rw [n7,hd]
 have x1:=((mP D)[31]!).toNat_lt;refine s_reg λK hK=>?_;refine l_cell rfl arr64 (aD rfl) _ (By_get (l:=cop z64 0 (mP D)) (j:=31) (by rw [cop_64 hl];exact aD rfl)) ?_;refine l_auto2 rfl ?_;refine l_put rfl arr64 (aD rfl) [.agg 64 (By (cop z64 0 (qG (mP D)))).toArray] (eY_ok (cop_64 (by rw [rU,hl]))).1 ?_ ?_ (l_N hK rfl ?_)
 .show _<(By (cop z64 0 (mP D))).toArray.size;rw [aW,By_len,cop_64 hl];exact aD rfl
 .show By (cop z64 0 (qG (mP D)))=(By (cop z64 0 (mP D))).set 31 (.int .u8 (bits .or .u8 (bits .and .u8 ((cop z64 0 (mP D))[31]!.toNat:Int) 127) 64));rw [cop_get hl (by decide),low7 _ x1,or64 _ x1,qG,<-cop_set hl (by decide),By,By,dO,ofNat_toNat (by omega)]
 have eL5:(some ⟨5,none,67,[.agg 64 (By (cop z64 0 (qG (mP D)))).toArray]⟩:Option LV)=some ⟨5,none,67,[.agg 64 (By (cop z64 0 (kV seed))).toArray]⟩:=by rw [eD];rfl
 refine c_weak (e':=⟨[(5,.a 5 0),(4,.a 4 0),(3,.a 3 0),(2,.a 2 0)],[⟨5,none,67,[.agg 64 (By (cop z64 0 (kV seed))).toArray]⟩,⟨4,none,67,[.agg 64 (By (sgD seed)).toArray]⟩,⟨3,none,47,[.agg 32 (By (aB 32 0)).toArray]⟩,⟨2,none,188,[.agg 4 (Us [0,0,0,0]).toArray]⟩],[],Tsh,λ_=>True⟩) ⟨zE rfl, ⟨eL5,rfl,rfl,rfl,rfl,rfl,rfl,rfl,trivial⟩,.refl _,λ_ h _=>h,λ_ h=>h⟩ ?_;refine s_ps 4 [.agg 32 (By ((sgD seed).take 32)).toArray,.agg 32 (By (pO seed)).toArray] rfl (halves (sgD seed)) (halves_ok hD) ?_;refine s_locs λG=>?_;refine zM λK hK=>?_;refine s_anyP [0,2,3,4] 6 1 (InvL [⟨5,some (G 5),67,[.agg 64 (By (cop z64 0 (kV seed))).toArray]⟩,⟨4,some (G 4),67,[.agg 32 (By ((sgD seed).take 32)).toArray,.agg 32 (By (pO seed)).toArray]⟩]) (by kernel_rfl) rfl (inv2 rfl rfl) ?_;refine p_front zY 0 (by kernel_rfl) rfl rfl rfl rfl rfl rfl sub2 ?_;refine p_frontO (.s 4 32 32 32) trivial 2 (by kernel_rfl) rfl rfl rfl rfl rfl (moreS_ok rfl).2 ?_;refine p_frontO (.a 4 32) trivial 3 (by kernel_rfl) rfl rfl rfl rfl rfl (moreS_ok rfl).2 ?_;refine p_front zY 4 (by kernel_rfl) rfl rfl rfl rfl rfl rfl sub2 ?_;refine p_step 1 (by kernel_rfl) rfl λK2 hK2=>l_X (wide_C (cop_64 (rV seed))) (λ_=>rfl) rfl λ_=>l_E rfl (hK2 _ (inv2 rfl rfl) ?_);refine p_step 5 (by kernel_rfl) rfl λK2 hK2=>l_E rfl (hK2 _ (inv2 rfl rfl) ?_);refine p_tail [6] (by kernel_rfl) rfl (l_E rfl (hK _ (zP ?_)));have e:le (cop z64 0 (kV seed))=le (kV seed):=(cop_half (rV seed)).2;rw [e];exact zR zY () rfl (by decide) rfl rfl rfl (λ_ _ _=>trivial) λ_ _=>trivial⟩
def based_C{n:Nat}(hn:n<LL):Ct Tw 102 [eS n] (one (.q (eY 32 (fQ (Ed.mul dd n base))))):=⟨own_based,by refine zQ [eS n] 8 func102 rfl (by rw [ntmps102];rfl) (one_ok (eS_ok n)) λB=>?_;refine zA rfl ?_;refine s_N 5 [] (by kernel_rfl) λK hK G S w0 hst=>?_;refine n_X hst base_C rfl λ⟨P,h,hP⟩=>n_X hst schash_C rfl λ_=>n_X hst (pmul_C (.inr h) hP (cW 32 n)) rfl λ⟨P,h,hP⟩=>?_;rw [mX hn] at h;refine n_X hst (phash_C h hP) rfl λ_=>n_N hst rfl hK rfl (zP ?_);exact zR zY () rfl (by decide) rfl rfl rfl (λ_ _ _=>trivial) λ_ _=>trivial⟩
def public_C{seed:List UInt8}(hs:seed.length=32):Ct Ta 59 [eY 32 seed] (one (.q (eY 32 (gK seed)))):=⟨own_public,by refine zQ [eY 32 seed] 12 func59 rfl (by rw [ntmps59];rfl) (one_ok (eY_ok hs).1) λB=>?_;refine zA rfl (s_reg λK hK=>l_X ((spread_C hs).imp λ_ h=>h.sh) (λ_=>rfl) rfl λ_=>l_N hK rfl (s_reg λK hK=>l_X ((based_C (jL (le (kV seed)))).imp λ_ h=>h.tw) (λ_=>rfl) rfl λ_=>l_N hK rfl (zP ?_)));rw [mul_a];exact zR zY () rfl (by decide) rfl rfl rfl (λ_ _ _=>trivial) λ_ _=>trivial⟩
def own_sign:Own 99:=λ_ _=>by go_simp
def own_verify:Own 103:=λ_ _=>by go_simp
def sb_varA{L:List LV}{R:List Res}{F M:World->Prop}{j n off m c:Nat}{l z:List UInt8}{G:Nat->Nat}{S:Nat->Prop}{w:World}(hv:View G S L R F M w)(hj:lookL L j=some [.agg n (By z).toArray])(hz:(z.drop off).take m=l)(hl:l.length=m)(hc:m<=c)(hm:c<=9223372036854775807):SB w ((SV.s j off m c).den G) l:=by obtain⟨u,hu,rfl,hps⟩:=lookL_mem hj;have hb:=(hv.var u hu).1;rw [hps] at hb;exact SB.arr hb hz hl hc hm
def sb_none{w:World}:SB w (.slice none 0 0) []:=⟨none,0,rfl,aF _,aN _,λ_=>rfl,λh=>absurd h (Nat.lt_irrefl 0)⟩
def number_R{v1 v2:Value}{l1 l2:List UInt8}{P:Option Addr}{ls:List (List UInt8)}{pc n:Nat}{w:World}(hn:le (dB eC (l1++(l2++ls.flatten)))%LL=n)(hT:Ta w)(hP:PT w P ls)(h0:P=none->pc=0)(hls:ls.length<=1000000)(h1:SB w v1 l1)(h2:SB w v2 l2) :
  Calls prog 130 #[v1,v2,.slice P ls.length pc] w λe w'=>e = .returned (RV.q (eS n)).den/\Below w.heap.size w w':=by
 have h:=number_f w hT.sh h1 h2 hP h0 hls;rw [hn] at h;exact h
def basedA_C(seed:List UInt8):Ct Tw 102 [eS (le (kV seed)%LL)] (one (.q (eY 32 (gK seed)))):=by have h:=based_C (jL (le (kV seed)));rw [mul_a] at h;exact h
def hashS_C{F:World->Prop}(seed m:List UInt8):Ct F 133 [eS ((sgR seed m+sgK (oP seed m) (gK seed) m*(le (kV seed)%LL)%LL)%LL)] (one (.q (eY 32 (Nums.bytes 32 (sgS seed m))))):=by rw [sgS_eq];exact schash_C
theorem sign_C{seed:List UInt8}{P:Option Addr}{ls:List (List UInt8)}{pc:Nat}(hs:seed.length=32)(h0:P=none->pc=0)(hls:ls.length<=1000000):Ct (λw=>Ta w/\PT w P ls) 99 [eY 32 seed,.c (.v (.slice P ls.length pc))] (one (.q (eY 64 (kL seed ls.flatten)))):=⟨own_sign,by have hp:=tV seed;have hR:=kM seed ls.flatten;have hk:=oQ seed;refine zQ [eY 32 seed,.c (.v (.slice P ls.length pc))] 42 func99 rfl (by rw [ntmps99];rfl) (two_ok (eY_ok hs).1 trivial) λB=>?_;refine zA rfl (s_reg λK hK=>l_X ((spread_C hs).imp λ_ h=>h.1.sh) (λ_=>rfl) rfl λ_=>l_N hK rfl (s_reg λK hK=>l_P (r:=.q (eS (sgR seed ls.flatten))) own_number (eS_ok _) rfl (λG S w hv=>number_R sgR_eq hv.fact.1 hv.fact.2 h0 hls (sb_varA hv rfl (all32 hp) hp (aF _) (aD rfl)) sb_none) (l_N hK rfl ?_)));refine s_N 4 [(8,47),(9,47)] (by kernel_rfl) λK hK G S w0 hst=>n_X hst ((based_C (sgR_lt _ _)).imp λ_ h=>h.1.tw) rfl λ_=>n_X hst ((basedA_C seed).imp λ_ h=>h.1.tw) rfl λ_=>n_N hst rfl hK rfl ?_;refine s_N 4 [(10,188)] (by kernel_rfl) λK hK G S w0 hst=>n_P hst (r:=.q (eS (sgK (oP seed ls.flatten) (gK seed) ls.flatten))) own_number (eS_ok _) rfl (λw hv=>number_R sgK_eq hv.fact.1 hv.fact.2 h0 hls (sb_varA hv rfl (all32 hR) hR (aF _) (aD rfl)) (sb_varA hv rfl (all32 hk) hk (aF _) (aD rfl))) (n_N hst rfl hK rfl ?_);refine s_N 6 [(11,47)] (by kernel_rfl) λK hK G S w0 hst=>n_X hst (scmul_C (sgK_lt _ _ _) (jL (le (kV seed)))) rfl λ_=>n_X hst (scadd_C (sgR_lt _ _) (jL _)) rfl λ_=>n_X hst (hashS_C seed ls.flatten) rfl λ_=>n_N hst rfl hK rfl ?_;refine zA rfl ?_;refine s_N 2 [] (by kernel_rfl) λK hK G S w0 hst=>n_L hst rfl ?_;refine l_copyW (z:=z64) (ps:=[.agg 32 (By (oP seed ls.flatten)).toArray]) (oP seed ls.flatten) rfl rfl rfl rfl rfl rfl rfl rfl ((src_one 0 _).trans (congrArg By (all32 rfl))) rfl hR (iU hR) (by rw [hR];exact aD rfl) (l_E rfl (hK _ ?_));refine s_N 2 [] (by kernel_rfl) λK hK G S w0 hst=>n_L hst rfl ?_;refine l_copyW (z:=cop z64 0 (oP seed ls.flatten)) (ps:=[.agg 32 (By (Nums.bytes 32 (sgS seed ls.flatten))).toArray]) (Nums.bytes 32 (sgS seed ls.flatten)) rfl rfl rfl rfl rfl rfl rfl rfl ((src_one 0 _).trans (congrArg By (all32 rfl))) (cop_64 hR) (cW _ _) (iU (cW _ _)) (by rw [cW];exact aD rfl) (l_E rfl (hK _ ?_));rw [sig_cop];refine zA rfl (zP ?_);exact zR zY () rfl (by decide) rfl rfl rfl (λ_ _ _=>trivial) λ_ _=>trivial⟩
section
variable{F:World->Prop}{b:List UInt8}[Pst F]
def scnewY(hb:b.length=32)(h:le b<LL):Ct F 141 [eY 32 b] (one (.t [eS (le b),.c (.v (.bool true))])):=by
 have h2:=scnew_C (F:=F) hb
 rwa [if_pos h,decide_eq_true h] at h2
def scnewN(hb:b.length=32)(h:¬le b<LL):Ct F 141 [eY 32 b] (one (.t [eS 0,.c (.v (.bool false))])):=by
 have h2:=scnew_C (F:=F) hb
 rwa [if_neg h,decide_eq_false h] at h2
end
theorem verify_C{key sig:List UInt8}{P:Option Addr}{ls:List (List UInt8)}{pc:Nat}(hk:key.length=32)(hs:sig.length=64)(h0:P=none->pc=0)(hls:ls.length<=1000000):Ct (λw=>Ta w/\PT w P ls) 103 [eY 32 key,eY 64 sig,.c (.v (.slice P ls.length pc))] (one (.q (.c (.b (rightB key sig ls.flatten))))):=⟨own_verify,by
 have hR:(sig.take 32).length=32:=by rw [aV,hs];rfl
 have hS:(sig.drop 32).length=32:=by rw [cT,hs]
 refine zQ [eY 32 key,eY 64 sig,.c (.v (.slice P ls.length pc))] 50 func103 rfl (by rw [ntmps103];rfl) (λu hu=>by
  rcases aH.1 hu with rfl|hu
  .exact(eY_ok hk).1
  .exact two_ok (v:=eY 64 sig) (v2:=.c (.v (.slice P ls.length pc))) (eY_ok hs).1 trivial u hu) λB=>?_
 have hno:rightB key sig ls.flatten=false->∀e,Weak e ⟨[(6,.v (.bool false))],[],[],λ_=>True,λ_=>True⟩->kS B (bodyPost prog Tryz.f103 (endS B (one (.q (.c (.b (rightB key sig ls.flatten)))))) .ret) 50 e:=λh e he=>k_weak he (k_retD zY () rfl (by decide) rfl (by rw [h];rfl) trivial rfl (λ_ _ _=>trivial) λ_ _=>trivial);refine zA rfl (s_ps 4 [.agg 32 (By (sig.take 32)).toArray,.agg 32 (By (sig.drop 32)).toArray] rfl (halves sig) (halves_ok hs) (s_reg λK hK=>l_X ((decode_C hk).imp λ_ h=>h.1.tw) (λ_=>rfl) rfl λ⟨P',e,ok⟩=>l_N hK rfl (zM λK0 hK0=>?_)));rcases ok with⟨A,hq,hP',rfl,rfl⟩|⟨hn,rfl,rfl⟩
 .refine s_reg λK hK=>l_auto2 rfl (l_is 20 false rfl rfl ?_)
  refine zB rfl (l_X ((small_C (.inr hq) hP').imp λ_ h=>h.1.tw) (λ_=>rfl) rfl λ_=>l_N hK rfl ?_);refine zW (fQ (Ed.mul dd 8 A)=fQ Ed.zero) rfl (λh8=>?_) (λh8=>zO (hK0 _ ?_))
  .refine zA rfl (zP (hno (rightB_small hq.on ((small_dec hq.on).1 h8)) _ ⟨⟨rfl,trivial⟩,trivial,.refl _,λ_ _ _=>trivial, zU⟩))
  by_cases h1:le (sig.drop 32)<LL
  .refine s_reg λK hK=>l_X (scnewY hS h1) (λ_=>rfl) rfl λ_=>l_N hK rfl ?_;refine zM λK0 hK0=>zA rfl (s_no rfl (zO (hK0 _ (s_reg λK hK=>l_N hK rfl ?_))));refine s_N 4 [(12,188)] (by kernel_rfl) λK hK G S w0 hst=>n_P hst (r:=.q (eS (sgK (sig.take 32) (fQ A) ls.flatten))) own_number (eS_ok _) rfl (λw hv=>number_R sgK_eq hv.fact.1 hv.fact.2 h0 hls (sb_varA hv rfl (all32 hR) hR (aF _) (aD rfl)) (sb_varA hv rfl (all32 hk) hk (aF _) (aD rfl))) (n_N hst rfl hK rfl ?_);refine s_N 10 [] (by kernel_rfl) λK hK G S w0 hst=>?_;refine n_X hst schash_C rfl λ_=>n_X hst ((neg_C (.inr hq) hP').imp λ_ h=>h.1.tw) rfl λ⟨P2,hq2,hP2⟩=>n_X hst schash_C rfl λ_=>n_X hst ((both_C (cW 32 _) (.inr hq2) hP2 (cW 32 _)).imp λ_ h=>h.1.tw) rfl λ⟨P3,h3,hP3⟩=>n_X hst ((phash_C h3 hP3).imp λ_ h=>h.1.tw) rfl λ_=>n_auto2 hst rfl ?_;refine n_op hst (.b (decide (fQ (Ed.add dd (Ed.mul dd (le (Nums.bytes 32 (le (sig.drop 32)))) base) (Ed.mul dd (le (Nums.bytes 32 (sgK (sig.take 32) (fQ A) ls.flatten))) (Ed.neg A)))=sig.take 32))) trivial rfl rfl rfl (run_eqY rfl rfl rfl underlying47 (by kernel_rfl) (kO _) hR) ?_;refine n_N hst rfl hK rfl (zP ?_);exact k_retD zY () rfl (by decide) rfl (congrArg mH (rightB_is hq.on (λh=>h8 ((small_dec hq.on).2 h)) h1)) trivial rfl (λ_ _ _=>trivial) λ_ _=>trivial
  .refine s_reg λK hK=>l_X (scnewN hS h1) (λ_=>rfl) rfl λ_=>l_N hK rfl ?_;refine zM λK0 hK0=>zA rfl (s_yes rfl ?_);exact zA rfl (zP (hno (rightB_great h1) _ ⟨⟨rfl,trivial⟩,trivial,.refl _,λ_ _ _=>trivial, zU⟩))
 .refine s_reg λK hK=>l_auto2 rfl (l_is 20 true rfl rfl (l_skips rfl (l_N hK rfl ?_)));refine s_yes rfl (zA rfl (zP (hno (rightB_no hn) _ ⟨⟨rfl,trivial⟩,trivial,.refl _,λ_ _ _=>trivial, zU⟩)))⟩
def public_S{seed:List UInt8}(hs:seed.length=32):Spec 59 [.agg (By seed).toArray] [] Ta (one (.q (eY 32 (gK seed)))):=(public_C hs).spec
def signed_S{A:Option Addr}{c:Nat}{b:List UInt8}(t:UInt8)(hb:b.length<=140737488355312):Spec 100 [.int .u8 (t.toNat:Int),.slice A b.length c] [] (λw=>Rd 1 eB A c b w) (madeN (msg t b)):=Spec.made λw h=>signed_M t w h.sb hb
def flat_one(x:List UInt8):[x].flatten=x:=by simp
section
variable{A:Option Addr}{c:Nat}{b:List UInt8}(t:UInt8)
theorem seal_S{seed:List UInt8}(hs:seed.length=32)(hb:b.length<=140737488355312):Spec 57 [.agg (By seed).toArray,.int .u8 (t.toNat:Int),.slice A b.length c] [] (λw=>Ta w/\Rd 1 eB A c b w) (one (.q (eY 64 (kL seed (msg t b))))):=by refine zQ [eY 32 seed,.c (.v (.int .u8 (t.toNat:Int))),.c (.v (.slice A b.length c))] 13 func57 rfl (by rw [ntmps57];rfl) (more_ok (eY_ok hs).1 (two_ok trivial trivial)) λB=>?_;refine zA rfl ?_;refine s_regH 6 (by decide) (by kernel_rfl) (by kernel_rfl) λK hK G S w0 hst=>?_;refine zV hst rfl ?_;refine h_callE (F':=λw=>Rd 1 eB A c b w) hst [.int .u8 (t.toNat:Int),.slice A b.length c] rfl rfl rfl rfl (λ_ _=>by go_simp) rfl rfl (λ_=>rfl) (signed_S t hb).p1 (λw hw _=>hw.fact.2) λg _=>?_;refine h_parts [.slice (some ⟨g,0,none⟩) (msg t b).length (msg t b).length] [msg t b] hst rfl rfl rfl rfl rfl rfl rfl (by decide) (by decide) (λw _ hu=>⟨(madeP_rd (hu 3 _ rfl (by kernel_rfl))).sb,trivial⟩) λg2=>?_;have hsg:=(sign_C (P:=some ⟨g2,0,none⟩) (ls:=[msg t b]) (pc:=1) hs (λh=>by cases h) (aD rfl)).spec;rw [flat_one] at hsg;refine h_callE (F':=λw=>Ta w/\PT w (some ⟨g2,0,none⟩) [msg t b]) hst [.agg (By seed).toArray,.slice (some ⟨g2,0,none⟩) 1 1] rfl rfl rfl rfl own_sign rfl rfl (λ_=>rfl) hsg (λw hw hu=>⟨hw.fact.1,hu 4 _ rfl (by kernel_rfl)⟩) λ_ _=>?_;refine h_end hst (l_E rfl (hK _ (zP ?_)));exact zR zY () rfl (by decide) rfl rfl rfl (λ_ _ _=>trivial) λ_ _=>trivial
theorem owned_S{key sig:List UInt8}(hk:key.length=32)(hs:sig.length=64)(hb:b.length<=140737488355312):Spec 60 [.agg (By key).toArray,.int .u8 (t.toNat:Int),.slice A b.length c,.agg (By sig).toArray] [] (λw=>Ta w/\Rd 1 eB A c b w) (one (.q (.c (.b (rightB key sig (msg t b)))))):=by refine zQ [eY 32 key,.c (.v (.int .u8 (t.toNat:Int))),.c (.v (.slice A b.length c)),eY 64 sig] 16 func60 rfl (by rw [ntmps60];rfl) (more_ok (eY_ok hk).1 (more_ok trivial (two_ok trivial (eY_ok hs).1))) λB=>?_;refine zA rfl ?_;refine s_regH 7 (by decide) (by kernel_rfl) (by kernel_rfl) λK hK G S w0 hst=>?_;refine zV hst rfl ?_;refine h_callE (F':=λw=>Rd 1 eB A c b w) hst [.int .u8 (t.toNat:Int),.slice A b.length c] rfl rfl rfl rfl (λ_ _=>by go_simp) rfl rfl (λ_=>rfl) (signed_S t hb).p1 (λw hw _=>hw.fact.2) λg _=>?_;refine h_parts [.slice (some ⟨g,0,none⟩) (msg t b).length (msg t b).length] [msg t b] hst rfl rfl rfl rfl rfl rfl rfl (by decide) (by decide) (λw _ hu=>⟨(madeP_rd (hu 4 _ rfl (by kernel_rfl))).sb,trivial⟩) λg2=>?_;have hsg:=(verify_C (P:=some ⟨g2,0,none⟩) (ls:=[msg t b]) (pc:=1) hk hs (λh=>by cases h) (aD rfl)).spec;rw [flat_one] at hsg;refine h_callE (F':=λw=>Ta w/\PT w (some ⟨g2,0,none⟩) [msg t b]) hst [.agg (By key).toArray,.agg (By sig).toArray,.slice (some ⟨g2,0,none⟩) 1 1] rfl rfl rfl rfl own_verify rfl rfl (λ_=>rfl) hsg (λw hw hu=>⟨hw.fact.1,hu 5 _ rfl (by kernel_rfl)⟩) λ_ _=>?_;refine h_end hst (l_E rfl (hK _ (zP ?_)));exact zR zY () rfl (by decide) rfl rfl rfl (λ_ _ _=>trivial) λ_ _=>trivial
end
def z64w:List Nat:=aB 64 0
def z64w_len:z64w.length=64:=by decide
def own_long256:Own 204:=λ_ _=>by go_simp
def arr64w:Arr 314 64:=⟨_,underlying314,by kernel_rfl⟩
def kw32:KW .u32 32:=.inr ⟨rfl,rfl⟩
theorem ben_or4{f:Nat->Nat}(hf:∀j,f j<256):bits .or .u32 (bits .or .u32 (bits .or .u32 (IntKind.u32.wrap (IntKind.u32.wrap (f 0:Int)*2^min 24 IntKind.u32.bits)) (IntKind.u32.wrap (IntKind.u32.wrap (f 1:Int)*2^min 16 IntKind.u32.bits))) (IntKind.u32.wrap (IntKind.u32.wrap (f 2:Int)*2^min 8 IntKind.u32.bits))) (IntKind.u32.wrap (f 3:Int))=((ben f 4:Nat):Int):=by
 have h0:=hf 0;have h1:=hf 1;have h2:=hf 2;have h3:=hf 3;have key:∀x:Nat,x<256->IntKind.u32.wrap (x:Int)=(x:Int):=λx hx=>by rw [qP];omega
 rw [key _ h0,key _ h1,key _ h2,key _ h3];rw [show((f 0:Int)*2^min 24 IntKind.u32.bits)=((f 0*16777216:Nat):Int) from rfl,show((f 1:Int)*2^min 16 IntKind.u32.bits)=((f 1*65536:Nat):Int) from rfl,show((f 2:Int)*2^min 8 IntKind.u32.bits)=((f 2*256:Nat):Int) from rfl,kw32.wrap,kw32.wrap,kw32.wrap,
  a7 (by omega),a7 (by omega),a7 (by omega),orV 24 _ _ (by omega) (by omega) (by omega) (by omega),orV 16 _ _ (by omega) (by omega) (by omega) (by omega),orV 8 _ _ (by omega) h3 (by omega) (by omega)]
 exact congrArg _ (show _=(((0*256+f 0)*256+f 1)*256+f 2)*256+f 3 by omega)
theorem long256_C{F:World->Prop}[Pst F]{b:List UInt8}(hb:b.length=64):Ct F 204 [eY 64 b] (one (.q (eZ 64 (mxl (sx dC b) z64w 64)))):=⟨own_long256,by
 have hX:=w9 dC b (by decide);have hlen:∀t,(mxl (sx dC b) z64w t).length=64:=λt=>by rw [iW,z64w_len]
 have h16:∀t,t<16->sx dC b t=ben (λk=>(b[4*t+k]!).toNat) 4:=λt ht=>by rw [sx,dif_pos ht];show ben (λk=>(b[t*4+k]!).toNat) 4=_;rw [Nat.mul_comm]
 have hrec:∀t,16<=t->(pR 32 (17,19,10) (sx dC b (t-2))+sx dC b (t-7)+pR 32 (7,18,3) (sx dC b (t-15))+sx dC b (t-16))%2^32=sx dC b t:=λt ht=>by
  conv=>rhs;rw [sx,dif_neg (by omega)]
  rfl
 generalize sx dC b=X at *;refine zQ [eY 64 b] 89 func204 rfl (by rw [ntmps204];rfl) (one_ok (eY_ok hb).1) λB=>?_;refine zA rfl (zA rfl ?_);let L:List Nat->List LV:=λl=>[⟨3,none,314,[.agg 64 (Uw l).toArray]⟩,⟨2,none,314,[.agg 64 (Uw (aB 64 0)).toArray]⟩,⟨1,none,67,[.agg 64 (By b).toArray]⟩];let P:Nat×List Nat->Env:=λs=>⟨[(11,.v (.int .i64 (s.1:Int))),(1,.a 1 0),(2,.a 2 0),(3,.a 3 0)],L s.2,[],F,λ_=>True⟩;refine zM λK1 hK1=>zA rfl (zN ?_);refine c_weak (e':=P (0,aB 64 0)) ⟨zE rfl, zL rfl rfl, .refl _,λ_ h _=>h, zU⟩ (s_loop (λs=>16-s.1) P (λs=>s.1<=16/\s.2=mxl X z64w s.1) ?_ (0,aB 64 0) ⟨aN _,(n5 X z64w).symm⟩)
 .rintro⟨t,l⟩ ⟨ht,hl⟩
  dsimp only at ht hl;subst hl;refine zA rfl (zM λK2 hK2=>?_);refine zW ((t:Int)<16) rfl (λhlt=>?_) (λhge=>?_)
  .have hlt:t<16:=by omega
   refine zO (hK2 _ (zM λK3 hK3=>zN (zA rfl ?_)));refine s_reg λK hK=>zB rfl (l_num 15 ((4*t:Nat):Int) rfl (mulI 4 t (by omega)) (l_num 18 ((4*t+4:Nat):Int) rfl (by show IntKind.i64.wrap (IntKind.i64.wrap (((4:Nat):Int)*(t:Int))+((4:Nat):Int))=_;rw [mulI 4 t (by omega)];exact addI _ _ (by omega)) ?_));refine l_cutV (4*t) (4*t+4) rfl rfl arr64 rfl rfl rfl (by omega) (by omega) (by omega) (l_N hK rfl ?_);have rd:∀j,j<4->(catP [.agg 64 (By b).toArray])[0+4*t+j]?=some (.int .u8 ((b[4*t+j]!).toNat:Int)):=λj hj=>by rw [aX];exact By_get (by omega)
   refine s_drawnN 24 (by kernel_rfl) λG S w0 hst=>?_;refine n_auto2 hst rfl (n_cellS hst 0 rfl rfl rfl rfl rfl (by omega) underlying39 size_u8 rfl (rd 0 (by decide)) underlying5 rfl ?_);refine n_auto2 hst rfl (n_cellS hst 1 rfl rfl rfl rfl rfl (by omega) underlying39 size_u8 rfl (rd 1 (by decide)) underlying5 rfl ?_);refine n_auto2 hst rfl (n_cellS hst 2 rfl rfl rfl rfl rfl (by omega) underlying39 size_u8 rfl (rd 2 (by decide)) underlying5 rfl ?_);refine n_auto2 hst rfl (n_cellS hst 3 rfl rfl rfl rfl rfl (by omega) underlying39 size_u8 rfl (rd 3 (by decide)) underlying5 rfl ?_);refine n_auto2 hst rfl (n_num 42 ((X t:Nat):Int) rfl ((ben_or4 (f:=λk=>(b[4*t+k]!).toNat) λj=>dN _).trans (by rw [h16 t hlt])) (n_ix hst rfl arr64w (by show t<64;omega) ?_));refine n_L hst rfl ?_;refine l_st1 rfl [.agg 64 (Uw (mxl X z64w (t+1))).toArray] (eZ_ok (hlen _)) ?_ ?_ (zJ (hK3 _ ?_))
   .show 0+t<(Uw (mxl X z64w t)).toArray.size;rw [aW,Uw_len,hlen];omega
   .show Uw (mxl X z64w (t+1))=(Uw (mxl X z64w t)).set (0+t) _;rw [aX,Uw,Uw,<-lY,dO]
   refine zD rfl ?_;exact zX (t+1,_) ⟨hlt,rfl⟩ (by show 16-(t+1)<16-t;omega) ⟨⟨congrArg (λx=>some (SV.v (.int .i64 x))) (addI t 1 (by omega)),rfl,rfl,rfl,trivial⟩,zL rfl rfl, .refl _,λ_ h _=>h,λ_ h=>h⟩
  .obtain rfl:t=16:=by omega
   refine s_exit (zS (zS (k_out (hK1 _ ?_))));let Q:Nat×List Nat->Env:=λs=>⟨[(6,.v (.int .i64 (s.1:Int))),(1,.a 1 0),(2,.a 2 0),(3,.a 3 0)],L s.2,[],F,λ_=>True⟩;refine zM λK1 hK1=>zA rfl (zN ?_);refine c_weak (e':=Q (16,mxl X z64w 16)) ⟨zE rfl, zL rfl rfl, .refl _,λ_ h _=>h,λ_ h=>h⟩ (s_loop (λs=>64-s.1) Q (λs=>16<=s.1/\s.1<=64/\s.2=mxl X z64w s.1) ?_ (16,mxl X z64w 16) ⟨aF _,aD rfl,rfl⟩);rintro⟨t,l⟩ ⟨ht0,ht,hl⟩;dsimp only at ht0 ht hl;subst hl;have rd:∀j,j<t->(catP [.agg 64 (Uw (mxl X z64w t)).toArray])[0+j]?=some (.int .u32 ((X j:Nat):Int)):=λj hj=>(Uw_in (by rw [hlen];omega)).trans (by rw [mxl_in hj (by rw [z64w_len];omega)]);refine zM λK3 hK3=>zA rfl ?_;refine zW ((t:Int)<64) rfl (λhlt=>?_) (λhge=>?_)
   .have hlt:t<64:=by omega
    refine zO (hK3 _ (zM λK4 hK4=>zN ?_));refine s_N 10 [] (by kernel_rfl) λK hK G S w0 hst=>?_;refine n_auto2 hst rfl (n_num 50 ((t-2:Nat):Int) rfl (subI t 2 (by omega) (by omega)) ?_);refine n_cell hst rfl arr64w (by show t-2<64;omega) (.int .u32 ((X (t-2):Nat):Int)) (rd (t-2) (by omega)) ?_;refine n_auto2 hst rfl (n_num 54 ((t-15:Nat):Int) rfl (subI t 15 (by omega) (by omega)) ?_);refine n_cell hst rfl arr64w (by show t-15<64;omega) (.int .u32 ((X (t-15):Nat):Int)) (rd (t-15) (by omega)) ?_;refine n_N hst rfl hK rfl ?_;refine s_reg λK hK=>l_X (rot32_C 17 (hX (t-2)) (by decide)) (λ_=>rfl) rfl λ_=>l_X (rot32_C 19 (hX (t-2)) (by decide)) (λ_=>rfl) rfl λ_=>l_auto2 rfl (l_num 9 _ rfl (kw32.low (17,19,10) (by decide) (hX (t-2))) (zJ (hK _ ?_)));refine s_reg λK hK=>l_X (rot32_C 7 (hX (t-15)) (by decide)) (λ_=>rfl) rfl λ_=>l_X (rot32_C 18 (hX (t-15)) (by decide)) (λ_=>rfl) rfl λ_=>l_auto2 rfl (l_num 10 _ rfl (kw32.low (7,18,3) (by decide) (hX (t-15))) (zJ (hK _ ?_)));refine s_drawnN 15 (by kernel_rfl) λG S w0 hst=>?_;refine n_auto2 hst rfl (n_num 76 ((t-7:Nat):Int) rfl (subI t 7 (by omega) (by omega)) ?_);refine n_cell hst rfl arr64w (by show t-7<64;omega) (.int .u32 ((X (t-7):Nat):Int)) (rd (t-7) (by omega)) ?_;refine n_auto2 hst rfl (n_num 83 ((t-16:Nat):Int) rfl (subI t 16 (by omega) (by omega)) ?_);refine n_cell hst rfl arr64w (by show t-16<64;omega) (.int .u32 ((X (t-16):Nat):Int)) (rd (t-16) (by omega)) ?_;refine n_auto2 hst rfl (n_num 86 _ rfl (kw32.sum4.trans (by rw [hrec t ht0])) (n_ix hst rfl arr64w hlt ?_));refine n_L hst rfl ?_;refine l_st1 rfl [.agg 64 (Uw (mxl X z64w (t+1))).toArray] (eZ_ok (hlen _)) ?_ ?_ (zJ (hK4 _ ?_))
    .show 0+t<(Uw (mxl X z64w t)).toArray.size;rw [aW,Uw_len,hlen];omega
    .show Uw (mxl X z64w (t+1))=(Uw (mxl X z64w t)).set (0+t) _;rw [aX,Uw,Uw,<-lY,dO]
    refine zD rfl ?_;exact zX (t+1,_) ⟨by show 16<=t+1;omega,hlt,rfl⟩ (by show 64-(t+1)<64-t;omega) ⟨⟨congrArg (λx=>some (SV.v (.int .i64 x))) (addI t 1 (by omega)),rfl,rfl,rfl,trivial⟩,zL rfl rfl, .refl _,λ_ h _=>h,λ_ h=>h⟩
   .obtain rfl:t=64:=by omega
    refine s_exit (zS (zS (k_out (hK1 _ (zA rfl (zP ?_))))));exact zR zY () rfl (by decide) rfl rfl rfl (λ_ _ _=>trivial) λ_ _=>trivial⟩
def own_turn256:Own 155:=λ_ _=>by go_simp
def arr8w:Arr 264 8:=⟨_,underlying264,by kernel_rfl⟩
def step32{t:Nat}(ht:t<80):IntKind.u32.wrap (Int.fdiv ((cbs[t]! : Nat):Int) (2^min 32 IntKind.u64.bits))=((cbs[t]! / 4294967296:Nat):Int):=by have h1:=cbs_lt ht;rw [kw64.shr 32 (by decide),kw32.wrap,a7 (Nat.div_lt_of_lt_mul h1)]
theorem turn256_C{o:Oct}(ho:OB 32 o){b:List UInt8}(hb:b.length=64):Ct Ts 155 [eZ 8 o.list,eY 64 b] (one (.q (eZ 8 (gJ dC o b).list))):=⟨own_turn256,by
 have hxn:(mxl (sx dC b) z64w 64).length=64:=by rw [iW,z64w_len]
 have hO:=λt=>OB.oT (s:=dC) (b:=b) ho t;refine zQ [eZ 8 o.list,eY 64 b] 137 func155 rfl (by rw [ntmps155];rfl) (two_ok (eZ_ok rfl) (eY_ok hb).1) λB=>?_;refine zA rfl (s_reg λK hK=>l_X (long256_C hb) (λ_=>rfl) rfl λ_=>l_N hK rfl ?_);refine s_N 24 [] (by kernel_rfl) λK hK G S w0 hst=>?_;refine n_cell hst rfl arr8w (aD rfl) (.int .u32 (o.a:Int)) rfl (n_cell hst rfl arr8w (aD rfl) (.int .u32 (o.b:Int)) rfl (n_cell hst rfl arr8w (aD rfl) (.int .u32 (o.c:Int)) rfl (n_cell hst rfl arr8w (aD rfl) (.int .u32 (o.d:Int)) rfl (n_cell hst rfl arr8w (aD rfl) (.int .u32 (o.e:Int)) rfl (n_cell hst rfl arr8w (aD rfl) (.int .u32 (o.f:Int)) rfl (n_cell hst rfl arr8w (aD rfl) (.int .u32 (o.g:Int)) rfl (n_cell hst rfl arr8w (aD rfl) (.int .u32 (o.h:Int)) rfl (n_N hst rfl hK rfl (zM λK1 hK1=>zA rfl (zN ?_))))))))));let P:Nat×Oct->Env:=λs=>⟨[(37,.v (.int .i64 (s.1:Int))),(6,.v (.int .u32 (s.2.a:Int))),(7,.v (.int .u32 (s.2.b:Int))),(8,.v (.int .u32 (s.2.c:Int))),(9,.v (.int .u32 (s.2.d:Int))),(10,.v (.int .u32 (s.2.e:Int))),(11,.v (.int .u32 (s.2.f:Int))),(12,.v (.int .u32 (s.2.g:Int))),(13,.v (.int .u32 (s.2.h:Int))),(2,.a 2 0),(4,.a 4 0),(5,.a 5 0)],
  [⟨5,none,314,[.agg 64 (Uw (mxl (sx dC b) z64w 64)).toArray]⟩,⟨4,none,264,[.agg 8 (Uw (aB 8 0)).toArray]⟩,⟨2,none,264,[.agg 8 (Uw o.list).toArray]⟩],[],Ts,λ_=>True⟩
 refine c_weak (e':=P (0,o)) ⟨zE rfl, zL rfl rfl, .refl _,λ_ h _=>h, zU⟩ (s_loop (λs=>64-s.1) P (λs=>s.1<=64/\s.2=oT dC b o s.1) ?_ (0,o) ⟨aN _,rfl⟩);rintro⟨t,q⟩ ⟨ht,hq⟩;dsimp only at ht hq;have hB:=hO t;rw [<-hq] at hB;refine zA rfl (zM λK2 hK2=>?_);refine zW ((t:Int)<64) rfl (λhlt=>?_) (λhge=>?_)
 .have hlt:t<64:=by omega
  refine zO (hK2 _ (zM λK3 hK3=>zN (zA rfl ?_)));refine s_reg λK hK=>l_X (rot32_C 6 hB.e (by decide)) (λ_=>rfl) rfl λ_=>l_X (rot32_C 11 hB.e (by decide)) (λ_=>rfl) rfl λ_=>l_X (rot32_C 25 hB.e (by decide)) (λ_=>rfl) rfl λ_=>l_auto2 rfl (l_num 15 _ rfl (kw32.big (6,11,25) (by decide) hB.e) (zJ (hK _ ?_)));refine s_reg λK hK=>l_X (rot32_C 2 hB.a (by decide)) (λ_=>rfl) rfl λ_=>l_X (rot32_C 13 hB.a (by decide)) (λ_=>rfl) rfl λ_=>l_X (rot32_C 22 hB.a (by decide)) (λ_=>rfl) rfl λ_=>l_auto2 rfl (l_num 16 _ rfl (kw32.big (2,13,22) (by decide) hB.a) (zJ (hK _ ?_)));refine s_N 23 [] (by kernel_rfl) λK hK G S w0 hst=>?_;refine n_auto2 hst rfl ?_;refine n_tab hst rfl rfl rfl rfl arr80 (by show t<80;omega) underlying96 rfl (λw h=>h.cell t (by omega)) ?_;refine n_auto2 hst rfl ?_;refine n_cell hst rfl arr64w hlt (.int .u32 ((sx dC b t:Nat):Int)) ((Uw_in (by rw [hxn];exact hlt)).trans (by rw [mxl_in hlt (by rw [z64w_len];exact hlt)])) ?_;refine n_auto2 hst rfl (n_num 17 (((q.h+wZ 32 (6,11,25) q.e+chw 32 q.e q.f q.g+cbs[t]! / 4294967296+sx dC b t)%2^32:Nat):Int) rfl (by rw [step32 (t:=t) (by omega)];exact kw32.t1c hB.e hB.f hB.g) (n_N hst rfl hK rfl ?_));refine s_reg λK hK=>l_auto2 rfl (l_num 18 _ rfl (kw32.t2 hB.a hB.b hB.c) (zJ (hK _ (s_lit (l_auto2 rfl (l_num 10 _ rfl kw32.sum1 (l_num 6 _ rfl kw32.sum (zJ (hK3 _ (zD rfl ?_))))))))));exact zX (t+1,rnd dC (cbs[t]! / 4294967296) (sx dC b t) q) ⟨hlt,by rw [hq];rfl⟩ (by show 64-(t+1)<64-t;omega) ⟨⟨congrArg (λx=>some (SV.v (.int .i64 x))) (addI t 1 (by omega)),rfl,rfl,rfl,rfl,rfl,rfl,rfl,rfl,rfl,rfl,rfl,trivial⟩,zL rfl rfl, .refl _,λ_ h _=>h,λ_ h=>h⟩
 .obtain rfl:t=64:=by omega
  refine s_exit (zS (zS (k_out (hK1 _ (s_reg λK hK=>l_cell rfl arr8w (aD rfl) (.int .u32 (o.a:Int)) rfl (l_auto2 rfl (l_num 107 _ rfl (kw32.add (b:=q.a)) (l_cell rfl arr8w (aD rfl) (.int .u32 (o.b:Int)) rfl (l_auto2 rfl (l_num 111 _ rfl (kw32.add (b:=q.b)) (l_cell rfl arr8w (aD rfl) (.int .u32 (o.c:Int)) rfl (l_auto2 rfl (l_num 115 _ rfl (kw32.add (b:=q.c)) (l_cell rfl arr8w (aD rfl) (.int .u32 (o.d:Int)) rfl (l_auto2 rfl (l_num 119 _ rfl (kw32.add (b:=q.d)) (l_cell rfl arr8w (aD rfl) (.int .u32 (o.e:Int)) rfl (l_auto2 rfl (l_num 123 _ rfl (kw32.add (b:=q.e)) (l_cell rfl arr8w (aD rfl) (.int .u32 (o.f:Int)) rfl (l_auto2 rfl (l_num 127 _ rfl (kw32.add (b:=q.f)) (l_cell rfl arr8w (aD rfl) (.int .u32 (o.g:Int)) rfl (l_auto2 rfl (l_num 131 _ rfl (kw32.add (b:=q.g)) (l_cell rfl arr8w (aD rfl) (.int .u32 (o.h:Int)) rfl (l_auto2 rfl (l_num 135 _ rfl (kw32.add (b:=q.h)) ?_))))))))))))))))))))))))))));refine l_f (.p [.agg 8 (Uw (rH 32 o q).list).toArray]) (eZ_ok rfl) (λG S w C0 Q' _ _ hQ=>f_build ([(o.a+q.a)%2^32,(o.b+q.b)%2^32,(o.c+q.c)%2^32,(o.d+q.d)%2^32,(o.e+q.e)%2^32,(o.f+q.f)%2^32,(o.g+q.g)%2^32,(o.h+q.h)%2^32].zipIdx.map λx=>(x.2,.int .u32 ((x.1:Nat):Int))) (Uw (rH 32 o q).list).toArray rfl rfl rfl rfl rfl (by kernel_rfl) hQ) rfl ?_;refine l_N hK rfl (zP ?_);rw [hq];exact zR zY () rfl (by decide) rfl rfl rfl (λ_ _ _=>trivial) λ_ _=>trivial⟩
def size_v8(cs:Array Value)(h:cs.size=8):(prog.info? 264).map (·.size)=some cs.size:=by rw [h];kernel_rfl
def z8v:Array Value:=(Uw [0,0,0,0,0,0,0,0]).toArray
def z32b:List UInt8:=aB 32 0
def zb32:(prog.info? 47).bind (λi=>i.zero.map (·.cells))=some (By z32b).toArray:=by kernel_rfl
structure LY2(w wr:World)(cs:Array Value)(m:List UInt8):Prop where
  b0:Blk wr w.heap.size 264 cs
  b1:Blk wr (w.heap.size+1) 47 (By z32b).toArray
  b2:Blk wr (w.heap.size+1+1) 47 (By m).toArray
  be:Below w.heap.size w wr
def LY2.set{w wr:World}{cs:Array Value}{m:List UInt8}(h:LY2 w wr cs m)(k:Nat)(x:UInt8):LY2 w (wr.setCell ⟨w.heap.size+1+1,k,none⟩ (.int .u8 (x.toNat:Int))) cs (m.set k x) where
 b0:=h.b0.far (by show w.heap.size≠w.heap.size+1+1;omega) _
 b1:=h.b1.far (by show w.heap.size+1≠w.heap.size+1+1;omega) _
 b2:=by have h4:=h.b2.set k (.int .u8 (x.toNat:Int));rw [By_set] at h4;exact h4
 be:=h.be.setCell (by show w.heap.size<=w.heap.size+1+1;omega) _
theorem lay256_f{l:List Nat}(hl:l.length=8)(hw:∀x∈l,x<4294967296)(w:World) :
  Calls prog 156 #[.agg (Uw l).toArray] w λe w'=>e = .returned (.agg (By (l.map (jU dC)).flatten).toArray)/\Below w.heap.size w w':=by
 have hD:=lN (jU dC) (n:=4) (λx=>lL dC x) l;rw [hl] at hD
 have hg:∀i j,i<8->j<4->(((l.map (jU dC)).flatten)[4*i+3-j]!).toNat=l[i]! / 256^j%256:=λi j hi hj=>by have h1:=flat_get (jU dC) (n:=4) (λx=>lL dC x) l (i:=i) (j:=3-j) (by omega) (by omega);rw [show 4*i+3-j=4*i+(3-j) by omega,h1];exact layw_get (s:=dC) (j:=j) hj
 have hzs:(Uw l).toArray.size=8:=by rw [aW,Uw_len,hl]
 have hix:∀i,i<8->∀w1,(Instr.index 264 (.agg (Uw l).toArray) (.int .i64 ((i:Nat):Int))).run prog w1 = .ok (.int .u32 (l[i]! : Nat)) w1:=λi hi w1=>by
  have h0:(Uw l).toArray[i]?=some (.int .u32 (l[i]! : Nat)):=Uw_at (by omega);have h1:((i:Nat):Int)<8:=by omega
  have h2:(0:Int)<=(i:Nat):=by omega
  generalize l[i]! = c at *;generalize (Uw l).toArray=cs at *;unfold Instr.index Go.part;go_simp;obtain⟨_,h⟩:=bD.1 h0;exact h
 have hwl:∀i,i<8->l[i]! < 4294967296:=λi hi=>by rw [getElem!_pos l i (by omega)];exact hw _ (iA _)
 generalize (l.map (jU dC)).flatten=D at *;generalize (Uw l).toArray=cs at *
 go_enter func156,ntmps156
 refine wp_seq_k λK hK=>wp_region_lit (wpl_box cs rfl rfl rfl (wpl_alloc (zs:=(By z32b).toArray) rfl rfl zb32 (wpl_nil ?_)))
 go_simp
 refine hK _ _ ?_;clear hK K;refine wp_seq_k λK hK=>wp_region_lit (wpl_alloc (zs:=(By z32b).toArray) rfl rfl zb32 (wpl_nil ?_))
 go_simp
 refine hK _ _ ?_;clear hK K;refine wp_at (λW=>LY2 w W cs z32b) ⟨blk3_0 w _ _ _ _,blk3_1 w _ _ _ _,blk3_2 w _ _ _ _,(((Below.refl _ _).alloc (aF _) _).alloc (by simp) _).alloc (by simp;omega) _⟩ ?_
 intro W hW
 have k0:=hW.b0;have HW:=dV hW;clear hW
 go_wp2_with (refine wpList_load_row rfl 264 _ rfl w.heap.size rfl 264 cs (0,0) _ k0 underlying264 rfl (size_v8 _ hzs) ?_)
 clear k0
 go_loopw [8] (λi wr=>∃t:Nat,t<=8/\i = .int .i64 t/\LY2 w wr cs (pf D λm=>decide (m<4*t))) (λi _=>8-(intOf i).toNat)
 case atStart =>
  refine⟨0,by omega,rfl,?_⟩;rw [tI (λm _=>decide_eq_false (by omega)),hD];exact HW.out
 case round =>
  clear HW;obtain⟨t,ht,rfl,hS⟩:=hrel
  by_cases htl:t<8
  .have hi:=hix t htl
   have hx:=hwl t htl;have hby:=λj hj=>hg t j htl hj;generalize l[t]! = x at *;have g4:(0:Int)<=(t:Int):=by omega
   have HS:=dV hS;clear hS hg hix hwl;go_wp2;go_loopw [12,5] (λj v wq=>∃n:Nat,n<=4/\j = .int .i64 n/\v = .int .u32 ((x/256^n:Nat):Int)/\LY2 w wq cs (pf D λm=>decide (m<4*t\/4*t+4-n<=m/\m<4*t+4))) (λj _ _=>4-(intOf j).toNat)
   case atStart =>
    refine⟨0,by omega,rfl,by rw [Nat.pow_zero,Nat.div_one],?_⟩;rw [n4 (q:=λm=>decide (m<4*t)) (λm _=>decide_eq_decide.2 (by omega))];exact HS.out
   case round =>
    clear HS;obtain⟨n,hn,rfl,rfl,hS⟩:=hrel
    by_cases hnl:n<4
    .have hN:=hS.set (4*t+3-n) D[4*t+3-n]!
     rw [vH (q:=λm=>decide (m<4*t\/4*t+4-(n+1)<=m/\m<4*t+4)) (λm _=>by rw [<-Bool.decide_or];exact decide_eq_decide.2 (by omega))] at hN;have hb:=hby n hnl;have hdiv:x/256^(n+1)=x/256^n/256:=by rw [Nat.pow_succ,Nat.div_div_eq_div_mul]
     have hle:x/256^n<4294967296:=c7 (gG _ _) hx;have c2:=(hS.b2.cell (4*t+3-n)).trans (By_get (by rw [vI,hD];omega));have f2:=hS.b2.free (4*t+3-n);generalize x/256^n=y at *;have q4:IntKind.u8.wrap (y:Int)=((D[4*t+3-n]!).toNat:Int):=by rw [IntKind.wrap_u8',hb];omega
     have g5:(0:Int)<=(n:Int):=by omega
     have q5:(y:Int)/256=((y/256:Nat):Int):=by omega
     have HN:=dV (And.intro hN hdiv);clear hS hN hdiv hb hby hi;generalize (D[4*t+3-n]!).toNat=v at *;generalize ((pf D λm=>decide (m<4*t\/4*t+4-n<=m/\m<4*t+4))[4*t+3-n]!).toNat=old at *;generalize y/256=y2 at *;go_wp2;go_roundw
     case rel =>
      obtain⟨hN,hdiv⟩:=HN.out;refine⟨n+1,by omega,by go_num,by rw [hdiv],hN⟩
     case measure=>simp [intOf];omega
    .obtain rfl:n=4:=by omega
     rw [n4 (q:=λm=>decide (m<4*(t+1))) (λm _=>decide_eq_decide.2 (by omega))] at hS;have HS:=dV hS;clear hS;go_wp2;go_roundw
     case rel=>exact⟨t+1,by omega,by go_num,HS.out⟩
     case measure=>simp [intOf];omega
  .obtain rfl:t=8:=by omega
   rw [vJ (λm hm=>decide_eq_true (by omega))] at hS;obtain⟨b0,b1,b2,be⟩:=hS;have hz:(By D).toArray.size=32:=by rw [aW,By_len,hD]
   clear b0;go_wp2_with (first
    | (refine wpList_load_row rfl 47 _ rfl (w.heap.size+1+1) rfl 47 (By D).toArray (0,0) _ b2 underlying47 rfl (size_hash _ hz) ?_)
    | (refine wpList_store_row rfl 47 _ _ rfl (w.heap.size+1) rfl (By D).toArray rfl 47 _ b1 (size_hash _ hz) (by rw [hz];rfl) (By_one _) ?_))
   refine bodyPost_ret (results_cell_row rfl _ _ (w.heap.size+1) 47 (By D).toArray (0,0) _ rfl (b1.row _) underlying47 rfl (size_hash _ hz)) rfl ⟨rfl,?_⟩;exact below_setRow be (by omega) _
def zv8:(prog.info? 264).bind (λi=>i.zero.map (·.cells))=some z8v:=by kernel_rfl
structure Tst(w:World):Prop where
  cell:∀i,i<8->w.cell? ⟨1,i,none⟩=some (.int .u64 (sqs[i]! : Nat))
  lt : 1 < w.heap.size
def Tst.below{w w':World}(h:Tst w)(hb:Below w.heap.size w w'):Tst w' :=
 ⟨λi hi=>(hb.cell (p:=⟨1,i,none⟩) h.lt).trans (h.cell i hi),bZ h.lt hb.size⟩
structure FI2(w wr:World)(l:List Nat):Prop where
  b0:Blk wr w.heap.size 264 z8v
  b1:Blk wr (w.heap.size+1) 264 (Uw l).toArray
  be:Below w.heap.size w wr
def FI2.set{w wr:World}{l:List Nat}(h:FI2 w wr l)(k x:Nat):FI2 w (wr.setCell ⟨w.heap.size+1,k,none⟩ (.int .u32 (x:Int))) (l.set k x) where
 b0:=h.b0.far (by show w.heap.size≠w.heap.size+1;omega) _
 b1:=by have h4:=h.b1.set k (.int .u32 (x:Int));rw [Uw_set] at h4;exact h4
 be:=h.be.setCell (by show w.heap.size<=w.heap.size+1;omega) _
def sqs_lt{t:Nat}(h:t<8):sqs[t]! < 18446744073709551616:=by
 have h1:∀x∈sqs,x<18446744073709551616:=by decide
 have h2:t<sqs.length:=h;rw [getElem!_pos sqs t h2];exact h1 _ (iA _)
def sqh(t:Nat):Nat:=sqs[t]! / 4294967296
def z8n:List Nat:=[0,0,0,0,0,0,0,0]
def first_all:mxl sqh z8n 8=dC.start:=by decide +kernel
theorem first256_f(w:World)(hT:Tst w) :
  Calls prog 152 #[] w λe w'=>e = .returned (.agg (Uw dC.start).toArray)/\Below w.heap.size w w':=by
 rw [<-first_all]
 have hlen:∀t,(mxl sqh z8n t).length=8:=λt=>by rw [iW];rfl
 go_enter func152,ntmps152
 refine wp_seq_k λK hK=>wp_region_lit (wpl_alloc (zs:=z8v) rfl rfl zv8 (wpl_nil ?_))
 go_simp
 refine hK _ _ ?_;clear hK K;refine wp_seq_k λK hK=>wp_region_lit (wpl_alloc (zs:=z8v) rfl rfl zv8 (wpl_nil ?_))
 go_simp
 refine hK _ _ ?_;clear hK K
 have hb2:Blk ((w.alloc (.cells z8v 264)).alloc (.cells z8v 264)) (w.heap.size+1) 264 z8v:=by
  have h:=Blk.new (w.alloc (.cells z8v 264)) 264 z8v
  rwa [dG] at h
 refine wp_at (λW=>FI2 w W z8n) ⟨(Blk.new w _ _).alloc _,hb2,((Below.refl _ _).alloc (aF _) _).alloc (by simp) _⟩ ?_
 intro W hW
 clear hb2;have HW:=dV hW;clear hW
 go_wp2
 go_loopw [3] (λi wr=>∃t:Nat,t<=8/\i = .int .i64 t/\FI2 w wr (mxl sqh z8n t)) (λi _=>8-(intOf i).toNat)
 case atStart =>
  refine⟨0,by omega,rfl,?_⟩;rw [n5];exact HW.out
 case round =>
  clear HW;obtain⟨t,ht,rfl,hS⟩:=hrel
  by_cases htl:t<8
  .have hN:=hS.set t (sqh t)
   rw [lY] at hN;have hg:=(hT.below hS.be).cell t htl;have hlt:=sqs_lt htl;have c1:=(hS.b1.cell t).trans (Uw_at (by rw [hlen];omega));have f1:=hS.b1.free t;have e1:sqh t=sqs[t]! / 4294967296:=rfl;have hq:sqh t<4294967296:=by omega
   have q1:((sqs[t]! : Nat):Int)/4294967296=((sqh t:Nat):Int):=by omega
   have q2:IntKind.u32.wrap ((sqh t:Nat):Int)=((sqh t:Nat):Int):=by rw [qP];omega
   have g4:(0:Int)<=(t:Int):=by omega
   have HN:=dV hN;clear hS hN e1 hT hlen;generalize sqh t=y at *;generalize sqs[t]! = x at *;generalize (mxl sqh z8n t)[t]! = old at *;go_wp2;go_roundw
   case rel=>exact⟨t+1,by omega,by go_num,HN.out⟩
   case measure=>simp [intOf];omega
  .obtain rfl:t=8:=by omega
   obtain⟨b0,b1,be⟩:=hS;have hz:(Uw (mxl sqh z8n 8)).toArray.size=8:=by rw [aW,Uw_len,hlen]
   clear hT;go_wp2_with (first
    | (refine wpList_load_row rfl 264 _ rfl (w.heap.size+1) rfl 264 (Uw (mxl sqh z8n 8)).toArray (0,0) _ b1 underlying264 rfl (size_v8 _ hz) ?_)
    | (refine wpList_store_row rfl 264 _ _ rfl w.heap.size rfl (Uw (mxl sqh z8n 8)).toArray rfl 264 _ b0 (size_v8 _ hz) (by rw [hz];rfl) (Uw_one _) ?_))
   refine bodyPost_ret (results_cell_row rfl _ _ w.heap.size 264 (Uw (mxl sqh z8n 8)).toArray (0,0) _ rfl (b0.row _) underlying264 rfl (size_v8 _ hz)) rfl ⟨rfl,?_⟩;exact below_setRow be (aF _) _
def own_lay256:Own 156:=λ_ _=>by go_simp
def own_first256:Own 152:=λ_ _=>by go_simp
def own_sum256:Own 114:=λ_ _=>by go_simp
def start256:Oct:=⟨dC.start[0]!,dC.start[1]!,dC.start[2]!,dC.start[3]!,dC.start[4]!,dC.start[5]!,dC.start[6]!,dC.start[7]!⟩
def start256_ob:OB 32 start256:=by constructor<;>decide
def start256_list:start256.list=dC.start:=by decide
def OB.list_lt2{o:Oct}(h:OB 32 o):∀x∈o.list,x<4294967296:=by
 intro x hx;simp only [Oct.list,aH,fW,or_false] at hx;rcases hx with rfl|rfl|rfl|rfl|rfl|rfl|rfl|rfl
 .exact h.a
 .exact h.b
 .exact h.c
 .exact h.d
 .exact h.e
 .exact h.f
 .exact h.g
 .exact h.h
def own_take256:Own 154:=λ_ _=>by go_simp
instance pst_st:Pst Tst:=⟨λ_ _ h hb=>h.below hb⟩
def first256_C:Ct Tst 152 [] (one (.q (eZ 8 start256.list))):=⟨own_first256,Spec.pure (eZ_ok rfl) λw h=>by rw [start256_list];exact first256_f w h⟩
def k256:BK:=⟨dC,64,264,67,λo=>[.agg 8 (Uw o.list).toArray],154⟩
def k256_ok:k256.Ok where
 n64:=by decide
 n128:=by decide
 own:=own_take256
 tk:=λ{gh gb o b} ho hb=>by refine zQ (own:=k256.R gh gb o b) [.c (.v (atG gh)),.c (.v (atG gb))] 5 func154 rfl (by rw [ntmps154];rfl) (two_ok trivial trivial) λB=>?_;refine s_lit (l_ldO zY rfl rfl rfl rfl rfl rfl (rd_obj 0 rfl) (l_ldO zY rfl rfl rfl rfl rfl rfl (rd_obj 1 rfl) (l_X (turn256_C ho hb) (λ_=>rfl) rfl λ_=>l_stO zY 0 rfl rfl rfl rfl rfl rfl rfl (l_E rfl ?_))));exact zR zY () rfl (by decide) rfl rfl rfl (λ_ _ _=>trivial) λ_ _=>trivial
def lay256_C{F:World->Prop}{o:Oct}(ho:OB 32 o):Ct F 156 [eZ 8 o.list] (one (.q (eY 32 (o.list.map (jU dC)).flatten))):=⟨own_lay256,Spec.pure (eY_ok (by rw [lN (jU dC) λx=>lL dC x];rfl)).1 λw _=>lay256_f rfl (OB.list_lt2 ho) w⟩
theorem sum256_C{P:Option Addr}{pc:Nat}{ss:List Seg}(hn:ss.length<=9223372036854775807):Ct (λw=>Tsh w/\PartsF P pc ss w) 114 [.c (.v (.slice P ss.length pc))] (one (.q (eY 32 (dB dC (ss.map Seg.l).flatten)))):=⟨own_sum256,by refine zQ [.c (.v (.slice P ss.length pc))] 12 func114 rfl (by rw [ntmps114];rfl) (one_ok trivial) λB=>?_;refine zA rfl (s_reg λK hK=>l_X ((first256_C).imp λ_ h=>⟨h.1.cell,h.1.lt⟩) (λ_=>rfl) rfl λ_=>l_N hK rfl (s_reg λK hK=>l_auto2 rfl (zJ (k_give 4 rfl (E':=[(0,.v (.slice P ss.length pc)),(2,.a 2 0),(3,.a 3 0)]) ⟨rfl,rfl,rfl,trivial⟩ λgb=>k_give 3 rfl (E':=[(4,.v (atG gb)),(0,.v (.slice P ss.length pc)),(2,.a 2 0)]) ⟨rfl,rfl,rfl,trivial⟩ λgh=>hK _ (s_reg λK hK=>l_op (.v (.slice (some ⟨gb,0,none⟩) 64 64)) trivial rfl rfl rfl (runO_allP rfl underlying67 size_u8 rfl) (zB rfl (l_op (.v (k256.take gh gb)) trivial rfl rfl rfl (run_makeF (vals:=[atG gh,atG gb]) rfl rfl λ_=>rfl) ?_)))))));refine l_callA (own:=k256.R gh gb start256 (aB 64 0)) (R':=[]) [.slice (some ⟨gb,0,none⟩) 64 64,.slice P ss.length pc,k256.take gh gb] rfl rfl rfl (λ_ _=>by go_simp) rfl rfl (λ_ _=>rfl) (fill_S k256_ok start256_ob bM hn) (λw h _=>⟨h.1.steps,h.2⟩) λb'=>?_;have hD:((gD dC 64 start256 ((ss.map Seg.l).flatten++fP 64 ((ss.map Seg.l).flatten.length%64) (8*(ss.map Seg.l).flatten.length))).list.map (jU dC)).flatten=dB dC (ss.map Seg.l).flatten:=rfl;have hO:OB 32 (gD dC 64 start256 ((ss.map Seg.l).flatten++fP 64 ((ss.map Seg.l).flatten.length%64) (8*(ss.map Seg.l).flatten.length))):=ob_runw (s:=dC) _ _ _ (aF _) start256_ob;refine l_R (k256.R gh gb (gD dC 64 start256 ((ss.map Seg.l).flatten++fP 64 ((ss.map Seg.l).flatten.length%64) (8*(ss.map Seg.l).flatten.length))) b'.1) rfl (l_N hK rfl ?_);generalize gD dC 64 start256 ((ss.map Seg.l).flatten++fP 64 ((ss.map Seg.l).flatten.length%64) (8*(ss.map Seg.l).flatten.length))=o at *;refine s_freeO 0 rfl (s_freeO 0 rfl (s_reg λK hK=>l_ldO zY rfl rfl rfl rfl rfl rfl (λ_ _ _ hv=>hv.fact.2.1) (l_X (lay256_C hO) (λ_=>rfl) rfl λ_=>l_N hK rfl (zP ?_))));rw [hD];exact zR zY () rfl (by decide) rfl rfl rfl (λ_ _ _=>trivial) λ_ _=>trivial⟩
def sum256_f(A:Option Addr)(ls:List (List UInt8))(pc:Nat)(w:World)(hT:Tsh w)(hA:Parts w w.heap.size A ls)(hpc:ls.length<=pc)(hpm:pc<=9223372036854775807) :
  Calls prog 114 #[.slice A ls.length pc] w λe w'=>e = .returned (.agg (By (dB dC ls.flatten)).toArray)/\Below w.heap.size w w':=by
 obtain⟨ss,rfl,h⟩:=segs_of ⟨hpc,hpm⟩ hA;rw [List.length_map] at *;exact(sum256_C (by omega)).row ⟨hT,h⟩
theorem hbody_S{k:List UInt8}(v:Int)(hk:k.length=32):Spec 58 [.int .i64 v,.agg (By k).toArray] [] (λ_=>True) (madeN (bodyH v k)):=by
 refine zQ [.c (.v (.int .i64 v)),eY 32 k] 11 func58 rfl (by rw [ntmps58];rfl) (two_ok trivial (eY_ok hk).1) λb=>?_;refine zC rfl λK1 hK1=>zJ (k_give 3 rfl (E':=[(0,.v (.int .i64 v)),(4,.v (.slice none 0 0))]) ⟨rfl,rfl,trivial⟩ λg=>hK1 _ (s_freeO 0 rfl (zM λK2 hK2=>?_)));refine s_any 4 [] (by kernel_rfl) (by decide) (λ_ _ _ _ h=>by cases h) ?_;refine a_front zY 0 (by kernel_rfl) rfl rfl rfl rfl rfl rfl (λ_ h=>by cases h) ?_;refine a_front zY 1 (by kernel_rfl) rfl rfl rfl rfl rfl rfl (λ_ h=>by cases h) ?_;refine a_frontO (.v (.slice (some ⟨g,0,none⟩) 32 32)) trivial 3 (by kernel_rfl) rfl rfl rfl rfl rfl (runO_allP rfl underlying47 rfl rfl) ?_;refine a_step 2 (by kernel_rfl) rfl λK3 hK3=>?_;refine l_num 6 (u64N v:Int) rfl (u64N_is v) ?_;refine l_call0 [.slice none ([]:List UInt8).length 0,.int .u64 (u64N v:Int)] rfl rfl rfl own_wnum rfl rfl (λ_ _=>rfl) (wnum_S [] (u64N v) (u64N_lt v) (by decide)) (λ_ _ _=>Rd.nil _ _ _) λgc=>?_;rw [cP];refine zJ (hK3 _ (λ_ _ _ _ h=>by cases h) ?_);refine a_tail (by kernel_rfl) ?_;refine l_eq 8 (.v (.slice (some ⟨g,0,none⟩) k.length 32)) rfl (by rw [hk]) ?_;refine l_list zY b.B.heap.size [⟨some ⟨gc,0,none⟩,(be8 (u64N v)).length,be8 (u64N v)⟩,⟨some ⟨g,0,none⟩,32,k⟩] (fe:=eSeg) rfl rfl rfl rfl rfl (λ_=>rfl) rfl (by decide) (by decide) (okF_seg _) (aF _) λP=>?_;refine l_free 0 rfl ?_;have e0:(List.map Seg.l [⟨some ⟨gc,0,none⟩,(be8 (u64N v)).length,be8 (u64N v)⟩,⟨some ⟨g,0,none⟩,32,k⟩]).flatten=bodyH v k:=by simp [bodyH]
 have hj:=join_S (A:=P) (c:=2) [⟨some ⟨gc,0,none⟩,(be8 (u64N v)).length,be8 (u64N v)⟩,⟨some ⟨g,0,none⟩,32,k⟩] (by rw [e0,bodyH_len hk];decide);rw [e0] at hj;refine l_call0 [.slice P 2 2] rfl rfl rfl own_join rfl rfl (λ_ _=>rfl) hj (λw h hM=>⟨h.1,λs hs=>by
  rcases aH.1 hs with rfl|hs
  .exact hM.1
  .rw [aE.1 hs];exact obj_rd (n:=32) h.2.2.1 (aD rfl)⟩) λgb=>?_
 refine zB rfl (zJ (hK2 _ ?_));exact zP (zR zY gb rfl (by decide) rfl rfl rfl (λ_ _ _=>trivial) (λw h=>h.1))
theorem hmake_S{seed key:List UInt8}(v:Int)(hs:seed.length=32)(hk:key.length=32):Spec 24 [.agg (By seed).toArray,.int .i64 v,.agg (By key).toArray] [] Ta (one (.q (eU (mkH seed v key)))):=by
 refine zQ [eY 32 seed,.c (.v (.int .i64 v)),eY 32 key] 19 func24 rfl (by rw [ntmps24];rfl) (more_ok (eY_ok hs).1 (two_ok trivial (eY_ok hk).1)) λb=>?_;refine zA rfl ?_;refine s_regH 6 (by decide) (by kernel_rfl) (by kernel_rfl) λK hK G S w0 hst=>?_;refine zV hst rfl ?_;refine h_callE (F':=λ_=>True) hst [.int .i64 v,.agg (By key).toArray] rfl rfl rfl rfl (λ_ _=>by go_simp) rfl rfl (λ_=>rfl) (hbody_S v hk).p1 (λ_ _ _=>trivial) λgb _=>?_;refine h_callE (F':=λw=>Ta w/\Rd 1 eB (some ⟨gb,0,none⟩) (bodyH v key).length (bodyH v key) w) hst [.agg (By seed).toArray,.int .u8 1,.slice (some ⟨gb,0,none⟩) (bodyH v key).length (bodyH v key).length] rfl rfl rfl rfl (λ_ _=>by go_simp) rfl rfl (λ_=>rfl) (seal_S 1 hs (by rw [bodyH_len hk];decide)) (λw hw hu=>⟨hw.fact,madeP_rd (hu 3 _ rfl (by kernel_rfl))⟩) λ_ _=>?_;refine h_alloc (By (aB 64 0)).toArray rfl rfl rfl rfl rfl (by kernel_rfl) λg=>?_;have h64:=qT seed (msg 1 (bodyH v key));refine h_endV hst (ps:=[.agg 64 (By (aB 64 0)).toArray]) 7 5 [(12,.q (eY 64 (kL seed (msg 1 (bodyH v key))))),(1,.v (.int .i64 v)),(3,.a 3 0),(5,.a 5 0),(6,.a 6 0)] rfl rfl ⟨rfl,rfl,rfl,rfl,rfl,trivial⟩ rfl rfl (eY_ok bM).1 ?_;generalize hsg:kL seed (msg 1 (bodyH v key))=sg at *;refine zB rfl (zJ (hK _ ?_));refine s_regH 6 (by decide) (by kernel_rfl) (by kernel_rfl) λK2 hK2 G S w0 hst=>?_;have hk0:=oQ seed;refine zV hst rfl (h_callS (F':=Ta) (r:=.q (eY 32 (gK seed))) hst [.agg (By seed).toArray] rfl rfl rfl rfl own_public rfl rfl (λ_=>rfl) (eY_ok hk0).1 (public_S hs) (λ_ _ _ hv=>hv.fact) ?_);generalize hpk:gK seed=pk at *;have hmk:mkH seed v key=⟨pk,v,key,sg⟩:=by unfold mkH;rw [hpk,hsg]
 refine zV hst rfl (h_end hst (zB rfl (zJ (hK2 _ ?_))));exact zP (zR zY () rfl (by decide) rfl (by show RV.q (eU (mkH seed v key))=_;rw [hmk];rfl) rfl (λ_ _ _=>trivial) zU)
theorem hsigned_S{u:UV}(hu:u.Ok):Spec 25 [(eU u).den] [] Ta (one (.q (.c (.b (signB u))))):=by
 refine zQ [eU u] 23 func25 rfl (by rw [ntmps25];rfl) (one_ok hu.parts_ok) λb=>?_;refine zA rfl ?_;refine s_regH 20 (by decide) (by kernel_rfl) (by kernel_rfl) λK hK G S w0 hst=>?_;refine zV hst rfl ?_;have hgo:signB u=false->kS b (bodyPost prog Tryz.f25 (endS b (one (.q (.c (.b (signB u)))))) .ret) 23 ⟨[(2,.v (.bool false))],[],[],Ta,λ_=>True⟩:=λh=>k_retD zY () rfl (by decide) rfl (congrArg mH h) trivial rfl (λ_ _ _=>trivial) zU;by_cases h1:1<=u.ver
 .refine h_is 6 true rfl (decide_eq_true h1) ?_
  refine zV hst rfl ?_;by_cases h2:u.ver<=64
  .have hsb:signB u=rightB u.id u.sig (msg 1 (bodyH u.ver u.key)):=by unfold signB;rw [decide_eq_true ⟨h1,h2⟩,Bool.true_and]
   refine h_is 11 true rfl (decide_eq_true h2) (zV hst rfl ?_);refine h_callE (F':=λ_=>True) hst [.int .i64 u.ver,.agg (By u.key).toArray] rfl rfl rfl rfl (λ_ _=>by go_simp) rfl rfl (λ_=>rfl) (hbody_S u.ver hu.key).p1 (λ_ _ _=>trivial) λgb _=>?_;refine zV hst rfl ?_;refine h_callE (F':=λw=>Ta w/\Rd 1 eB (some ⟨gb,0,none⟩) (bodyH u.ver u.key).length (bodyH u.ver u.key) w) hst [.agg (By u.id).toArray,.int .u8 1,.slice (some ⟨gb,0,none⟩) (bodyH u.ver u.key).length (bodyH u.ver u.key).length,.agg (By u.sig).toArray] rfl rfl rfl rfl (λ_ _=>by go_simp) rfl rfl (λ_=>rfl) (owned_S 1 hu.id hu.sig (by rw [bodyH_len hu.key];decide)) (λw hw hx=>⟨hw.fact,madeP_rd (hx 15 _ rfl (by kernel_rfl))⟩) λ_ _=>?_;refine zV hst rfl (h_end hst (zB rfl (zJ (hK _ ?_))));exact zP (k_retD zY () rfl (by decide) rfl (congrArg mH hsb) trivial rfl (λ_ _ _=>trivial) zU)
  .have hsb:signB u=false:=by unfold signB;rw [decide_eq_false (λh=>h2 h.2),Bool.false_and]
   refine h_is 11 false rfl (decide_eq_false h2) (zV hst rfl (h_end hst (zB rfl ?_)));exact zJ (hK _ (zP (k_weak (e':=⟨[(2,.v (.bool false))],[],[],Ta,λ_=>True⟩) ⟨⟨rfl,trivial⟩,trivial,.refl _,λ_ h _=>h,λ_ h=>h⟩ (hgo hsb))))
 .have hsb:signB u=false:=by unfold signB;rw [decide_eq_false (λh=>h1 h.1),Bool.false_and]
  refine h_is 6 false rfl (decide_eq_false h1) (zV hst rfl (h_end hst (zB rfl ?_)));exact zJ (hK _ (zP (k_weak (e':=⟨[(2,.v (.bool false))],[],[],Ta,λ_=>True⟩) ⟨⟨rfl,trivial⟩,trivial,.refl _,λ_ h _=>h,λ_ h=>h⟩ (hgo hsb))))
def sumP{A:Option Addr}{ls:List (List UInt8)}{w:World}(n:Nat)(hn:ls.length=n)(hm:n<=9223372036854775807)(hT:Ta w)(h:PT w A ls) :
  Calls prog 114 #[.slice A n n] w λe w'=>e = .returned (.agg (By (dB dC ls.flatten)).toArray)/\Below w.heap.size w w':=by
 subst hn;exact sum256_f A ls _ w hT.2 h (aF _) hm
def pick_key{ks:List (List UInt8)}{A:Option Addr}{c:Nat}{w:World}(h:Rd 32 (eY 32) A c ks w){i:Nat}{x:List UInt8}(hx:ks[i]?=some x):x.length=32:=eY_len (h.2.2.2.1 x (a8 hx)).1
theorem hvalue_S{A:Option Addr}{c:Nat}(ks:List (List UInt8)):Spec 76 [.slice A ks.length c] [] (λw=>Ta w/\Rd 32 (eY 32) A c ks w) (one (.q (eY 32 (valH ks)))):=by
 refine zQ [.c (.v (.slice A ks.length c))] 26 func76 rfl (by rw [ntmps76];rfl) (one_ok trivial) λb=>?_;refine s_pure ((∀x∈ks,x.length=32)/\ks.length<=9223372036854775807) (λw h _=>⟨λx hx=>eY_len (h.2.2.2.2.1 x hx).1,bP h.2.1 h.2.2.1⟩) λ⟨h32,hm⟩=>?_;refine zA rfl (zA rfl (zM λK hK=>zA rfl (zN ?_)));let F:Nat->Env:=λi=>⟨[(8,.v (.int .i64 (i:Int))),(7,.v (.int .i64 (ks.length:Int))),(6,.v (.slice A ks.length c)),(0,.v (.slice A ks.length c)),(3,.a 3 0),(2,.a 2 0)],[⟨3,none,47,[.agg 32 (By (dH (ks.take i))).toArray]⟩,⟨2,none,47,[.agg 32 (By zH).toArray]⟩],[],λw=>Ta w/\Rd 32 (eY 32) A c ks w,λ_=>True⟩;refine c_weak (e':=F 0) ⟨zE rfl, zL rfl rfl, .refl _,λ_ h _=>h, zU⟩ (s_loop (λi=>ks.length-i) F (λi=>i<=ks.length) ?_ 0 (aN _));intro i hi;refine zA rfl (zM λK3 hK3=>?_);refine zW ((i:Int)<(ks.length:Int)) rfl (λhlt=>?_) (λhge=>?_)
 .have hlt:i<ks.length:=by omega
  obtain⟨x,hx⟩:∃x,ks[i]?=some x:=⟨_,aK hlt⟩;have hx2:=h32 x (a8 hx);have hd2:=dH_len (ks.take i);have hn:=dH_next hx;refine zO (hK3 _ (zM λK4 hK4=>zN (zC rfl λK5 hK5=>l_elem zY rfl rfl rfl i rfl hx rfl rfl (rd_fact λ_ h _=>h.2) (zB rfl (zJ (hK5 _ ?_))))));generalize dH (ks.take i)=d at *;have hkl:(keyH d x).length=32:=dig_len _;have hkd:keyH d x=dB dC ([[3],d,x]:List (List UInt8)).flatten:=rfl;obtain⟨d2,he⟩:∃d2,keyH d x=d2:=⟨_,rfl⟩;rw [he] at hn hkl hkd;refine s_oneH 5 (by decide) (by kernel_rfl) (by kernel_rfl) λG S w0 hst=>?_;refine h_lit zY [(3:UInt8)] rfl rfl rfl rfl rfl rfl (λ_=>rfl) rfl (by decide) (by decide) λB=>?_;refine h_op hst (.s 3 0 32 32) trivial rfl rfl rfl rfl (runO_all rfl underlying47 rfl rfl) (h_op hst (.s 5 0 32 32) trivial rfl rfl rfl rfl (runO_all rfl underlying47 rfl rfl) ?_);refine h_parts [.slice (some ⟨B,0,none⟩) 1 1,(SV.s 3 0 32 32).den G,(SV.s 5 0 32 32).den G] [[3],d,x] hst rfl rfl rfl rfl rfl rfl rfl (by decide) (by decide) (λw hw hu=>?_) λA2=>?_
  .have h2:Rd 1 eB (some ⟨B,0,none⟩) 1 [3] w:=hu 0 _ rfl (by kernel_rfl);exact⟨h2.sb,sb_var (j:=3) rfl hd2 (by decide) G S w hw,sb_var (j:=5) rfl hx2 (by decide) G S w hw,trivial⟩
  refine h_call (r:=.q (eY 32 d2)) hst [.slice (some ⟨A2,0,none⟩) 3 3] rfl rfl rfl rfl own_sum256 rfl rfl (λ_=>rfl) (eY_ok hkl).1 (λw hw hu=>?_) ?_
  .have hA:PT w (some ⟨A2,0,none⟩) [[3],d,x]:=hu 3 _ rfl (by kernel_rfl);have hr2:=sumP 3 rfl (by decide) hw.fact.1 hA;rw [<-hkd] at hr2;exact hr2
  refine zV hst rfl (h_end hst (zB rfl (zJ (hK4 _ (zD rfl ?_)))));exact zX (i+1) hlt (by show _-(i+1)<_-i;omega) ⟨⟨congrArg some (congrArg SV.v (congrArg (cK .i64) (wrapI rfl (by omega) (by omega)))),rfl,rfl,rfl,rfl,rfl,trivial⟩,⟨by show findL _ 3=some ⟨3,none,47,[.agg 32 (By (dH (ks.take (i+1)))).toArray]⟩;rw [hn];rfl,rfl,rfl,rfl,trivial⟩,.refl _,λ_ h _=>h,λ_ h=>h⟩
 .obtain rfl:ks.length=i:=by omega
  have hd2:=dH_len ks;have hvl:(valH ks).length=32:=dig_len _;have hvd:valH ks=dB dC ([[2],be8 ks.length,dH ks]:List (List UInt8)).flatten:=rfl;have hb8:=be8_len ks.length;refine s_exit (zS (zS (k_out (hK _ ?_))));rw [dF];generalize dH ks=d at *;obtain⟨v2,hv2⟩:∃v2,valH ks=v2:=⟨_,rfl⟩;rw [hv2] at hvl hvd;refine zM λK5 hK5=>?_;refine s_any 6 [] (by kernel_rfl) (by decide) (λ_ _ _ _ h=>by cases h) ?_;refine a_front zY 1 (by kernel_rfl) rfl rfl rfl rfl rfl rfl (λ_ h=>by cases h) ?_;refine a_front zY 2 (by kernel_rfl) rfl rfl rfl rfl rfl rfl (λ_ h=>by cases h) ?_;refine a_front zY 3 (by kernel_rfl) rfl rfl rfl rfl rfl rfl (λ_ h=>by cases h) ?_;refine a_frontO (.s 3 0 32 32) trivial 5 (by kernel_rfl) rfl rfl rfl rfl rfl (runO_all rfl underlying47 rfl rfl) ?_;refine a_step2 0 4 (by kernel_rfl) rfl rfl (λK6 hK6=>?_) (λK6 hK6=>?_)
  .refine l_list zY b.B.heap.size [(2:UInt8)] rfl rfl rfl rfl rfl (λ_=>rfl) rfl (by decide) (by decide) (okF_B _) (aF _) λB=>?_
   refine zJ (hK6 _ (λ_ _ _ _ h=>by cases h) ?_);refine a_step 4 (by kernel_rfl) rfl λK7 hK7=>?_;refine l_num 21 (ks.length:Int) rfl (wrapU rfl (by omega) (by omega)) ?_;refine l_call0 [.slice none ([]:List UInt8).length 0,.int .u64 (ks.length:Int)] rfl rfl rfl own_wnum rfl rfl (λ_ _=>rfl) (wnum_S (A:=none) (c:=0) [] ks.length (by omega) (by decide)) (λ_ _ _=>Rd.nil _ _ _) λgb=>?_;rw [cP];refine zJ (hK7 _ (λ_ _ _ _ h=>by cases h) ?_);refine a_tail (by kernel_rfl) ?_;refine l_dig zY [.v (.slice B 1 1),.v (.slice (some ⟨gb,0,none⟩) (be8 ks.length).length (be8 ks.length).length),.s 3 0 32 32] [[2],be8 ks.length,d] v2 rfl rfl rfl rfl rfl rfl rfl rfl rfl own_sum256 (λ_=>rfl) rfl (by decide) (by decide) hvl (λA w h hF hM=>?_) (λG S w h=>?_) λB2=>?_
   .have hr2:=sumP 3 rfl (by decide) hF.2.1 h;rw [<-hvd] at hr2;exact hr2
   .have h1:Rd 1 eB B 1 [2] w:=rd_own 0 rfl G S w h;exact⟨h1.sb,h.fresh.1.sb,sb_var (j:=3) rfl hd2 (by decide) G S w h,trivial⟩
   refine zB rfl (zJ (hK5 _ (s_free 0 rfl ?_)));exact zP (zR zY () rfl (by decide) rfl (congrArg (λz=>RV.q (eY 32 z)) hv2) rfl (λ_ _ _=>trivial) zU)
  .refine l_num 21 (ks.length:Int) rfl (wrapU rfl (by omega) (by omega)) ?_
   refine l_call0 [.slice none ([]:List UInt8).length 0,.int .u64 (ks.length:Int)] rfl rfl rfl own_wnum rfl rfl (λ_ _=>rfl) (wnum_S (A:=none) (c:=0) [] ks.length (by omega) (by decide)) (λ_ _ _=>Rd.nil _ _ _) λgb=>?_;rw [cP];refine zJ (hK6 _ (λ_ _ _ _ h=>by cases h) ?_);refine a_step 0 (by kernel_rfl) rfl λK7 hK7=>?_;refine l_list zY b.B.heap.size [(2:UInt8)] rfl rfl rfl rfl rfl (λ_=>rfl) rfl (by decide) (by decide) (okF_B _) (aF _) λB=>?_;refine zJ (hK7 _ (λ_ _ _ _ h=>by cases h) ?_);refine a_tail (by kernel_rfl) ?_;refine l_dig zY [.v (.slice B 1 1),.v (.slice (some ⟨gb,0,none⟩) (be8 ks.length).length (be8 ks.length).length),.s 3 0 32 32] [[2],be8 ks.length,d] v2 rfl rfl rfl rfl rfl rfl rfl rfl rfl own_sum256 (λ_=>rfl) rfl (by decide) (by decide) hvl (λA w h hF hM=>?_) (λG S w h=>?_) λB2=>?_
   .have hr2:=sumP 3 rfl (by decide) hF.2.1 h;rw [<-hvd] at hr2;exact hr2
   .have h1:Rd 1 eB B 1 [2] w:=rd_own 0 rfl G S w h;exact⟨h1.sb,h.fresh.1.sb,sb_var (j:=3) rfl hd2 (by decide) G S w h,trivial⟩
   refine zB rfl (zJ (hK5 _ (s_free 0 rfl ?_)));exact zP (zR zY () rfl (by decide) rfl (congrArg (λz=>RV.q (eY 32 z)) hv2) rfl (λ_ _ _=>trivial) zU)
section
variable{α:Type}{fe:α->SQ}{T:List TyR}{b:Base}{ops:Array Oper}{Q:Exit->Act->World->Prop}{N:Nat}{E:SE}{L:List LV}{R:List Res}{F M:World->Prop}{o:Oper}{rest:List Oper}{k e sz bs:Nat}{t tn:TypeId}{x y:Operand}{K kn:IntKind}
theorem l_growZ(hT:OkT prog T)(lo n:Nat)(fe:α->SQ)(hg:o.guard=none)(hd:o.dst=some k)(hk:aT k N=true)(ho:o.op = .call { callee:=.builtin .append,args:=#[x,y],argTypes:=#[t,tn] })(hs:slS T t=some (e,sz,bs))(htn:prog.underlying tn=some (.int kn))
 (hx:evS E x=some (.v (.slice none 0 0)))(hy:evS E y=some (.v (.int K (n:Int))))(h0:0<n)(hsz:0<sz)(hb:n*bs<=281474976710656)(hm:n<=9223372036854775807)(hlo:lo<=b.B.heap.size)
 (hc:∀g c,n<=c->lS prog b ops Q N rest ⟨(k,.v (.slice (some ⟨g,0,none⟩) n c))::E,L,OwnS lo e sz fe (some ⟨g,0,none⟩) c []::R,F,M⟩):lS prog b ops Q N (o::rest) ⟨E,L,R,F,M⟩:=λa w ⟨G,S,h1,h2,h3⟩=>by
 obtain⟨ht,ie,z,hi,hz,hsz2,hbs,hzs,_⟩:=slS_ok hT hs;have e1:=h1.eval (evS_ok hx);have e2:=h1.eval (evS_ok hy);have hr:=Lib.run_append_nil_zeros (P:=prog) w t tn o.type e ie z K kn ht htn hi hz n h0 (by omega) (by omega) (by rw [hbs];exact hb)
 refine wpl_go (v:=.slice (some ⟨w.heap.size,0,none⟩) n (grownCap w n 0 e)) (oneS hg) (by unfold execOp;simp only [ho,resolve,invoke,builtin,aG,aI,aC,List.map_toArray,List.map_cons,List.map_nil,e1,e2];show((Builtin.append_ #[t,tn] o.type #[.slice none 0 0,.int K (n:Int)]).run prog w).andThen _=_;rw [hr];rfl) ?_
 rw [hd];have hge:=grownCap_ge w n 0 e;have hle:=grownCap_le_maxLen w n 0 e (by unfold maxLen;omega);generalize grownCap w n 0 e=c at *
 have hcs:(jW z.cells n++jW z.cells (c-n)).size=c*sz:=by simp only [Array.size_append,size_zeroCells,hzs,<-Nat.add_mul];rw [show n+(c-n)=c by omega]
 generalize jW z.cells n++jW z.cells (c-n)=cs at *
 have hown:(OwnS lo e sz fe (some ⟨w.heap.size,0,none⟩) c []).holds (w.drew.alloc (.cells cs e)) λj=>j=w.heap.size:=by
  have hb:Blk (w.drew.alloc (.cells cs e)) w.heap.size e cs:=Blk.new w.drew _ _;have hlo2:lo<=w.heap.size:=bP hlo h3.chg.size;have h5:cs.toList.take (0*sz)=[]:=by rw [Nat.zero_mul];rfl
  have h6:(flatF fe ([]:List α)).length=0*sz:=by rw [Nat.zero_mul];rfl
  exact⟨λ_ h=>(by cases h),⟨h6,.inr ⟨w.heap.size,c,cs,rfl,hlo2,hb,aN _,hle,hcs,h5⟩⟩,λj=>⟨λh=>(by rw [h];rfl),λh=>(bL h).symm⟩⟩
 obtain⟨S',h4⟩:=h3.gain (((Below.refl w.heap.size w).drew).alloc (aF _) _) hown (λj hj=>iU hj.symm);exact hc _ _ hge _ _ ⟨G,S',h1.put hk _,h2.cons trivial,h4⟩
end
def run_cap{N:Nat}{E:SE}{o:Oper}{x:Operand}{t:TypeId}{A:Option Addr}{n c:Nat}(ho:o.op = .call { callee:=.builtin .cap,args:=#[x],argTypes:=#[t] })(ht:∃e,prog.underlying t=some (.slice e))(hx:evS E x=some (.v (.slice A n c))) :
  ∀(G:Nat->Nat) (a:Act) (w:World),Fr N (denE G E) a->(execOp a.eval o).run prog w = .ok (.value ((SV.v (.int .i64 (c:Int))).den G)) w:=λG a w ha=>by
 have h1:a.eval x = .slice A n c:=ha.eval (evS_ok hx);obtain⟨e,ht⟩:=ht
 unfold execOp
 simp only [ho];generalize a.eval=ρ at *
 show _=mJ (l4 (.int .i64 (c:Int))) w
 simp [resolve,invoke,builtin,h1,aG,run_underlying ht,Builtin.cap_,goInt]
abbrev KX:=Option Addr×Nat
theorem grow_S(n:Nat)(h0:0<n)(hn:n<=1000000):Spec 112 [.slice none 0 0,.int .i64 (n:Int)] [] (λ_=>True) { ret:=λx:KX=>.v (.slice x.1 0 x.2),own:=λx=>[OwnS 0 47 32 (eY 32) x.1 x.2 []] }:=by refine zQ [.c (.v (.slice none 0 0)),.c (.v (.int .i64 (n:Int)))] 27 func112 rfl (by rw [ntmps112];rfl) (two_ok trivial trivial) λb=>?_;refine zA rfl (zM λK1 hK1=>zA rfl ?_);refine zW ((n:Int)<0) rfl (λh=>absurd h (by omega)) (λ_=>?_);refine zO (hK1 _ (zM λK2 hK2=>zC rfl λK3 hK3=>l_op (.v (.int .i64 ((0:Nat):Int))) trivial rfl rfl rfl (run_cap rfl ⟨_,underlying38⟩ rfl) (zB rfl ?_)));refine l_num 1 (n:Int) rfl (wrapI (by show(n:Int)-IntKind.i64.wrap (0-0)=n;rw [wrapI (r:=0) (by decide) (by decide) (by decide)];omega) (by omega) (by omega)) ?_;refine zJ (hK3 _ (zA rfl ?_));refine zW ((n:Int)>0) rfl (λ_=>?_) (λh=>absurd h (by omega));refine s_lit (zB rfl (l_op (.v (.int .i64 ((0:Nat):Int))) trivial rfl rfl rfl (run_cap rfl ⟨_,underlying38⟩ rfl) (l_op (.v (.slice none 0 0)) trivial rfl rfl rfl (run_cutHi (A:=none) (n:=0) (c:=0) (j:=0) (sz:=32) rfl (aF _) (λ_=>rfl) rfl underlying38 rfl rfl) (zB rfl ?_))));refine l_growZ zY 0 n (eY 32) rfl rfl rfl rfl rfl underlying3 rfl rfl h0 (by decide) (by show n*32<=_;omega) (by omega) (aN _) λg c hc=>?_;refine zB rfl ?_;refine l_op (.v (.slice (some ⟨g,0,none⟩) 0 c)) trivial rfl rfl rfl (run_cutHi (A:=some ⟨g,0,none⟩) (n:=n) (c:=c) (j:=0) (sz:=32) rfl (aN _) (λh=>by cases h) rfl underlying38 rfl rfl) ?_;refine zB rfl (zJ (hK2 _ (zA rfl ?_)));exact zP (zR zY (some ⟨g,0,none⟩,c) rfl (by decide) rfl rfl rfl (λ_ _ _=>trivial) zU)
structure HSeg where
  A:Option Addr
  c:Nat
  l:List (List UInt8)
def eHs(s:HSeg):SQ:=.c (.v (.slice s.A s.l.length s.c))
def HSeg.rd(s:HSeg)(w:World):Prop:=Rd 32 (eY 32) s.A s.c s.l w
instance{s:HSeg}:Pst s.rd:=⟨λ_ _ h hb=>h.later hb⟩
def eHs_ok(s:HSeg):OkP (eHs s).parts1/\(eHs s).cl.length=1:=⟨λp hp=>by simp only [eHs,SQ.parts1,aE] at hp;subst hp;exact⟨trivial,rfl,rfl⟩,rfl⟩
abbrev flH(ss:List HSeg):List (List UInt8):=(ss.map HSeg.l).flatten
def flH_next{ss:List HSeg}{i:Nat}{s:HSeg}(h:ss[i]?=some s):flH (ss.take (i+1))=flH (ss.take i)++s.l:=by unfold flH;rw [List.take_add_one,h];simp
def flH_le(ss:List HSeg)(i:Nat):(flH (ss.take i)).length<=(flH ss).length:=by
 have e:flH ss=flH (ss.take i)++flH (ss.drop i):=by unfold flH;rw [<-List.flatten_append,<-bS,bX]
 rw [e,aA];omega
theorem concat_S{A:Option Addr}{c:Nat}(ss:List HSeg)(h0:0<(flH ss).length)(ht:(flH ss).length<=1000000):Spec 73 [.slice A ss.length c] [] (λw=>Rd 1 eHs A c ss w/\∀s∈ss,s.rd w)
  { ret:=λx:KX=>.v (.slice x.1 (flH ss).length x.2),own:=λx=>[OwnS 0 47 32 (eY 32) x.1 x.2 (flH ss)] }:=by
 refine zQ [.c (.v (.slice A ss.length c))] 36 func73 rfl (by rw [ntmps73];rfl) (one_ok trivial) λb=>?_;refine s_pure (ss.length<=9223372036854775807) (λw h _=>bP h.1.1 h.1.2.1) λhm=>?_;refine zA rfl (zA rfl (zM λK1 hK1=>zA rfl (zN ?_)))
 let F:Nat->Env:=λi=>⟨[(11,.v (.int .i64 (i:Int))),(10,.v (.int .i64 (ss.length:Int))),(9,.v (.slice A ss.length c)),(0,.v (.slice A ss.length c)),(3,.v (.int .i64 ((flH (ss.take i)).length:Int)))],[],[],λw=>Rd 1 eHs A c ss w/\∀s∈ss,s.rd w,λ_=>True⟩
 refine c_weak (e':=F 0) ⟨zE rfl, trivial, .refl _,λ_ h _=>h, zU⟩ (s_loop (λi=>ss.length-i) F (λi=>i<=ss.length) ?_ 0 (aN _))
 .intro i hi
  refine zA rfl (zM λK3 hK3=>?_);refine zW ((i:Int)<(ss.length:Int)) rfl (λhlt=>?_) (λhge=>?_)
  .have hlt:i<ss.length:=by omega
   obtain⟨s,hs⟩:∃s,ss[i]?=some s:=⟨_,aK hlt⟩;have hn:=flH_next hs;have hle:=flH_le ss (i+1);have hnl:=congrArg lR hn;rw [aA] at hnl;refine zO (hK3 _ (zM λK4 hK4=>zN (zC rfl λK5 hK5=>l_elem zY rfl rfl rfl i rfl hs rfl rfl (rd_fact λ_ h _=>h.1) (zB rfl (zJ (hK5 _ (zC rfl λK6 hK6=>?_)))))));refine l_num 3 ((flH (ss.take (i+1))).length:Int) rfl (wrapI (by omega) (by omega) (by omega)) ?_;refine zJ (hK6 _ (zA rfl ?_));refine zW (((flH (ss.take (i+1))).length:Int)<0) rfl (λh=>absurd h (by omega)) (λ_=>?_);refine zO (hK4 _ (zD rfl ?_));exact zX (i+1) hlt (by show _-(i+1)<_-i;omega) ⟨⟨congrArg some (congrArg SV.v (congrArg (cK .i64) (wrapI rfl (by omega) (by omega)))),rfl,rfl,rfl,rfl,trivial⟩,trivial,.refl _,λ_ h _=>h,λ_ h=>h⟩
  .obtain rfl:ss.length=i:=by omega
   refine s_exit (zS (zS (k_out (hK1 _ ?_))));rw [dF];refine zC rfl λK5 hK5=>?_;refine l_call0 [.slice none 0 0,.int .i64 ((flH ss).length:Int)] rfl rfl rfl (λ_ _=>by go_simp) rfl rfl (λ_ _=>rfl) (grow_S (flH ss).length h0 ht) (λ_ _ _=>trivial) λ⟨B,d⟩=>?_;refine l_R [OwnS 0 47 32 (eY 32) B d []] rfl (zB rfl (zJ (hK5 _ (zM λK7 hK7=>zA rfl (zN ?_)))));let F2:Nat×KX->Env:=λ⟨i,B,d⟩=>⟨[(27,.v (.int .i64 (i:Int))),(26,.v (.int .i64 (ss.length:Int))),(25,.v (.slice A ss.length c)),(6,.v (.slice B (flH (ss.take i)).length d))],[],[OwnS 0 47 32 (eY 32) B d (flH (ss.take i))],λw=>Rd 1 eHs A c ss w/\∀s∈ss,s.rd w,λ_=>True⟩;refine c_weak (e':=F2 (0,B,d)) ⟨zE rfl, trivial, .refl _,λ_ h _=>h.2, zU⟩ (s_loop (λx=>ss.length-x.1) F2 (λx=>x.1<=ss.length) ?_ (0,B,d) (aN _));rintro⟨i,B,d⟩ hi;dsimp only at hi;refine zA rfl (zM λK3 hK3=>?_);refine zW ((i:Int)<(ss.length:Int)) rfl (λhlt=>?_) (λhge=>?_)
   .have hlt:i<ss.length:=by omega
    obtain⟨s,hs⟩:∃s,ss[i]?=some s:=⟨_,aK hlt⟩;have hn:=flH_next hs;have hle:=flH_le ss (i+1);have hnl:=congrArg lR hn;rw [aA] at hnl;refine zO (hK3 _ (zM λK4 hK4=>zN (zC rfl λK5 hK5=>l_elem zY rfl rfl rfl i rfl hs rfl rfl (rd_fact λ_ h _=>h.1) (zB rfl (zJ (hK5 _ (s_lit (zB rfl ?_))))))));refine l_appY zY 0 s.l (fe:=eY 32) rfl rfl rfl rfl rfl rfl rfl rfl rfl (rd_fact λw h _=>h.2 s (a8 hs)) (by decide) (by show(_+_)*32<=_;omega) (by omega) (aN _) λB' d'=>?_;rw [<-hn];refine zB rfl (zJ (hK4 _ (zD rfl ?_)));exact zX (i+1,B',d') hlt (by show _-(i+1)<_-i;omega) ⟨⟨congrArg some (congrArg SV.v (congrArg (cK .i64) (wrapI rfl (by omega) (by omega)))),rfl,rfl,rfl,trivial⟩,trivial,.refl _,λ_ h _=>h,λ_ h=>h⟩
   .obtain rfl:ss.length=i:=by omega
    refine s_exit (zS (zS (k_out (hK7 _ ?_))));rw [dF];refine zA rfl ?_;exact zP (zR zY (B,d) rfl (by decide) rfl rfl rfl (λ_ _ _=>trivial) zU)
noncomputable def nxE(ks:List (List UInt8))(u:UV):Nat:=if signB u=true then(if u.ver=(ks.length:Int)+1 then 0 else 111) else 110
noncomputable def nxK(ks:List (List UInt8))(u:UV):List (List UInt8):=if nxE ks u=0 then ks++[u.key] else []
abbrev nxQ(l:List (List UInt8))(e:Nat):Post KX:={ ret:=λx=>.t [.c (.v (.slice x.1 l.length x.2)),.c (.v (.int .i64 (e:Int)))],p:=λx=>Rd 32 (eY 32) x.1 x.2 l }
noncomputable abbrev nxP(ks:List (List UInt8))(u:UV):Post KX:=nxQ (nxK ks u) (nxE ks u)
theorem hnext_S{A:Option Addr}{c:Nat}(ks:List (List UInt8)){u:UV}(hu:u.Ok)(hl:ks.length<=1000):Spec 37 [.slice A ks.length c,(eU u).den] [] (λw=>Ta w/\Rd 32 (eY 32) A c ks w) (nxP ks u):=by
 refine zQ [.c (.v (.slice A ks.length c)),eU u] 21 func37 rfl (by rw [ntmps37];rfl) (two_ok trivial hu.parts_ok) λb=>?_;refine zA rfl (zM λK1 hK1=>zC rfl λK2 hK2=>?_);refine l_call0 [(eU u).den] rfl rfl rfl (λ_ _=>by go_simp) rfl rfl (λ_ _=>rfl) (hsigned_S hu) (λ_ h _=>h.1) λ_=>?_;refine zB rfl (zJ (hK2 _ ?_));obtain⟨sb,hsb⟩:∃sb,signB u=sb:=⟨_,rfl⟩;rw [hsb];refine s_if (!sb) rfl (λh=>?_) (λh=>?_)
 .have h1:nxE ks u=110:=by unfold nxE;rw [if_neg (by rw [hsb];simpa using h)]
  have h2:nxK ks u=[]:=by unfold nxK;rw [h1];rfl
  refine zA rfl ?_;exact zP (zR zY (none,0) rfl (by decide) rfl (by show RV.t [.c (.v (.slice none (nxK ks u).length 0)),.c (.v (.int .i64 (nxE ks u:Int)))]=_;rw [h1,h2];rfl) rfl (λw _ _=>by show Rd 32 (eY 32) none 0 (nxK ks u) w;rw [h2];exact Rd.nil _ _ _) zU)
 have hst:sb=true:=by simpa using h
 refine zO (hK1 _ (zM λK3 hK3=>zC rfl λK4 hK4=>zJ (hK4 _ ?_)));have hw:IntKind.i64.wrap ((ks.length:Int)+1)=(ks.length:Int)+1:=wrapI rfl (by omega) (by omega);refine zW (u.ver≠IntKind.i64.wrap ((ks.length:Int)+1)) rfl (λh=>?_) (λh=>?_)
 .have h1:nxE ks u=111:=by unfold nxE;rw [if_pos (by rw [hsb];exact hst),if_neg (by rw [hw] at h;exact h)]
  have h2:nxK ks u=[]:=by unfold nxK;rw [h1];rfl
  refine zA rfl ?_;exact zP (zR zY (none,0) rfl (by decide) rfl (by show RV.t [.c (.v (.slice none (nxK ks u).length 0)),.c (.v (.int .i64 (nxE ks u:Int)))]=_;rw [h1,h2];rfl) rfl (λw _ _=>by show Rd 32 (eY 32) none 0 (nxK ks u) w;rw [h2];exact Rd.nil _ _ _) zU)
 have h1:nxE ks u=0:=by unfold nxE;rw [if_pos (by rw [hsb];exact hst),if_pos (by rw [hw] at h;exact Decidable.of_not_not h)]
 have h2:nxK ks u=ks++[u.key]:=by unfold nxK;rw [h1];rfl
 refine zO (hK3 _ (zC rfl λK5 hK5=>?_));refine l_list zY 0 [u.key] (fe:=eY 32) rfl rfl rfl rfl rfl (λ_=>rfl) rfl (by decide) (by decide) (okF_Y λl hl=>by rw [aE.1 hl];exact hu.key) (aN _) λB=>?_;refine l_free 0 rfl ?_;refine l_list zY 0 [⟨A,c,ks⟩,⟨B,1,[u.key]⟩] (fe:=eHs) rfl rfl rfl rfl rfl (λ_=>rfl) rfl (by decide) (by decide) (λs _=>eHs_ok s) (aN _) λD=>?_;refine l_free 0 rfl ?_;have e0:flH [⟨A,c,ks⟩,⟨B,1,[u.key]⟩]=nxK ks u:=by rw [h2];simp [flH]
 have hcc:=concat_S (A:=D) (c:=2) [⟨A,c,ks⟩,⟨B,1,[u.key]⟩] (by rw [e0,h2];simp) (by rw [e0,h2];simp;omega);rw [e0] at hcc;refine l_call0 [.slice D 2 2] rfl rfl rfl (λ_ _=>by go_simp) rfl rfl (λ_ _=>rfl) hcc (λw h _=>⟨h.1,λs hs=>by
  rcases aH.1 hs with rfl|hs
  .exact h.2.2.2.2
  .rw [aE.1 hs];exact h.2.1⟩) λ⟨X,d⟩=>?_
 refine l_R [OwnS 0 47 32 (eY 32) X d (nxK ks u)] rfl (l_free 0 rfl (zB rfl (zJ (hK5 _ ?_))));exact zP (zR zY (X,d) rfl (by decide) rfl (by show RV.t [.c (.v (.slice X (nxK ks u).length d)),.c (.v (.int .i64 (nxE ks u:Int)))]=_;rw [h1];rfl) rfl (λw h _=>h.1) zU)
def hnext_Q{A:Option Addr}{c:Nat}{ks l:List (List UInt8)}{u:UV}{e:Nat}(he:nxE ks u=e)(hk:nxK ks u=l)(hu:u.Ok)(hl:ks.length<=1000):Spec 37 [.slice A ks.length c,(eU u).den] [] (λw=>Ta w/\Rd 32 (eY 32) A c ks w) (nxQ l e):=by subst he hk;exact hnext_S ks hu hl
end Go.Proofs.YtdinohbahfdphaaGreatDoor
namespace Go.Proofs.YtdinohbahfdphaaGreatDoor
open Go.RowKit Go.IntWalk
structure MapT(κ ν:Type) where
  t:TypeId
  kt:TypeId
  vt:TypeId
  kv:κ->SQ
  vv:ν->SQ
structure MapT.Ok{κ ν:Type}(T:MapT κ ν)(ok:κ->Prop):Prop where
  und:prog.underlying T.t=some (.map T.kt T.vt)
  keyed:Maps.Keyed prog T.kt
  key:∀k,ok k->∃l,keyOf prog T.kt (T.kv k).den=some l
  inj:∀k k',(T.kv k).den=(T.kv k').den->k=k'
def MapT.K{κ ν:Type}(T:MapT κ ν)(k:κ):Value:=(T.kv k).den
def MapT.V{κ ν:Type}(T:MapT κ ν)(v:ν):Value:=(T.vv v).den
section
variable{κ ν:Type}{T:MapT κ ν}{ok:κ->Prop}
structure MapH(T:MapT κ ν)(ok:κ->Prop)(es:Array MapEntry)(clock n:Nat)(f:κ->Option ν):Prop where
  size:es.size=n
  of:∀e∈es.toList,∃k v,ok k/\f k=some v/\e.key=T.K k/\e.val=T.V v
  at_:∀k v,f k=some v->∃e∈es.toList,e.key=T.K k/\e.val=T.V v
  one:∀(i j:Nat) (e g:MapEntry),es[i]?=some e->es[j]?=some g->e.key=g.key->i=j
  born:∀e∈es.toList,e.born<clock
  stamp:(es.toList.map (·.born)).Nodup
def MapG(T:MapT κ ν)(ok:κ->Prop)(m n:Nat)(f:κ->Option ν):Res where
  holds w S:=(∃es clock,w.heap[m]?=some (.map es clock)/\MapH T ok es clock n f)/\∀k,S k↔k=m
  keep:=λ⟨⟨es,c,h1,h2⟩,h3⟩ hk=>⟨⟨es,c,(hk m ((h3 m).2 rfl)).trans h1,h2⟩,h3⟩
  lt:=λ⟨⟨es,c,h1,_⟩,h3⟩ k hk=>by rw [(h3 k).1 hk];exact(bD.1 h1).1
def MapA(T:MapT κ ν)(ok:κ->Prop)(m n:Nat)(f:κ->Option ν)(w:World):Prop:=∃es clock,w.heap[m]?=some (.map es clock)/\MapH T ok es clock n f
instance{m n:Nat}{f:κ->Option ν}:Pst (MapA T ok m n f):=⟨λ_ _ ⟨es,c,h1,h2⟩ hb=>⟨es,c,(hb.block m (bD.1 h1).1).trans h1,h2⟩⟩
def map_own{m n:Nat}{f:κ->Option ν}{L:List LV}{R:List Res}{F M:World->Prop}(i:Nat)(hi:R[i]?=some (MapG T ok m n f)):∀G S w,View G S L R F M w->MapA T ok m n f w:=λ_ _ _ h=>by obtain⟨_,_,⟨h1,_⟩,_⟩:=h.res.at hi;exact h1
def putF[DecidableEq κ](f:κ->Option ν)(k:κ)(v:ν):κ->Option ν:=λx=>if x=k then some v else f x
def MapH.keys(hT:T.Ok ok){es:Array MapEntry}{clock n:Nat}{f:κ->Option ν}(h:MapH T ok es clock n f):∀e∈es.toList,∃l,keyOf prog T.kt e.key=some l:=λe he=>by obtain⟨k,v,hk,_,e1,_⟩:=h.of e he;rw [e1];exact hT.key k hk
def born_modify{es:Array MapEntry}{j:Nat}{g:MapEntry->MapEntry}(hg:∀e,(g e).born=e.born):(es.modify j g).toList.map (·.born)=es.toList.map (·.born):=by
 apply List.ext_getElem?;intro i;rw [cQ,cQ,fL,fL,oY];split
 .cases es[i]?<;>simp [hg]
 .rfl
theorem mapG_look(hT:T.Ok ok){w:World}{m n:Nat}{es:Array MapEntry}{clock:Nat}{f:κ->Option ν}{k:κ}{v:ν}(hb:w.heap[m]?=some (.map es clock))(h:MapH T ok es clock n f)(hk:ok k)(hv:f k=some v) :
  (iJ T.t (.map (some m)) (T.K k) true).run prog w = .ok (.tuple #[T.V v,.bool true]) w/\(iJ T.t (.map (some m)) (T.K k) false).run prog w = .ok (T.V v) w:=by
 obtain⟨kl,hkl⟩:=hT.key k hk;have hck:=hT.keyed.check w es.isEmpty hkl
 rcases hT.keyed.find w hkl es.toList (h.keys hT) with⟨f1,f2⟩|⟨j,e,f1,f2,f3⟩
 .obtain⟨e,he,e1,_⟩:=h.at_ k v hv;exact absurd e1 (f2 e he)
 .obtain⟨k',v',_,hf,e1,e2⟩:=h.of e (a8 f2)
  obtain rfl:k'=k:=hT.inj _ _ (e1.symm.trans f3);rw [hv] at hf;injection hf with hf;subst hf;have f1':(mG T.kt (T.K k') es.toList).run prog w = .ok (some (j,T.V v)) w:=by rw [<-e2];exact f1
  have hck':(nV es.isEmpty 10000 T.kt (T.K k')).run prog w = .ok () w:=hck;constructor<;>simp [iJ,run_underlying hT.und,gC hb,hck',f1',gE]
theorem mapG_put[DecidableEq κ](hT:T.Ok ok){w:World}{m n:Nat}{es:Array MapEntry}{clock:Nat}{f:κ->Option ν}{k:κ}(v:ν)(hb:w.heap[m]?=some (.map es clock))(h:MapH T ok es clock n f)(hk:ok k) :
  ∃w' es' c',(q9 T.t (.map (some m)) (T.K k) (T.V v)).run prog w = .ok () w'/\w'.heap[m]?=some (.map es' c')/\MapH T ok es' c' (if (f k).isSome then n else n+1) (putF f k v)/\w.grownBy w' (some m):=by
 obtain⟨kl,hkl⟩:=hT.key k hk;have hck:(nV false 10000 T.kt (T.K k)).run prog w = .ok () w:=hT.keyed.check w false hkl;have hst:(Instr.keyThatStays (T.K k) (T.K k)).run prog w = .ok (T.K k) w:=hT.keyed.stays w hkl;have hgr:∀es' c',w.grownBy (iB w m (.map es' c')) (some m):=λes' c'=>⟨rfl,rfl,rfl,by simp [iB],λi _ hi=>ChangeMaps.heap_setBlock_other hb _ (λe=>hi (by rw [e]))⟩
 rcases hT.keyed.find w hkl es.toList (h.keys hT) with⟨f1,f2⟩|⟨j,e,f1,f2,f3⟩
 .have hno:f k=none:=by
   cases hf:f k with
   | none=>rfl
   | some v0 =>
    obtain⟨x,hx,e1,_⟩:=h.at_ k v0 hf;exact absurd e1 (f2 x hx)
  have f1':(mG T.kt (T.K k) es.toList).run prog w = .ok none w:=f1;refine⟨_,es.push { key:=T.K k,val:=T.V v,born:=clock },clock+1,?_,pE hb _,⟨?_,?_,?_,?_,?_,?_⟩,hgr _ _⟩
  .simp [q9,run_underlying hT.und,gC hb,sH _ hb,hck,f1',gE];rfl
  .rw [Array.size_push,h.size,hno];rfl
  .intro x hx
   rw [l9] at hx;rcases bO.1 hx with hx|hx
   .obtain⟨k1,v1,o1,h1,e1,e2⟩:=h.of x hx;refine⟨k1,v1,o1,?_,e1,e2⟩;unfold putF;rw [if_neg (λe=>by rw [e,hno] at h1;cases h1),h1]
   .obtain rfl:x={ key:=T.K k,val:=T.V v,born:=clock }:=by simpa using hx
    exact⟨k,v,hk,if_pos rfl,rfl,rfl⟩
  .intro k1 v1 h1
   rw [l9];unfold putF at h1;split at h1
   .rename_i e;subst e;injection h1 with h1;subst h1;exact⟨_,lB _ (aE.2 rfl),rfl,rfl⟩
   .obtain⟨x,hx,e1⟩:=h.at_ k1 v1 h1;exact⟨x,jA _ hx,e1⟩
  .intro i i' x y hx hy hxy
   rw [Array.getElem?_push] at hx hy;split at hx<;>split at hy
   .omega
   .injection hx with hx;subst hx;exact absurd hxy.symm (f2 y (by simpa using nI hy))
   .injection hy with hy;subst hy;exact absurd hxy (f2 x (by simpa using nI hx))
   .exact h.one i i' x y hx hy hxy
  .intro x hx
   rw [l9] at hx;rcases bO.1 hx with hx|hx
   .have:=h.born x hx;omega
   .obtain rfl:x={ key:=T.K k,val:=T.V v,born:=clock }:=by simpa using hx
    exact kJ _
  .rw [l9,bS]
   refine sF.2 ⟨h.stamp,by simp,λa ha b hb e=>?_⟩;obtain⟨x,hx,rfl⟩:=aU.1 ha;have h1:=h.born x hx;have h2:b=clock:=by simpa using hb
   omega
 .have f4:es[j]?=some e:=by simpa using f2
  obtain⟨k0,v0,_,h0,e0,_⟩:=h.of e (a8 f2);obtain rfl:k0=k:=hT.inj _ _ (e0.symm.trans f3);have f1':(mG T.kt (T.K k0) es.toList).run prog w = .ok (some (j,e.val)) w:=f1;have f3':e.key=T.K k0:=f3;have hat:∀i,(es.modify j λe=>{ e with key:=T.K k0,val:=T.V v })[i]?=if j=i then(es[i]?).map λe=>{ e with key:=T.K k0,val:=T.V v } else es[i]?:=λi=>by rw [oY]
  refine⟨_,es.modify j λe=>{ e with key:=T.K k0,val:=T.V v },clock,?_,pE hb _,⟨?_,?_,?_,?_,?_,?_⟩,hgr _ _⟩
  .simp [q9,run_underlying hT.und,gC hb,sH _ hb,hck,f1',f4,f3',hst,gE];rfl
  .rw [Array.size_modify,h.size,h0];rfl
  .intro x hx
   obtain⟨i,hi⟩:=gP hx;rw [fL,hat] at hi;split at hi
   .rename_i hji;subst hji;rw [f4] at hi;injection hi with hi;subst hi;exact⟨k0,v,hk,if_pos rfl,rfl,rfl⟩
   .rename_i hji;obtain⟨k1,v1,o1,h1,e1,e2⟩:=h.of x (by simpa using nI hi);refine⟨k1,v1,o1,?_,e1,e2⟩;unfold putF;rw [if_neg (λe=>hji (h.one j i _ _ f4 hi (by rw [f3',e1,e]))),h1]
  .intro k1 v1 h1
   unfold putF at h1;split at h1
   .rename_i e9;subst e9;injection h1 with h1;subst h1;refine⟨{ e with key:=T.K k1,val:=T.V v },?_,rfl,rfl⟩;refine a8 (i:=j) ?_;rw [fL,hat,if_pos rfl,f4];rfl
   .rename_i hne;obtain⟨x,hx,e1,e2⟩:=h.at_ k1 v1 h1;obtain⟨i,hi⟩:=gP hx;rw [fL] at hi;refine⟨x,a8 (i:=i) ?_,e1,e2⟩;rw [fL,hat,if_neg,hi];rintro rfl;rw [f4] at hi;injection hi with hi;subst hi;exact hne (hT.inj _ _ (e1.symm.trans f3))
  .have hkey:∀(i:Nat) (x:MapEntry),(es.modify j λe=>{ e with key:=T.K k0,val:=T.V v })[i]?=some x->∃y,es[i]?=some y/\y.key=x.key:=λi x hx=>by
    rw [hat] at hx;split at hx
    .rename_i hji;subst hji;rw [f4] at hx;injection hx with hx;subst hx;exact⟨e,f4,f3⟩
    .exact⟨x,hx,rfl⟩
   intro i i' x y hx hy hxy;obtain⟨x',hx',ex⟩:=hkey i x hx;obtain⟨y',hy',ey⟩:=hkey i' y hy;exact h.one i i' x' y' hx' hy' (by rw [ex,ey,hxy])
  .intro x hx;have hm:x.born∈(es.modify j λe=>{ e with key:=T.K k0,val:=T.V v }).toList.map (·.born):=aU.2 ⟨x,hx,rfl⟩;rw [born_modify (g:=λe=>{ e with key:=T.K k0,val:=T.V v }) λ_=>rfl] at hm;obtain⟨y,hy,e9⟩:=aU.1 hm;rw [<-e9];exact h.born y hy
  .rw [born_modify (g:=λe=>{ e with key:=T.K k0,val:=T.V v }) λ_=>rfl];exact h.stamp
theorem mapG_none(hT:T.Ok ok){w:World}{m n:Nat}{es:Array MapEntry}{clock:Nat}{f:κ->Option ν}{k:κ}{z:ν}(hz:(zeroValue T.vt).run prog w = .ok (T.V z) w)(hb:w.heap[m]?=some (.map es clock))(h:MapH T ok es clock n f)(hk:ok k)(hv:f k=none) :
  (iJ T.t (.map (some m)) (T.K k) true).run prog w = .ok (.tuple #[T.V z,.bool false]) w/\(iJ T.t (.map (some m)) (T.K k) false).run prog w = .ok (T.V z) w:=by
 obtain⟨kl,hkl⟩:=hT.key k hk;have hck:(nV es.isEmpty 10000 T.kt (T.K k)).run prog w = .ok () w:=hT.keyed.check w es.isEmpty hkl
 rcases hT.keyed.find w hkl es.toList (h.keys hT) with⟨f1,f2⟩|⟨j,e,f1,f2,f3⟩
 .have f1':(mG T.kt (T.K k) es.toList).run prog w = .ok none w:=f1;constructor<;>simp [iJ,run_underlying hT.und,gC hb,hck,f1',hz,gE]
 .obtain⟨k',v',_,hf,e1,_⟩:=h.of e (a8 f2);obtain rfl:k'=k:=hT.inj _ _ (e1.symm.trans f3);rw [hv] at hf;cases hf
end
section
variable{b:Base}{ops:Array Oper}{Q:Exit->Act->World->Prop}{N:Nat}{E:SE}{L:List LV}{R:List Res}{F M:World->Prop}{o:Oper}{rest:List Oper}{k m n:Nat}{x y z:Operand}{κ ν:Type}{T:MapT κ ν}{ok:κ->Prop}{f:κ->Option ν}
theorem l_mkG(T:MapT κ ν)(ok:κ->Prop)(hg:o.guard=none)(hd:o.dst=some k)(hk:aT k N=true)(ho:o.op = .makeMap T.t none)
 (hn:∀m,lS prog b ops Q N rest ⟨(k,.v (.map (some m)))::E,L,MapG T ok m 0 (λ_=>none)::R,F,M⟩):lS prog b ops Q N (o::rest) ⟨E,L,R,F,M⟩:=λa w ⟨G,S,f1,f2,f3⟩=>by
 obtain⟨S',h⟩:=f3.gain (w':=w.alloc (.map #[] 0)) ((Below.refl _ w).alloc (aF _) _) (r:=MapG T ok w.heap.size 0 (λ_=>none)) (S':=λk=>k=w.heap.size) ⟨⟨#[],0,heap_alloc_new w _,⟨rfl,λ_ h=>(by simp at h),λ_ _ h=>(by cases h),λi j e f h _ _=>(by simp at h),λ_ h=>(by simp at h),by simp⟩⟩,λ_=>g8⟩ λk hk=>by omega
 refine wpl_go (v:=.map (some w.heap.size)) (w':=w.alloc (.map #[] 0)) (oneS hg) (by unfold execOp;simp only [ho,Option.map_none,aG,run_makeMap,aC,aI]) ?_
 rw [hd];exact hn _ _ _ ⟨G,S',f1.put hk _,f2.cons trivial,h⟩
theorem l_updG[DecidableEq κ](hT:T.Ok ok)(i:Nat)(hi:R[i]?=some (MapG T ok m n f))(q:κ)(v:ν)(hq:ok q)(hg:o.guard=none)(hd:o.dst=none)(ho:o.op = .mapUpdate T.t x y z)(hx:evS E x=some (.v (.map (some m))))(hy:evS E y=some (.q (T.kv q)))(hz:evS E z=some (.q (T.vv v)))
 (hn:lS prog b ops Q N rest ⟨E,L,R.set i (MapG T ok m (if (f q).isSome then n else n+1) (putF f q v)),F,M⟩):lS prog b ops Q N (o::rest) ⟨E,L,R,F,M⟩:=λa w ⟨G,S,f1,f2,f3⟩=>by
 obtain⟨S1,⟨⟨es,c,hb,hok⟩,hS1⟩,hput⟩:=f3.put hi;have e1:a.eval x = .map (some m):=f1.eval (evS_ok hx);have e2:a.eval y=T.K q:=f1.eval (evS_ok hy);have e3:a.eval z=T.V v:=f1.eval (evS_ok hz);obtain⟨w',es',c',hr,hb',hok',hgr⟩:=mapG_put hT v hb hok hq;obtain⟨S'',h6⟩:=hput (MapG T ok m (if (f q).isSome then n else n+1) (putF f q v)) w' S1 ((Chg.of_grown hgr).mono λk _ hk=>(hS1 k).2 (bL hk).symm) ⟨⟨es',c',hb',hok'⟩,hS1⟩ (λk hk _=>hk)
 refine wpl_skip (w':=w') (oneS hg) (by unfold execOp;simp only [ho,e1,e2,e3,hr,aG,aI,aC]) ?_
 rw [hd];exact hn _ _ ⟨G,S'',f1,f2,h6⟩
def runO_lookA(hT:T.Ok ok)(h:∀G S w,View G S L R F M w->MapA T ok m n f w)(q:κ)(v:ν)(hq:ok q)(hv:f q=some v)(ho:o.op = .lookup T.t x y false)(hx:evS E x=some (.v (.map (some m))))(hy:evS E y=some (.q (T.kv q))) :
  ∀(G:Nat->Nat) (S:Nat->Prop) (a:Act) (w:World),Fr N (denE G E) a->View G S L R F M w->(execOp a.eval o).run prog w = .ok (.value ((SV.q (T.vv v)).den G)) w:=λG S a w f1 hw=>by
 obtain⟨es,c,hb,hok⟩:=h G S w hw;have e1:a.eval x = .map (some m):=f1.eval (evS_ok hx);have e2:a.eval y=T.K q:=f1.eval (evS_ok hy);have e3:(SV.q (T.vv v)).den G=T.V v:=rfl
 unfold execOp
 simp only [ho,e1,e2,e3,(mapG_look hT hb hok hq hv).2,aG,aI,aC]
def runO_lookA2(hT:T.Ok ok)(h:∀G S w,View G S L R F M w->MapA T ok m n f w)(q:κ)(v:ν)(hq:ok q)(hv:f q=some v)(ho:o.op = .lookup T.t x y true)(hx:evS E x=some (.v (.map (some m))))(hy:evS E y=some (.q (T.kv q))) :
  ∀(G:Nat->Nat) (S:Nat->Prop) (a:Act) (w:World),Fr N (denE G E) a->View G S L R F M w->(execOp a.eval o).run prog w = .ok (.value ((SV.t [T.vv v,.c (.v (.bool true))]).den G)) w:=λG S a w f1 hw=>by
 obtain⟨es,c,hb,hok⟩:=h G S w hw;have e1:a.eval x = .map (some m):=f1.eval (evS_ok hx);have e2:a.eval y=T.K q:=f1.eval (evS_ok hy)
 unfold execOp
 simp only [ho,e1,e2,(mapG_look hT hb hok hq hv).1,aG,aI,aC]
 rfl
theorem runO_noneA(hT:T.Ok ok)(h:∀G S w,View G S L R F M w->MapA T ok m n f w)(q:κ)(v:ν)(hq:ok q)(hv:f q=none)(hzero:∀w,(zeroValue T.vt).run prog w = .ok (T.V v) w)(ho:o.op = .lookup T.t x y false)(hx:evS E x=some (.v (.map (some m))))(hy:evS E y=some (.q (T.kv q))) :
  ∀(G:Nat->Nat) (S:Nat->Prop) (a:Act) (w:World),Fr N (denE G E) a->View G S L R F M w->(execOp a.eval o).run prog w = .ok (.value ((SV.q (T.vv v)).den G)) w:=λG S a w f1 hw=>by
 obtain⟨es,c,hb,hok⟩:=h G S w hw;have e1:a.eval x = .map (some m):=f1.eval (evS_ok hx);have e2:a.eval y=T.K q:=f1.eval (evS_ok hy);have e3:(SV.q (T.vv v)).den G=T.V v:=rfl
 unfold execOp
 simp only [ho,e1,e2,e3,(mapG_none hT (hzero w) hb hok hq hv).2,aG,aI,aC]
def runO_noneA2(hT:T.Ok ok)(h:∀G S w,View G S L R F M w->MapA T ok m n f w)(q:κ)(v:ν)(hq:ok q)(hv:f q=none)(hzero:∀w,(zeroValue T.vt).run prog w = .ok (T.V v) w)(ho:o.op = .lookup T.t x y true)(hx:evS E x=some (.v (.map (some m))))(hy:evS E y=some (.q (T.kv q))) :
  ∀(G:Nat->Nat) (S:Nat->Prop) (a:Act) (w:World),Fr N (denE G E) a->View G S L R F M w->(execOp a.eval o).run prog w = .ok (.value ((SV.t [T.vv v,.c (.v (.bool false))]).den G)) w:=λG S a w f1 hw=>by
 obtain⟨es,c,hb,hok⟩:=h G S w hw;have e1:a.eval x = .map (some m):=f1.eval (evS_ok hx);have e2:a.eval y=T.K q:=f1.eval (evS_ok hy)
 unfold execOp
 simp only [ho,e1,e2,(mapG_none hT (hzero w) hb hok hq hv).1,aG,aI,aC]
 rfl
theorem runO_noneN(hT:T.Ok ok)(q:κ)(v:ν)(hq:ok q)(hzero:∀w,(zeroValue T.vt).run prog w = .ok (T.V v) w)(ho:o.op = .lookup T.t x y false)(hx:evS E x=some (.v (.map none)))(hy:evS E y=some (.q (T.kv q))) :
  ∀(G:Nat->Nat) (S:Nat->Prop) (a:Act) (w:World),Fr N (denE G E) a->View G S L R F M w->(execOp a.eval o).run prog w = .ok (.value ((SV.q (T.vv v)).den G)) w:=λG S a w f1 _=>by
 obtain⟨kl,hkl⟩:=hT.key q hq;have e1:a.eval x = .map none:=f1.eval (evS_ok hx);have e2:a.eval y=T.K q:=f1.eval (evS_ok hy);have e3:(SV.q (T.vv v)).den G=T.V v:=rfl;have hck:(nV true 10000 T.kt (T.K q)).run prog w = .ok () w:=hT.keyed.check w true hkl
 have hf:(mG T.kt (T.K q) []).run prog w = .ok none w:=by
  rcases hT.keyed.find w hkl [] (λ_ h=>by cases h) with⟨f1,_⟩|⟨j,e,_,f2,_⟩
  .exact f1
  .cases f2
 have hl:(iJ T.t (.map none) (T.K q) false).run prog w = .ok (T.V v) w:=by simp [iJ,run_underlying hT.und,hck,hf,hzero w,gE]
 unfold execOp
 simp only [ho,e1,e2,e3,hl,aG,aI,aC]
theorem runO_lenA(hT:T.Ok ok)(h:∀G S w,View G S L R F M w->MapA T ok m n f w)(ho:o.op = .call { callee:=.builtin .len,args:=#[x],argTypes:=#[T.t] })(hx:evS E x=some (.v (.map (some m)))) :
  ∀(G:Nat->Nat) (S:Nat->Prop) (a:Act) (w:World),Fr N (denE G E) a->View G S L R F M w->(execOp a.eval o).run prog w = .ok (.value ((SV.v (.int .i64 (n:Int))).den G)) w:=λG S a w f1 hw=>by
 obtain⟨es,c,hb,hok⟩:=h G S w hw;have e1:a.eval x = .map (some m):=f1.eval (evS_ok hx)
 have hl:(nE #[T.t] o.type #[.map (some m)]).run prog w = .ok (.int .i64 (n:Int)) w:=by rw [<-hok.size];simp [nE,run_underlying hT.und,gC hb,goInt]
 unfold execOp
 simp only [ho];generalize a.eval=ρ at *
 show _=mJ (l4 (.int .i64 (n:Int))) w
 go_simp
def runO_lenN(hT:T.Ok ok)(ho:o.op = .call { callee:=.builtin .len,args:=#[x],argTypes:=#[T.t] })(hx:evS E x=some (.v (.map none))) :
  ∀(G:Nat->Nat) (S:Nat->Prop) (a:Act) (w:World),Fr N (denE G E) a->View G S L R F M w->(execOp a.eval o).run prog w = .ok (.value ((SV.v (.int .i64 ((0:Nat):Int))).den G)) w:=λG S a w f1 _=>by
 have e1:a.eval x = .map none:=f1.eval (evS_ok hx)
 have hl:(nE #[T.t] o.type #[.map none]).run prog w = .ok (.int .i64 ((0:Nat):Int)) w:=by simp [nE,run_underlying hT.und,goInt]
 unfold execOp
 simp only [ho];generalize a.eval=ρ at *
 show _=mJ (l4 (.int .i64 ((0:Nat):Int))) w
 go_simp
end
def mapI_ok{K:IntKind}{ν:Type}{T:MapT Int ν}(hu:prog.underlying T.t=some (.map T.kt T.vt))(hk:prog.underlying T.kt=some (.int K))(hkv:T.kv=λn=>.c (.v (.int K n))):T.Ok λn=>(Lit.int K n).wf=true where
 und:=hu
 keyed:=Maps.int_keyed hk
 key k h:=by rw [hkv];exact⟨_,Maps.keyOf_int_mk hk h⟩
 inj k k' h:=by rw [hkv] at h;injection h
section
variable{κ ν:Type}{T:MapT κ ν}{ok:κ->Prop}{es:Array MapEntry}{clock n m r:Nat}{f:κ->Option ν}{seen:Array Nat}{done:List (κ×ν)}
structure DidM(T:MapT κ ν)(ok:κ->Prop)(es:Array MapEntry)(f:κ->Option ν)(seen:Array Nat)(done:List (κ×ν)):Prop where
  in_:∀d∈done,ok d.1/\f d.1=some d.2
  nodup:(done.map (·.1)).Nodup
  iff_:∀x∈es.toList,seen.contains x.born=true↔∃d∈done,x.key=T.K d.1
def DidM.nil:DidM T ok es f #[] []:=⟨λ_ h=>(by cases h),List.nodup_nil,λx _=>by simp⟩
theorem born_one{l:List MapEntry}(h:(l.map (·.born)).Nodup):∀{x y:MapEntry},x∈l->y∈l->x.born=y.born->x=y:=by
 induction l with
 | nil=>intro x _ hx;cases hx
 | cons a l ih =>
  intro x y hx hy e
  obtain⟨h1,h2⟩:=List.nodup_cons.1 h
  rcases aH.1 hx with e1|hx2<;>rcases aH.1 hy with e2|hy2
  .rw [e1,e2]
  .exact absurd (aU.2 ⟨y,hy2,by rw [<-e,e1]⟩) h1
  .exact absurd (aU.2 ⟨x,hx2,by rw [e,e2]⟩) h1
  .exact ih h2 hx2 hy2 e
theorem DidM.next(hH:MapH T ok es clock n f)(h:DidM T ok es f seen done){e:MapEntry}(he:e∈(leftOf es seen).toList):∃k v,ok k/\f k=some v/\e.key=T.K k/\e.val=T.V v/\(∀d∈done,d.1≠k)/\DidM T ok es f (seen.push e.born) (done++[(k,v)]):=by
 obtain⟨h1,h2⟩:=mem_left he;obtain⟨k,v,hk,hf,e1,e2⟩:=hH.of e h1;have hne:∀d∈done,d.1≠k:=λd hd hdk=>by have:=(h.iff_ e h1).2 ⟨d,hd,by rw [e1,hdk]⟩;rw [h2] at this;cases this
 refine⟨k,v,hk,hf,e1,e2,hne,⟨?_,?_,?_⟩⟩
 .intro d hd
  rcases bO.1 hd with hd|hd
  .exact h.in_ d hd
  .rw [aE.1 hd];exact⟨hk,hf⟩
 .rw [bS];refine sF.2 ⟨h.nodup,by simp,λa ha b hb e=>?_⟩;obtain⟨d,hd,rfl⟩:=aU.1 ha;exact hne d hd (e.trans (by simpa using hb))
 .intro x hx
  rw [contains_push,Bool.or_eq_true,h.iff_ x hx];constructor
  .rintro(⟨d,hd,e3⟩|e3)
   .exact⟨d,jA _ hd,e3⟩
   .obtain rfl:=born_one hH.stamp hx h1 (by simpa using e3);exact⟨(k,v),lB _ (aE.2 rfl),e1⟩
  .rintro⟨d,hd,e3⟩
   rcases bO.1 hd with hd|hd
   .exact .inl ⟨d,hd,e3⟩
   .rw [aE.1 hd] at e3;obtain⟨i,hi⟩:=gP hx;obtain⟨j,hj⟩:=gP h1;have:=hH.one i j x e (by simpa using hi) (by simpa using hj) (by rw [e3,e1]);subst this;rw [hi] at hj;injection hj with hj;subst hj;exact .inr (by simp)
def DidM.all(hT:T.Ok ok)(hH:MapH T ok es clock n f)(h:DidM T ok es f seen done)(h0:(leftOf es seen).size=0){k:κ}{v:ν}(hv:f k=some v):(k,v)∈done:=by obtain⟨e,he,e1,_⟩:=hH.at_ k v hv;obtain⟨d,hd,e2⟩:=(h.iff_ e he).1 (all_seen es seen h0 e he);have e3:d.1=k:=hT.inj _ _ (e2.symm.trans e1);have e4:=(h.in_ d hd).2;rw [e3,hv] at e4;injection e4 with e4;obtain⟨a,b⟩:=d;simp only at e3 e4;rw [<-e3,e4];exact hd
def LastM(T:MapT κ ν)(es:Array MapEntry)(seen:Array Nat)(q:κ)(v:ν):Prop:=∃e∈es.toList,∃s0:Array Nat,seen=s0.push e.born/\e.key=T.K q/\e.val=T.V v
def MapB(m:Nat)(es:Array MapEntry)(clock:Nat):Res where
  holds w S:=w.heap[m]?=some (.map es clock)/\∀k,S k↔k=m
  keep:=λ⟨h1,h2⟩ hk=>⟨(hk m ((h2 m).2 rfl)).trans h1,h2⟩
  lt:=λ⟨h1,h2⟩ k hk=>by rw [(h2 k).1 hk];exact(bD.1 h1).1
def MapE(m:Nat)(es:Array MapEntry)(clock:Nat)(w:World):Prop:=w.heap[m]?=some (.map es clock)
instance:Pst (MapE m es clock):=⟨λ_ _ h hb=>(hb.block m (bD.1 h).1).trans h⟩
def ItR(m:Option Nat)(r clock:Nat)(seen:Array Nat):Res where
  holds w S:=w.heap[r]?=some (.mapIter m clock seen clock)/\∀k,S k↔k=r
  keep:=λ⟨h1,h2⟩ hk=>⟨(hk r ((h2 r).2 rfl)).trans h1,h2⟩
  lt:=λ⟨h1,h2⟩ k hk=>by rw [(h2 k).1 hk];exact(bD.1 h1).1
end
section
variable{κ ν:Type}{T:MapT κ ν}{ok:κ->Prop}{es:Array MapEntry}{clock n m r:Nat}{f:κ->Option ν}{seen:Array Nat}{done:List (κ×ν)}
variable{b:Base}{G:Nat->Nat}{S:Nat->Prop}{ops:Array Oper}{Q:Exit->Act->World->Prop}{N:Nat}{E:SE}{L:List LV}{R:List Res}{F M:World->Prop}{o:Oper}{rest l:List Oper}{k:Nat}{x:Operand}{t kt e:TypeId}{w:World}
def mapE_own(i:Nat)(hi:R[i]?=some (MapB m es clock)):∀G S w,View G S L R F M w->MapE m es clock w:=λ_ _ _ h=>by obtain⟨_,_,⟨h1,_⟩,_⟩:=h.res.at hi;exact h1
def StW.openG(h:StW b G S L R F M w){i:Nat}(hi:R[i]?=some (MapG T ok m n f)):∃es clock S',MapH T ok es clock n f/\StW b G S' L (R.set i (MapB m es clock)) F M w:=by obtain⟨S1,⟨⟨es,c,h1,h2⟩,h3⟩,h4⟩:=h.put hi;obtain⟨S'',h5⟩:=h4 (MapB m es c) w S1 (Chg.refl _ _) ⟨h1,h3⟩ λ_ hk _=>hk;exact⟨es,c,S'',h2,h5⟩
def StW.closeG(h:StW b G S L R F M w){i:Nat}(hi:R[i]?=some (MapB m es clock))(hH:MapH T ok es clock n f):∃S',StW b G S' L (R.set i (MapG T ok m n f)) F M w:=by obtain⟨S1,⟨h1,h3⟩,h4⟩:=h.put hi;exact h4 (MapG T ok m n f) w S1 (Chg.refl _ _) ⟨⟨es,clock,h1,hH⟩,h3⟩ λ_ hk _=>hk
def l_openG(i:Nat)(hi:R[i]?=some (MapG T ok m n f))(hn:∀es clock,MapH T ok es clock n f->lS prog b ops Q N l ⟨E,L,R.set i (MapB m es clock),F,M⟩):lS prog b ops Q N l ⟨E,L,R,F,M⟩:=λa w ⟨G,S,h1,h2,h3⟩=>by obtain⟨es,c,S',h4,h5⟩:=h3.openG hi;exact hn es c h4 a w ⟨G,S',h1,h2,h5⟩
def k_openG{K:Act->World->Prop}(i:Nat)(hi:R[i]?=some (MapG T ok m n f))(hn:∀es clock,MapH T ok es clock n f->kS b K N ⟨E,L,R.set i (MapB m es clock),F,M⟩):kS b K N ⟨E,L,R,F,M⟩:=λa w ⟨G,S,h1,h2,h3⟩=>by obtain⟨es,c,S',h4,h5⟩:=h3.openG hi;exact hn es c h4 a w ⟨G,S',h1,h2,h5⟩
def k_closeG{K:Act->World->Prop}(T:MapT κ ν)(i:Nat)(hi:R[i]?=some (MapB m es clock))(hH:MapH T ok es clock n f)(hn:kS b K N ⟨E,L,R.set i (MapG T ok m n f),F,M⟩):kS b K N ⟨E,L,R,F,M⟩:=λa w ⟨G,S,h1,h2,h3⟩=>by obtain⟨S',h5⟩:=h3.closeG hi hH;exact hn a w ⟨G,S',h1,h2,h5⟩
def StW.freeB(h:StW b G S L R F M w){i:Nat}(hi:R[i]?=some (MapB m es clock)):∃S',StW b G S' L (R.eraseIdx i) (λw=>MapE m es clock w/\F w) M w:=by
 obtain⟨S1,S2,h1,h2,h3,h4⟩:=h.let hi;refine⟨S2,h4.and λw' hw=>?_⟩;have hg:S1 m:=(h1.2 m).2 rfl;refine(hw.block m (bD.1 h1.1).1 ?_).trans h1.1;rintro(hx|hx|⟨j,hj,e⟩)
 .obtain⟨hx1,hx2⟩:=h.old m hx;exact hx2 (h.mine m (.inl ((h3 m).2 (.inl hg))) hx1)
 .exact h2 m hg hx
 .exact h.sep j hj (by rw [e];exact(h3 m).2 (.inl hg))
def k_freeB{K:Act->World->Prop}(i:Nat)(hi:R[i]?=some (MapB m es clock))(hn:kS b K N ⟨E,L,R.eraseIdx i,λw=>MapE m es clock w/\F w,M⟩):kS b K N ⟨E,L,R,F,M⟩:=λa w ⟨G,S,h1,h2,h3⟩=>by obtain⟨S',h4⟩:=h3.freeB hi;exact hn a w ⟨G,S',h1,h2,h4⟩
theorem l_rangeM(hg:o.guard=none)(hd:o.dst=some k)(hk:aT k N=true)(ho:o.op = .range t x)(hu:prog.underlying t=some (.map kt e))(hx:evS E x=some (.v (.map (some m))))(hv:∀G S w,View G S L R F M w->MapE m es clock w)
 (hn:∀r,lS prog b ops Q N rest ⟨(k,.v (.pointer (some ⟨r,0,none⟩)))::E,L,ItR (some m) r clock #[]::R,F,M⟩):lS prog b ops Q N (o::rest) ⟨E,L,R,F,M⟩:=λa w ⟨G,S,f1,f2,f3⟩=>by
 have e1:a.eval x = .map (some m):=f1.eval (evS_ok hx)
 obtain⟨S',h⟩:=f3.gain (w':=w.alloc (.mapIter (some m) clock #[] clock)) ((Below.refl _ w).alloc (aF _) _) (r:=ItR (some m) w.heap.size clock #[]) (S':=λk=>k=w.heap.size) ⟨heap_alloc_new w _,λ_=>g8⟩ λk hk=>by omega
 refine wpl_go (v:=.pointer (some ⟨w.heap.size,0,none⟩)) (w':=w.alloc (.mapIter (some m) clock #[] clock)) (oneS hg) (by unfold execOp;simp only [ho,e1,aG,run_range_map w t kt e m es clock hu (hv G S w f3.view),aC,aI]) ?_
 rw [hd];exact hn _ _ _ ⟨G,S',f1.put hk _,f2.cons trivial,h⟩
theorem l_rangeN(hg:o.guard=none)(hd:o.dst=some k)(hk:aT k N=true)(ho:o.op = .range t x)(hu:prog.underlying t=some (.map kt e))(hx:evS E x=some (.v (.map none)))
 (hn:∀r,lS prog b ops Q N rest ⟨(k,.v (.pointer (some ⟨r,0,none⟩)))::E,L,ItR none r 0 #[]::R,F,M⟩):lS prog b ops Q N (o::rest) ⟨E,L,R,F,M⟩:=λa w ⟨G,S,f1,f2,f3⟩=>by
 have e1:a.eval x = .map none:=f1.eval (evS_ok hx)
 obtain⟨S',h⟩:=f3.gain (w':=w.alloc (.mapIter none 0 #[] 0)) ((Below.refl _ w).alloc (aF _) _) (r:=ItR none w.heap.size 0 #[]) (S':=λk=>k=w.heap.size) ⟨heap_alloc_new w _,λ_=>g8⟩ λk hk=>by omega
 refine wpl_go (v:=.pointer (some ⟨w.heap.size,0,none⟩)) (w':=w.alloc (.mapIter none 0 #[] 0)) (oneS hg) (by unfold execOp;simp only [ho,e1,aG,run_range_nilMap w t kt e hu,aC,aI]) ?_
 rw [hd];exact hn _ _ _ ⟨G,S',f1.put hk _,f2.cons trivial,h⟩
theorem l_nextM(hH:MapH T ok es clock n f)(hD:DidM T ok es f seen done)(hko:∀q,ok q->(T.kv q).Ok)(hvo:∀v,(T.vv v).Ok)(i:Nat)(hi:R[i]?=some (ItR (some m) r clock seen))(hg:o.guard=none)(hd:o.dst=some k)(hk:aT k N=true)(ho:o.op = .next x false)(hx:evS E x=some (.v (.pointer (some ⟨r,0,none⟩))))(hv:∀G S w,View G S L R F M w->MapE m es clock w)
 (h0:(leftOf es seen).size=0->lS prog b ops Q N rest ⟨(k,.t [.c (.v (.bool false))])::E,L,R,F,M⟩)
 (h1:∀q v seen',ok q->f q=some v->(∀d∈done,d.1≠q)->(leftOf es seen').size<(leftOf es seen).size->LastM T es seen' q v->DidM T ok es f seen' (done++[(q,v)])->lS prog b ops Q N rest ⟨(k,.t [.c (.v (.bool true)),T.kv q,T.vv v])::E,L,R.set i (ItR (some m) r clock seen'),F,M⟩):lS prog b ops Q N (o::rest) ⟨E,L,R,F,M⟩:=λa w ⟨G,S,f1,f2,f3⟩=>by
 have e1:a.eval x = .pointer (some ⟨r,0,none⟩):=f1.eval (evS_ok hx);have hb:=hv G S w f3.view;obtain⟨S1,⟨hr,hS1⟩,hput⟩:=f3.put hi
 rcases run_next_at (P:=prog) w o.type r m clock clock seen es clock hr hb hH.born (aF _) with⟨h2,hrun⟩|⟨e,he,w1,hal,hrun⟩
 .refine wpl_go (v:=.tuple #[.bool false]) (w':=w) (oneS hg) (by
   unfold execOp;simp only [ho,e1,aG,hrun,aC,aI]) ?_
  rw [hd];exact h0 h2 _ _ ⟨G,S,f1.put hk _,f2.cons (one_ok trivial),f3⟩
 .obtain⟨q,v,hq,hf,ek,ev,hne,hD'⟩:=hD.next hH he
  have hr1:w1.heap[r]?=some (.mapIter (some m) clock seen clock):=by rcases hal with rfl|rfl<;>exact hr
  have hset:=MapKept.heap_set (o':=.mapIter (some m) clock (seen.push e.born) clock) hr1;have hgr:w.grownBy (iB w1 r (.mapIter (some m) clock (seen.push e.born) clock)) (some r):=by rcases hal with rfl|rfl<;>exact⟨rfl,rfl,rfl,by simp [iB],λi _ hi=>hset.2 i (λe=>hi (by rw [e]))⟩
  obtain⟨S'',h6⟩:=hput (ItR (some m) r clock (seen.push e.born)) _ S1 ((Chg.of_grown hgr).mono λk _ hk=>(hS1 k).2 (bL hk).symm) ⟨hset.1,hS1⟩ λ_ hk _=>hk;refine wpl_go (v:=.tuple #[.bool true,e.key,e.val]) (w':=iB w1 r (.mapIter (some m) clock (seen.push e.born) clock)) (oneS hg) (by unfold execOp;simp only [ho,e1,aG,hrun,aC,aI]) ?_;rw [hd,ek,ev];exact h1 q v _ hq hf hne (left_shrinks es seen e he) ⟨e,(mem_left he).1,seen,rfl,ek,ev⟩ hD' _ _ ⟨G,S'',f1.put hk _,f2.cons (more_ok trivial (two_ok (hko q hq) (hvo v))),h6⟩
theorem l_nextN(i:Nat)(hi:R[i]?=some (ItR none r clock seen))(hg:o.guard=none)(hd:o.dst=some k)(hk:aT k N=true)(ho:o.op = .next x false)(hx:evS E x=some (.v (.pointer (some ⟨r,0,none⟩))))
 (h0:lS prog b ops Q N rest ⟨(k,.t [.c (.v (.bool false))])::E,L,R,F,M⟩):lS prog b ops Q N (o::rest) ⟨E,L,R,F,M⟩:=λa w ⟨G,S,f1,f2,f3⟩=>by
 have e1:a.eval x = .pointer (some ⟨r,0,none⟩):=f1.eval (evS_ok hx);obtain⟨S1,⟨hr,hS1⟩, -⟩:=f3.put hi
 have hrun:(Instr.next (.pointer (some ⟨r,0,none⟩)) false o.type).run prog w = .ok (.tuple #[.bool false]) w:=by simp [Instr.next,getObj,aG,Sem.run,hr,gE]
 refine wpl_go (v:=.tuple #[.bool false]) (w':=w) (oneS hg) (by unfold execOp;simp only [ho,e1,aG,hrun,aC,aI]) ?_
 rw [hd];exact h0 _ _ ⟨G,S,f1.put hk _,f2.cons (one_ok trivial),f3⟩
theorem runO_entry{q:κ}{v:ν}(hH:MapH T ok es clock n f)(i:Nat)(hi:R[i]?=some (ItR (some m) r clock seen))(hl:LastM T es seen q v)(hv:∀G S w,View G S L R F M w->MapE m es clock w)(ho:o.op = .entry x)(hx:evS E x=some (.v (.pointer (some ⟨r,0,none⟩)))) :
  ∀(G:Nat->Nat) (S:Nat->Prop) (a:Act) (w:World),Fr N (denE G E) a->View G S L R F M w->(execOp a.eval o).run prog w = .ok (.value ((SV.t [T.kv q,T.vv v]).den G)) w:=λG S a w f1 hw=>by
 have e1:a.eval x = .pointer (some ⟨r,0,none⟩):=f1.eval (evS_ok hx);obtain⟨_,_,⟨hr,_⟩,_⟩:=hw.res.at hi;obtain⟨e,he,s0,rfl,ek,ev⟩:=hl;have hrun:=run_entry_at (P:=prog) w r m clock s0 es clock e hr (hv G S w hw) he hH.stamp
 unfold execOp
 simp only [ho,e1,hrun,ek,ev,aG,aI,aC]
 rfl
theorem l_mkGn{y:Operand}{K:IntKind}{z:Int}(T:MapT κ ν)(ok:κ->Prop)(hT:T.Ok ok)(hg:o.guard=none)(hd:o.dst=some k)(hk:aT k N=true)(ho:o.op = .makeMap T.t (some y))(hy:evS E y=some (.v (.int K z)))
 (hn:∀m,lS prog b ops Q N rest ⟨(k,.v (.map (some m)))::E,L,MapG T ok m 0 (λ_=>none)::R,F,M⟩):lS prog b ops Q N (o::rest) ⟨E,L,R,F,M⟩:=λa w ⟨G,S,f1,f2,f3⟩=>by
 have e1:a.eval y = .int K z:=f1.eval (evS_ok hy)
 obtain⟨S',h⟩:=f3.gain (w':=w.alloc (.map #[] 0)) ((Below.refl _ w).alloc (aF _) _) (r:=MapG T ok w.heap.size 0 (λ_=>none)) (S':=λk=>k=w.heap.size) ⟨⟨#[],0,heap_alloc_new w _,⟨rfl,λ_ h=>(by simp at h),λ_ _ h=>(by cases h),λi j e f h _ _=>(by simp at h),λ_ h=>(by simp at h),by simp⟩⟩,λ_=>g8⟩ λk hk=>by omega
 have hrun:(Instr.makeMap T.t (some (.int K z))).run prog w = .ok (.map (some w.heap.size)) (w.alloc (.map #[] 0)):=by simp [Instr.makeMap,run_underlying hT.und,asInt,gE];rfl
 refine wpl_go (v:=.map (some w.heap.size)) (w':=w.alloc (.map #[] 0)) (oneS hg) (by unfold execOp;simp only [ho,Option.map_some,e1,aG,hrun,aC,aI]) ?_
 rw [hd];exact hn _ _ _ ⟨G,S',f1.put hk _,f2.cons trivial,h⟩
end
end Go.Proofs.YtdinohbahfdphaaGreatDoor
namespace Go.Proofs.YtdinohbahfdphaaGreatDoor
open Go.RowKit Go.IntWalk Nums
def nilH:HSeg:=⟨none,0,[]⟩
theorem keysD_mem:∀{l:List EntD} {id:List UInt8},bV l id≠[]->(id,bV l id)∈l
 | [],_,h=>(h rfl).elim
 | e::l,id,h=>by
  rw [dE] at h ⊢;by_cases c:e.1=id
  .rw [if_pos c];rw [<-c];exact aL
  .rw [if_neg c] at h ⊢;exact aJ _ (keysD_mem h)
def SmallD(l:List EntD):Prop:=∀e∈l,e.2.length<=64
def SmallD.keys{l:List EntD}(h:SmallD l)(id:List UInt8):(bV l id).length<=64:=by
 by_cases c:bV l id=[]
 .rw [c];exact aN _
 .exact h _ (keysD_mem c)
def SmallD.put{l:List EntD}{id:List UInt8}{ks:List (List UInt8)}(h:SmallD l)(hk:ks.length<=64):SmallD (j4 l id ks):=λe he=>by
 rcases lK he with rfl|he
 .exact hk
 .exact h e he
noncomputable def udH(u:UV):UD:=⟨u.id,u.ver,u.key,signB u⟩
def signB_ver{u:UV}(h:signB u=true):1<=u.ver/\u.ver<=64:=by unfold signB at h;rw [aM] at h;exact of_decide_eq_true h.1
def okD_iff{l:List EntD}{u:UV}:okD l (udH u)=true↔(signB u=true/\u.ver=((bV l u.id).length:Int)+1):=by unfold okD udH;rw [aM,decide_eq_true_eq]
def SmallD.step{l:List EntD}(h:SmallD l)(u:UV):SmallD (fG l (udH u)):=by
 unfold fG;split
 .rename_i hk;obtain⟨h1,h2⟩:=okD_iff.1 hk;have h3:=signB_ver h1;refine h.put ?_;show(bV l u.id++[u.key]).length<=64;rw [aA];show(bV l u.id).length+1<=64;omega
 .exact h
theorem putD_len:∀(l:List EntD) (id:List UInt8) (ks:List (List UInt8)),(j4 l id ks).length<=l.length+1
 | [],_,_=>aF _
 | e::l,id,ks=>by
  unfold j4;split
  .exact Nat.succ_le_succ (putD_len l id ks)
  .split
   .exact qL _
   .exact aF _
def stepD_len(l:List EntD)(u:UD):(fG l u).length<=l.length+1:=by
 unfold fG;split
 .exact putD_len _ _ _
 .exact qL _
def Tells(h:List UInt8->Option HSeg)(l:List EntD):Prop:=∀k,(∀s,h k=some s->s.l≠[]/\bV l k=s.l)/\(h k=none->bV l k=[])
def Tells.nil:Tells (λ_=>none) []:=λ_=>⟨λ_ h=>(by cases h),λ_=>rfl⟩
def Tells.put{h:List UInt8->Option HSeg}{l:List EntD}(ht:Tells h l)(k:List UInt8)(s:HSeg)(hs:s.l≠[]):Tells (putF h k s) (j4 l k s.l):=λx=>by
 unfold putF;rw [jM];by_cases c:x=k
 .rw [if_pos c,if_pos c];exact⟨λs' e=>by injection e with e;subst e;exact⟨hs,rfl⟩,λe=>by cases e⟩
 .rw [if_neg c,if_neg c];exact ht x
def overK(g:List UInt8->Option HSeg)(l:List EntD)(k:List UInt8):List (List UInt8):=match g k with
  | some s=>if s.l=[] then bV l k else s.l
  | none=>bV l k
abbrev entD(d:List UInt8×HSeg):EntD:=(d.1,d.2.l)
def buildD_one(l es:List EntD)(e:EntD):iM l (es++[e])=if e.2=[] then iM l es else j4 (iM l es) e.1 e.2:=by unfold iM;rw [List.foldl_append];rfl
theorem over_done{g:List UInt8->Option HSeg}{l:List EntD}{done:List (List UInt8×HSeg)}(hn:(done.map (·.1)).Nodup)(h1:∀d∈done,g d.1=some d.2)(h2:∀k s,g k=some s->(k,s)∈done)(k:List UInt8):bV (iM l (done.map entD)) k=overK g l k:=by
 have hp:(done.map entD).Pairwise λa b=>a.1≠b.1:=by rw [pB];exact pB.1 hn
 rw [mQ hp];unfold overK;cases hg:g k with
 | none =>
  rw [oV λe he hk=>?_,if_pos rfl];obtain⟨d,hd,rfl⟩:=aU.1 he;have:=h1 d hd;rw [show d.1=k from hk,hg] at this
  cases this
 | some s =>
  have:=oA hp (aU.2 ⟨_,h2 k s hg,rfl⟩);rw [show bV (done.map entD) k=s.l from this]
def over_none{g:List UInt8->Option HSeg}(h:∀k,g k=none)(l:List EntD)(k:List UInt8):overK g l k=bV l k:=by unfold overK;rw [h k]
theorem MapH.zero{κ ν:Type}{T:MapT κ ν}{ok:κ->Prop}{es:Array MapEntry}{clock:Nat}{f:κ->Option ν}(h:MapH T ok es clock 0 f)(k:κ):f k=none:=by
 cases hf:f k with
 | none=>rfl
 | some v =>
  obtain⟨e,he,_⟩:=h.at_ k v hf;have:=h.size;have h0:es.toList=[]:=List.eq_nil_of_length_eq_zero (by simpa using this);rw [h0] at he
  cases he
end Go.Proofs.YtdinohbahfdphaaGreatDoor
namespace Go.Proofs.YtdinohbahfdphaaGreatDoor
open Go.RowKit Go.IntWalk
abbrev FW(ro:Option Nat):Fence:={ nB with round:=ro }
class NoOut (Q:Exit->Act->World->Prop):Prop where
  no:∀a w,¬Q .outgrown a w
instance{K:Act->World->Prop}{Q:Exit->Act->World->Prop}[h:NoOut Q]:NoOut (Exit.then K Q):=⟨λa w hq=>h.no a w hq⟩
instance{id:Nat}{Q:Exit->Act->World->Prop}[h:NoOut Q]:NoOut (kQ id Q):=⟨λa w hq=>h.no a w hq⟩
instance{Q:Exit->Act->World->Prop}[h:NoOut Q]:NoOut (NoPanic Q):=⟨λa w hq=>h.no a w hq⟩
def calls_in{ro:Option Nat}{n:Nat}{P:Program}{f:FuncId}{args:Array Value}{w:World}{R:Ending->World->Prop}(h:Calls P f args w R):CallsIn (FW ro) n P f args w R:=(callsIn_wide (n:=n)).2 h
def rows_in{ro:Option Nat}{n:Nat}{P:Program}{row:String}{args:Array Value}{w:World}{R:Value->World->Prop}(h:Rows P row args w R):RowsIn (FW ro) n P row args w R:=λc cs _=>by obtain⟨v,w',r,s⟩:=h c cs;exact⟨v,w',r,(stepsIn_wide (P:=P)).2 s⟩
section
variable{P:Program}{ro:Option Nat}{n:Nat}{Q:Exit->Act->World->Prop}{ops:Array Oper}
def op_in[hQ:NoOut Q]{o:Oper}{a:Act}{w:World}{next:Act->World->Prop}(hd:∀c,o.op ≠ .defer c)(h:o.wp P a w next Q\/(o.asks P a w/\LetsOut Q)):o.wpIn (FW ro) n P a w next Q:=by
 rcases h with h|⟨_,a',w',h⟩
 .refine⟨λ_ _=>trivial,?_⟩
  rw [Oper.semAt_eq _ _ _ hd];unfold fJ at h;generalize (execOp a.eval o).run P w=r at *;cases r with
  | ok x w' =>
   cases x with
   | enter f args=>exact⟨λe=>(by cases e),calls_in h⟩
   | row row args=>exact⟨λe=>(by cases e),rows_in h⟩
   | _=>first|exact h|exact h.elim
  | halt x w'=>cases x<;>exact h
 .exact absurd h (hQ.no a' w')
def noDef(l:List Oper):Bool:=l.all λo=>match o.op with | .defer _=>false|_=>true
def noDef_mem{l:List Oper}(h:noDef l=true){o:Oper}(ho:o∈l):∀c,o.op ≠ .defer c:=λc e=>by have:=List.all_eq_true.1 h o ho;rw [e] at this;cases this
theorem list_in[NoOut Q]:∀{l:List Oper} {a:Act} {w:World},noDef l=true->wpList P ops Q l a w->wpListIn (FW ro) n P ops Q l a w
 | [],_,_,_,h=>h
 | o::l,a,w,hd,h=>by
  have hd':noDef l=true:=by unfold noDef at hd ⊢;rw [List.all_cons,aM] at hd;exact hd.2
  unfold wpList at h;unfold wpListIn;split
  .rename_i hw;rw [if_pos hw] at h;exact op_in (noDef_mem hd aL) (h.imp (Oper.wp_mono λa' w' h'=>list_in hd' h') id)
  .rename_i hw;rw [if_neg hw] at h;exact⟨λ_ _=>trivial,list_in hd' h⟩
end
def rS(ro:Option Nat)(n:Nat)(b:Base)(c:Code)(Q:Exit->Act->World->Prop)(N:Nat)(e:Env):Prop:=∀a w,St b N e a w->c.wpIn (FW ro) n prog Q a w
section
variable{T:List TyR}{ro:Option Nat}{n:Nat}{b:Base}{Q:Exit->Act->World->Prop}{N:Nat}{e e':Env}{E:SE}{L:List LV}{R:List Res}{F M:World->Prop}{id:Nat}{l l':List Oper}{x y:Code}
def r_lit[NoOut Q](hd:noDef l=true)(h:lS prog b l.toArray Q N l e):rS ro n b (.region id l.toArray false) Q N e:=λa w hs=>wpIn_region_lit (list_in hd (h a w hs))
def r_autoE{E':SE}{L':List LV}[NoOut Q](hd:noDef l=true)(hT:OkT prog T)(h:autoS T l.toArray N l E L=([],E',L'))(hn:kS b (Q .normal) N ⟨E',L',R,F,M⟩):rS ro n b (.region id l.toArray false) Q N ⟨E,L,R,F,M⟩:=r_lit hd (l_autoS hT h (zJ hn))
def r_block{c:Code}(h:rS ro n b c (kQ id Q) N e):rS ro n b (.block id c) Q N e:=λa w hs=>wpIn_block (h a w hs)
end
def YSpec(l:Nat)(args:List Value)(Fy:World->Prop)(r r1 r0:Res):Prop:=∀(w:World) (S:Nat->Prop),r.holds w S->Stb S Fy w->∀m,YieldAt nB m prog l args.toArray w λe w'=>∃(t:Bool) (S':Nat->Prop),e = .returned (.bool t)/\Chg S w w'/\(bif t then r1 else r0).holds w' S'/\∀k,S' k->k<w.heap.size->S k
def star1{r:Res}{w:World}{S:Nat->Prop}:starL [r] w S↔r.holds w S:=by
 constructor
 .rintro⟨S1,S2,h1,h2,h3,_⟩
  have:S=S1:=funext λk=>propext ⟨λh=>((h3 k).1 h).resolve_right (h2 k),λh=>(h3 k).2 (.inl h)⟩
  rwa [this]
 .exact λh=>⟨S,λ_=>False,h,λ_ h=>h,λk=>⟨.inl,λh=>h.elim id qR⟩,λ_ _ h=>h⟩
def tS(ro:Option Nat)(n:Nat)(b:Base)(ops:Array Oper)(Q:Exit->Act->World->Prop)(N:Nat)(l:List Oper)(e:Env):Prop:=∀a w,St b N e a w->wpListIn (FW ro) n prog ops Q l a w
section
variable{ro:Option Nat}{n:Nat}{b:Base}{ops:Array Oper}{Q:Exit->Act->World->Prop}{N:Nat}{e:Env}{E:SE}{L L0:List LV}{R R':List Res}{F M:World->Prop}{o:Oper}{rest l:List Oper}{k:Nat}{y:Operand}{xs:Array Operand}{ats:Array TypeId}{svs:List SV}{Inv:World->Prop}
def t_list[NoOut Q](hd:noDef l=true)(h:lS prog b ops Q N l e):tS ro n b ops Q N l e:=λa w hs=>list_in hd (h a w hs)
theorem t_yield{g:Nat}{r r1 r0:Res}{Fy:World->Prop}(args:List Value)(hg:o.guard=none)(hd:o.dst=some k)(hk:aT k N=true)(ho:o.op = .call { callee:=.value y,args:=xs,argTypes:=ats })(hy:evS E y=some (.v (.func (.yield g) #[] #[])))(hx:evSs E xs.toList=some svs)
 (ha:∀G:Nat->Nat,svs.map (SV.den G)=args)(hs:YSpec g args Fy r r1 r0)(hF:∀w,F w->M w->Fy w)(hn:∀t:Bool,tS ro n b ops Q N rest ⟨(k,.v (.bool t))::E,L,(bif t then r1 else r0)::R',F,M⟩):tS ro n b ops Q N (o::rest) ⟨E,L,r::R',F,M⟩:=λa w ⟨G,S,h1,h2,h3⟩=>by
 have hv:a.eval y = .func (.yield g) #[] #[]:=h1.eval (evS_ok hy);have hm:=map_eval (args:=(svs.map (SV.den G)).toArray) (h1.evals _ _ (by rw [evSs_ok hx]));rw [ha G] at hm;obtain⟨S1,S2,k1,k2,kS,kd⟩:=StW.split (own:=[r]) h3;obtain⟨fn,tmps,assign,body,hyr,hR⟩:=hs w S1 (star1.1 k1) ((h3.all.imp λw hw=>hF w hw.1 hw.2).less λk _ hk=>.inr (.inl ((kS k).2 (.inl hk)))) (n-1)
 have hrun:(execOp a.eval o).run prog w = .ok (.round g fn tmps assign body) w:=by unfold execOp;simp only [ho,resolve,hv,hm,Deferred.ofValue,aG,aI,aC,invoke];simp [hyr]
 unfold wpListIn
 rw [if_pos (by simp [aQ,hg])];refine⟨λ_ _=>trivial,?_⟩;rw [Oper.semAt_eq _ _ _ (λc e=>by rw [ho] at e;cases e),hrun];refine⟨λe=>(by cases e),?_⟩;have hR':RoundIn (FW ro) (n-1) prog g fn tmps assign body w _:=hR;refine hR'.mono ?_
 rintro ex w' ⟨t,S',rfl,hc,hr',hS'⟩
 rw [hd];have h5:=h1.put hk (.bool t);exact hn t _ w' ⟨G,λk=>S' k\/S2 k,h5,h2.cons trivial,StW.lent (own:=[r]) (own':=[bif t then r1 else r0]) h3 k2 kS kd hc (star1.2 hr') hS'⟩
instance{fn:Func}{b:Base}{α:Type}{post:Post α}:NoOut (bodyPost prog fn (endS b post)):=⟨λa w hq=>by obtain⟨_,_,h,_⟩:=hq;cases h⟩
def s_of_r{c:Code}(h:rS none 0 b c Q N e):cS prog b c Q N e:=λa w hs=>(wpIn_wide (n:=0)).1 (h a w hs)
end
def withD(ds:List Deferred)(a:Act):Act:={ a with defers:=a.defers++ds }
def put_withD(ds:List Deferred)(a:Act)(d:Option Tmp)(v:Value):(withD ds a).put d v=withD ds (a.put d v):=by cases d<;>rfl
def Qd(ds:List Deferred)(Q:Exit->Act->World->Prop):Exit->Act->World->Prop:=λe a w=>Q e (withD ds a) w
def dS(ds:List Deferred)(b:Base)(c:Code)(Q:Exit->Act->World->Prop)(N:Nat)(e:Env):Prop:=∀a w,St b N e a w->c.wp prog Q (withD ds a) w
def kD(ds:List Deferred)(b:Base)(K:Act->World->Prop)(N:Nat)(e:Env):Prop:=∀a w,St b N e a w->K (withD ds a) w
section
variable{P:Program}{ds:List Deferred}{Q:Exit->Act->World->Prop}{ops:Array Oper}
theorem op_withD{o:Oper}{a:Act}{w:World}{next next':Act->World->Prop}(hn:∀a w,next a w->next' (withD ds a) w)(h:o.wp P a w next (Qd ds Q)\/(o.asks P a w/\LetsOut (Qd ds Q))):o.wp P (withD ds a) w next' Q\/(o.asks P (withD ds a) w/\LetsOut Q):=by
 rcases h with h|⟨h1,a',w',h2⟩
 .refine .inl ?_
  unfold fJ at h ⊢;have e:(withD ds a).eval=a.eval:=rfl;rw [e];generalize (execOp a.eval o).run P w=r at *;cases r with
  | ok x w' =>
   cases x with
   | value v =>
    show next' ((withD ds a).put o.dst v) w'
    rw [put_withD];exact hn _ _ h
   | skip =>
    show next' ((withD ds a).put o.dst undef) w'
    rw [put_withD];exact hn _ _ h
   | defer d =>
    have h':next (({ a with defers:=d::a.defers }:Act).put o.dst undef) w':=h;have h2:=hn _ _ h';rw [<-put_withD] at h2;exact h2
   | enter f args =>
    have h':Calls P f args w' _:=h;refine h'.mono λe w'' he=>?_
    cases e with
    | returned v =>
     show next' ((withD ds a).put o.dst v) w''
     rw [put_withD];exact hn _ _ he
    | panicked c=>exact he
    | outgrown =>
     obtain⟨a1,w1,h1⟩:=he;exact⟨_,w1,h1⟩
   | row row args =>
    have h':Rows P row args w' _:=h;refine h'.mono λv w'' he=>?_
    show next' ((withD ds a).put o.dst v) w''
    rw [put_withD];exact hn _ _ he
   | _=>exact h.elim
  | halt x w'=>cases x<;>exact h
 .exact .inr ⟨h1,_,w',h2⟩
theorem list_withD:∀{l:List Oper} {a:Act} {w:World},wpList P ops (Qd ds Q) l a w->wpList P ops Q l (withD ds a) w
 | [],_,_,h=>h
 | o::l,a,w,h=>by
  unfold wpList at h ⊢;have e:(withD ds a).tmps=a.tmps:=rfl;rw [e];split
  .rename_i hw;rw [if_pos hw] at h;exact op_withD (λa' w' h'=>list_withD h') h
  .rename_i hw;rw [if_neg hw] at h;rw [put_withD];exact list_withD h
end
section
variable{T:List TyR}{ds:List Deferred}{b:Base}{Q:Exit->Act->World->Prop}{N:Nat}{e e':Env}{E:SE}{L:List LV}{R:List Res}{F M:World->Prop}{id:Nat}{l l':List Oper}{x y:Code}
def d_weak{c:Code}(hw:Weak e e')(h:dS ds b c Q N e'):dS ds b c Q N e:=λa w hs=>h a w (hs.weak hw)
def d_seq(h:∀K:Act->World->Prop,(∀e',dS ds b y Q N e'->kD ds b K N e')->dS ds b x (Exit.then K Q) N e):dS ds b (.seq x y) Q N e:=λa w hs =>
 wp_seq_k λK hK=>h K (λ_ h' a' w' hs'=>hK _ _ (h' a' w' hs')) a w hs
def d_lit(h:lS prog b l.toArray (Qd ds Q) N l e):dS ds b (.region id l.toArray false) Q N e:=λa w hs=>wp_region_lit (list_withD (h a w hs))
def d_auto{E':SE}{L':List LV}(hT:OkT prog T)(h:autoS T l.toArray N l E L=([],E',L'))(hn:dS ds b y Q N ⟨E',L',R,F,M⟩):dS ds b (.seq (.region id l.toArray false) y) Q N ⟨E,L,R,F,M⟩ :=
 d_seq λ_ hK=>d_lit (l_autoS hT h (zJ (hK _ hn)))
def d_regA{E':SE}{L':List LV}(hT:OkT prog T)(h:autoS T l.toArray N l E L=(l',E',L'))(hn:∀K:Act->World->Prop,(∀e',dS ds b y Q N e'->kD ds b K N e')->lS prog b l.toArray (Qd ds (Exit.then K Q)) N l' ⟨E',L',R,F,M⟩):dS ds b (.seq (.region id l.toArray false) y) Q N ⟨E,L,R,F,M⟩ :=
 d_seq λK hK=>d_lit (l_autoS hT h (hn K hK))
def d_end{ops:Array Oper}{K:Act->World->Prop}(h:kD ds b K N e):lS prog b ops (Qd ds (Exit.then K Q)) N [] e:=λa w hs=>h a w hs
def d_block{c:Code}(h:dS ds b c (kQ id Q) N e):dS ds b (.block id c) Q N e:=λa w hs=>wp_block (h a w hs)
def d_ret(h:kD ds b (Q .ret) N e):dS ds b .ret Q N e:=λa w hs=>wp_ret (h a w hs)
end
def DefR(D:Nat):Res where
  holds w S:=w.heap[D]?=some (.deferred (some []))/\∀k,S k↔k=D
  keep:=λ⟨h1,h2⟩ hk=>⟨(hk D ((h2 D).2 rfl)).trans h1,h2⟩
  lt:=λ⟨h1,h2⟩ k hk=>by rw [(h2 k).1 hk];exact(bD.1 h1).1
abbrev dD(D:Nat):Deferred:={ target:=.collected D,args:=#[] }
abbrev bodyM(fn:Func)(R:Ending->World->Prop):Exit->Act->World->Prop:=bodyPostM nB 0 prog fn R
def chg_putObj(w:World)(l:Nat)(o:Obj):Chg (λk=>k=l) w (w.putObj l o):=⟨rfl,rfl,rfl,by simp,λk _ hn=>World.putObj_heap_other hn⟩
def StW.drop{b:Base}{G:Nat->Nat}{S:Nat->Prop}{L:List LV}{r:Res}{R:List Res}{F M:World->Prop}{w w':World}{D:Nat}(h:StW b G S L (r::R) F M w)(hr:∀S1,r.holds w S1->S1 D)(hc:Chg (λk=>k=D) w w'):∃S2,StW b G S2 L R F M w':=by
 obtain⟨S1,S2,h1,h2,h3,h4⟩:=h.res;have hD:∀k,k=D->S1 k:=λk hk=>by rw [hk];exact hr S1 h1
 have:=h.chgd (R':=R) (S1:=S1) (S2:=S2) (S':=λ_=>False) h3 (hc.mono λk _ hk=>hD k hk) ((h2.keep λk hk=>hc.block k (h2.lt k hk) λe=>h4 k (hD k e) hk).same λk=>⟨.inr,λh=>h.elim qR id⟩) λ_ h _=>h.elim;exact⟨_,this⟩
theorem k_retM{b:Base}{fn:Func}{N:Nat}{E:SE}{L:List LV}{R:List Res}{F M:World->Prop}{α:Type}{post:Post α}:∀(Ds:List Nat),kS b (bodyPost prog fn (endS b post) .ret) N ⟨E,L,R,F,M⟩->kD (Ds.map dD) b (bodyM fn (endS b post) .ret) N ⟨E,L,Ds.map DefR++R,F,M⟩
 | [],h=>λa w hs=>by
  have h1:=(h a w hs).2;have e:(withD ([].map dD) a).defers=[]:=by obtain⟨G,S,h3⟩:=hs;show a.defers++[]=[];rw [bB];exact h3.fr.defers
  show LeavesInM nB 0 prog fn a.tmps (endS b post) (withD ([].map dD) a).defers .returning w;rw [e];exact h1
 | D::Ds,h=>λa w ⟨G,S,h1,h2,h3⟩=>by obtain⟨S1,S2,k1,_⟩:=h3.res;obtain⟨S3,h4⟩:=StW.drop (D:=D) h3 (λS1 hS=>(hS.2 D).2 rfl) (chg_putObj w D (.deferred none));have h5:=k_retM Ds h a _ ⟨G,S3,h1,h2,h4⟩;have e0:a.defers=[]:=h1.defers;show LeavesInM nB 0 prog fn a.tmps (endS b post) (a.defers++dD D::Ds.map dD) .returning w;have h6:LeavesInM nB 0 prog fn a.tmps (endS b post) (a.defers++Ds.map dD) .returning (w.putObj D (.deferred none)):=h5;rw [e0] at h6 ⊢;exact⟨λe=>(by cases e),.inl ⟨D,_,rfl,run_takeDeferred k1.1,h6⟩⟩
theorem spec_D{f:FuncId}{fn:Func}{c:Code}{own:List Res}{F:World->Prop}{α:Type}{post:Post α}(vs:List SQ)(N:Nat)(hf:prog.funcs[f]?=some fn)(hb:fn.body=some c)(hn:vs.length+(fn.ntmps-vs.length)=N)(hv:∀v∈vs,v.Ok)
 (h:∀b:Base,dS [] b c (bodyM fn (endS b post)) N ⟨argS 0 vs,[],own,F,λ_=>True⟩):Spec f (vs.map SQ.den) own F post:=λw S X hS hX hF=>by
 refine(callsIn_wide (n:=0)).1 (callsIn_of_wp_marks hf hb trivial ((wpIn_wide (n:=0)).2 ?_) rfl)
 have key:∀a,Fr N (denE (λ_=>0) (argS 0 vs)) a->c.wp prog (bodyM fn (endS ⟨X,w,S⟩ post)) a w:=λa ha=>by
  have h1:=h ⟨X,w,S⟩ a w ⟨λ_=>0,S,ha,argS_ok hv,λx hx=>(by cases hx),pC,hS,λx hx=>(by cases hx),?_,λ_ _=>trivial,Chg.refl _ _,λk hk _=>?_,hX⟩
  .have:withD [] a=a:=by
    unfold withD;rw [bB]
   rwa [this] at h1
  .exact hF.less λk _ hk=>hk.imp id λhk=>hk.elim id λ⟨j,hj,_⟩=>by cases hj
  .exact hk.elim id λ⟨j,hj,_⟩=>by cases hj
 exact key _ (Fr.start (by simpa using hn) _ λk v hk=>by rw [argS_den] at hk;have:=(argE_look (vs.map SQ.den) 0 k v hk).2;simpa using this)
end Go.Proofs.YtdinohbahfdphaaGreatDoor
namespace Go.Proofs.YtdinohbahfdphaaGreatDoor
open Go.RowKit Go.IntWalk Nums
def row_at{n:Nat}{l:List UInt8}{j:Nat}(hj:j<l.length):(catP [.agg n (By l).toArray])[0+1*j]?=some (.int .u8 ((l[j]!).toNat:Int)):=by rw [aX,Nat.one_mul];show(By l).toArray[j]?=_;exact By_get hj
def eP(p:PairT):SQ:=.p [.agg 32 (By p.1).toArray,.agg 32 (By p.2).toArray]
def OkT2(p:PairT):Prop:=p.1.length=32/\p.2.length=32
def eP_ok{p:PairT}(h:OkT2 p):OkP (eP p).parts1/\(eP p).cl.length=64:=by
 have h1:(By p.1).toArray.size=32:=by rw [aW,By_len,h.1]
 have h2:(By p.2).toArray.size=32:=by rw [aW,By_len,h.2]
 refine⟨λq hq=>?_,?_⟩
 .rcases aH.1 hq with rfl|hq
  .exact⟨h1,By_one p.1⟩
  .rw [aE.1 hq];exact⟨h2,By_one p.2⟩
 .rw [SQ.cl,bH];show(catP [Pt.agg 32 (By p.1).toArray,.agg 32 (By p.2).toArray]).size=64;rw [catP_cons,Array.size_append];simp [Pt.cells,catP,By_len,h.1,h.2]
abbrev PX:=Option Addr×Nat
theorem rootT_len:∀(r:Nat) (l:List PairT),(fX r l).length=32
 | r,[]=>by rw [oS];rfl
 | r,[p]=>by rw [mV];exact digest256_len _
 | 0,_::_::_=>rfl
 | r+1,p::q::l=>by rw [nJ (by simp)];exact digest256_len _
theorem runO_allQ{P:Program}{N:Nat}{E:SE}{o:Oper}{x:Operand}{t e:TypeId}{g off n sz:Nat}(ho:o.op = .slice t x none none none)(ht:P.underlying t=some (.array n e))(he:(P.info? e).map (·.size)=some sz)(hx:evS E x=some (.v (.pointer (some ⟨g,off,none⟩)))) :
  ∀(G:Nat->Nat) (a:Act) (w:World),Fr N (denE G E) a->(execOp a.eval o).run P w = .ok (.value ((SV.v (.slice (some ⟨g,off,none⟩) n n)).den G)) w:=λG a w ha=>by
 have h1:a.eval x = .pointer (some ⟨g,off,none⟩):=ha.eval (evS_ok hx);have h5:=run_sizeOf he w
 unfold execOp
 simp only [ho];generalize a.eval=ρ at *;simp only [Option.map,h1]
 show _=mJ (l4 (.slice (some ⟨g,off,none⟩) n n)) w
 simp [Instr.sliceAt,Instr.sureAddr,run_underlying ht,Instr.sliceBounds,h5,aG,cM]
def eP_cl(p:PairT):(eP p).cl=By p.1++By p.2:=by show(catP [Pt.agg 32 (By p.1).toArray,.agg 32 (By p.2).toArray]).toList=_;rw [catP_cons];simp [Pt.cells,catP]
theorem rd_pair{g o c i:Nat}{l:List PairT}{p:PairT}{w:World}(h:Rd 64 eP (some ⟨g,o,none⟩) c l w)(hi:l[i]?=some p)(hp:OkT2 p) :
  SB w (.slice (some ⟨g,o+64*i,none⟩) 32 32) p.1/\SB w (.slice (some ⟨g,o+64*i+32,none⟩) 32 32) p.2:=by
 obtain⟨_,_,_,_,h5⟩:=h;obtain⟨b',o',e,hb,hr⟩:=h5 (c7 (aN _) (aP.1 hi).1)
 injection e with e
 injection e with e1 e2
 subst e1;subst e2;have hr:=hr i p hi;rw [eP_cl] at hr
 have hl1:(By p.1).length=32:=by rw [By_len];exact hp.1
 refine⟨⟨_,_,by rw [hp.1],by rw [hp.1];exact aF _,by decide,λh=>(by cases h),λ_=>⟨_,rfl,aN _,hb,λj x hx=>?_⟩⟩,⟨_,_,by rw [hp.2],by rw [hp.2];exact aF _,by decide,λh=>(by cases h),λ_=>⟨_,rfl,aN _,hb,λj x hx=>?_⟩⟩⟩
 .have hj:j<32:=by rw [<-hp.1];exact(aP.1 hx).1
  rw [cM];refine hr j _ ?_;rw [List.getElem?_append_left (by omega)];simp [By,hx]
 .rw [cM,Nat.add_assoc (o+64*i)];refine hr (32+j) _ ?_;rw [List.getElem?_append_right (by omega),hl1,Nat.add_sub_cancel_left];simp [By,hx]
inductive TA where
  | nil
  | leaf (g h:Nat) (p:PairT)
  | node (g:Nat) (a b:TA)
namespace TA
def ptr:TA->Option Nat
  | nil=>none
  | leaf g _ _=>some g
  | node g _ _=>some g
def root:TA->List UInt8
  | nil=>dR
  | leaf _ _ p=>jS p
  | node _ a b=>gX a.root b.root
def len:TA->Nat
  | nil=>0
  | leaf _ _ _=>1
  | node _ a b=>a.len+b.len
def val(t:TA):Value:=.pointer (t.ptr.map λg=>⟨g,0,none⟩)
def all:TA->List PairT
  | nil=>[]
  | leaf _ _ p=>[p]
  | node _ a b=>a.all++b.all
end TA
def prPs(p:PairT):List Pt:=[.agg 32 (By p.1).toArray,.agg 32 (By p.2).toArray]
def lfPs(h:Nat)(p:PairT):List Pt:=[.agg 32 (By (jS p)).toArray,.one (.v (.int .i64 1)),.one (.v (.pointer (some ⟨h,0,none⟩))),.agg 2 #[.pointer none,.pointer none]]
def ndPs(a b:TA):List Pt:=[.agg 32 (By (gX a.root b.root)).toArray,.one (.v (.int .i64 ((a.len+b.len:Nat):Int))),.one (.v (.pointer none)),.agg 2 #[a.val,b.val]]
def TF:TA->World->Prop
  | .nil,_=>True
  | .leaf g h p,w=>ObjF g 235 (lfPs h p) w/\ObjF h 218 (prPs p) w
  | .node g a b,w=>ObjF g 235 (ndPs a b) w/\TF a w/\TF b w
theorem TF.later:∀{t:TA} {w w':World},TF t w->Below w.heap.size w w'->TF t w'
 | .nil,_,_,_,_=>trivial
 | .leaf _ _ _,_,_,h,k=>⟨⟨h.1.1.later k,h.1.2⟩,⟨h.2.1.later k,h.2.2⟩⟩
 | .node _ _ _,_,_,h,k=>⟨⟨h.1.1.later k,h.1.2⟩,h.2.1.later k,h.2.2.later k⟩
instance{t:TA}:Pst (TF t):=⟨λ_ _ h k=>h.later k⟩
theorem TA.root_len:∀t:TA,t.root.length=32
 | .nil=>rfl
 | .leaf _ _ _=>digest256_len _
 | .node _ _ _=>digest256_len _
def TOk:Nat->List PairT->TA->Prop
  | _,l,.nil=>l=[]
  | _,l,.leaf _ _ p=>l=[p]
  | 0,_,.node _ _ _=>False
  | r+1,l,.node _ a b=>2<=l.length/\TOk r (cJ (255-r) l) a/\TOk r (bU (255-r) l) b
theorem TOk.root:∀{r:Nat} {l:List PairT} {t:TA},TOk r l t->t.root=fX r l
 | r,l,.nil,h=>by
  have h:l=[]:=by cases r<;>exact h
  subst h;exact(oS r).symm
 | r,l,.leaf _ _ p,h=>by
  have h:l=[p]:=by cases r<;>exact h
  subst h;exact(mV r p).symm
 | 0,_,.node _ _ _,h=>h.elim
 | r+1,l,.node _ a b,h=>by obtain⟨h1,h2,h3⟩:=h;rw [nJ h1,<-h2.root,<-h3.root];rfl
theorem sides_len(d:Nat)(l:List PairT):(cJ d l).length+(bU d l).length=l.length:=by
 unfold cJ bU;induction l with
 | nil=>rfl
 | cons x l ih =>
  by_cases h:cL x.1 d=0
  .simp [h] at ih ⊢;omega
  .simp [h] at ih ⊢;omega
theorem TOk.len:∀{r:Nat} {l:List PairT} {t:TA},TOk r l t->t.len=l.length
 | r,l,.nil,h=>by
  have h:l=[]:=by cases r<;>exact h
  subst h;rfl
 | r,l,.leaf _ _ p,h=>by
  have h:l=[p]:=by cases r<;>exact h
  subst h;rfl
 | 0,_,.node _ _ _,h=>h.elim
 | r+1,l,.node _ a b,h=>by obtain⟨h1,h2,h3⟩:=h;have:=sides_len (255-r) l;show a.len+b.len=_;rw [h2.len,h3.len,this]
def low1T(m:Nat)(h:m<256):bits .and .u8 (m:Int) 1=((m%2:Nat):Int):=by
 have key:∀m:Nat,m<256->bits .and .u8 (m:Int) 1=((m%2:Nat):Int):=by decide +kernel
 exact key m h
def run_shr8{N:Nat}{E:SE}{o:Oper}{x y:Operand}{t':TypeId}{m n:Nat}(hn:n<=8)(ho:o.op = .binOp .shr 5 x y t')(hx:evS E x=some (.v (.int .u8 (m:Int))))(hy:evS E y=some (.v (.int .u8 (n:Int)))) :
  ∀(G:Nat->Nat) (a:Act) (w:World),Fr N (denE G E) a->(execOp a.eval o).run prog w = .ok (.value ((SV.v (.int .u8 ((m/2^n:Nat):Int))).den G)) w:=λG a w ha=>by
 have h1:a.eval x = .int .u8 (m:Int):=ha.eval (evS_ok hx);have h2:a.eval y = .int .u8 (n:Int):=ha.eval (evS_ok hy)
 have h3:(n:Int)<=8:=by omega
 unfold execOp
 simp only [ho,h1,h2]
 go_simp
 rfl
def run_and8{N:Nat}{E:SE}{o:Oper}{x y:Operand}{t':TypeId}{m n:Int}(ho:o.op = .binOp .and 5 x y t')(hx:evS E x=some (.v (.int .u8 m)))(hy:evS E y=some (.v (.int .u8 n))) :
  ∀(G:Nat->Nat) (a:Act) (w:World),Fr N (denE G E) a->(execOp a.eval o).run prog w = .ok (.value ((SV.v (.int .u8 (bits .and .u8 m n))).den G)) w:=λG a w ha=>by
 have h1:a.eval x = .int .u8 m:=ha.eval (evS_ok hx);have h2:a.eval y = .int .u8 n:=ha.eval (evS_ok hy)
 unfold execOp
 simp only [ho,h1,h2]
 go_simp
 rfl
def wrapB{m r:Int}(h:m=r)(h1:0<=r)(h2:r<256):IntKind.u8.wrap m=r:=by subst h;unfold uH;simp [qC,oI];omega
def own_tbit:Own 150:=λ_ _=>by go_simp
theorem tbit_S{k:List UInt8}(hk:k.length=32)(n:Nat)(hn:n<256):Spec 150 [(eY 32 k).den,.int .u8 (n:Int)] [] (λ_=>True) (one (.v (.int .u8 ((cL k n:Nat):Int)))):=by refine zQ [eY 32 k,.c (.v (.int .u8 (n:Int)))] 14 func150 rfl (by rw [ntmps150];rfl) (two_ok (eY_ok hk).1 trivial) λb=>?_;refine zA rfl (zC rfl λK hK=>?_);refine l_num 6 ((n/8:Nat):Int) rfl (wrapB (by rw [Int.tdiv_eq_ediv_of_nonneg (by omega)];omega) (by omega) (by omega)) ?_;refine l_op (.a 2 (0+1*(n/8))) trivial rfl rfl rfl (runO_ixA (n/8) rfl underlying47 rfl rfl rfl (by omega)) ?_;refine l_opV (.v (.int .u8 ((k[n/8]!).toNat:Int))) trivial rfl rfl rfl (runO_ldA _ rfl rfl rfl (row_at (by omega)) underlying5 rfl) ?_;have hlt:=(k[n/8]!).toNat_lt;have hb:cL k n=(k[n/8]!).toNat/2^(7-n%8)%2:=rfl;generalize (k[n/8]!).toNat=v at *;refine zB rfl ?_;refine l_num 11 ((7-n%8:Nat):Int) rfl (wrapB (by rw [Int.tmod_eq_emod_of_nonneg (by omega)];omega) (by omega) (by omega)) ?_;refine l_op (.v (.int .u8 ((v/2^(7-n%8):Nat):Int))) trivial rfl rfl rfl (run_shr8 (by omega) rfl rfl rfl) ?_;have h2:v/2^(7-n%8)<256:=c7 (gG _ _) hlt;generalize v/2^(7-n%8)=z at *;refine l_op (.v (.int .u8 (bits .and .u8 (z:Int) 1))) trivial rfl rfl rfl (run_and8 rfl rfl rfl) (l_num 13 ((z%2:Nat):Int) rfl (low1T z h2) (zB rfl (zJ (hK _ ?_))));exact zP (zR zY () rfl (by decide) rfl (congrArg (λx:Nat=>RV.v (.int .u8 (x:Int))) hb) rfl (λ_ _ _=>trivial) zU)
theorem tsize_S(t:TA):Spec 147 [t.val] [] (TF t) (one (.v (.int .i64 (t.len:Int)))):=by
 refine zQ [.c (.v t.val)] 9 func147 rfl (by rw [ntmps147];rfl) (one_ok trivial) λb=>?_;refine zA rfl (zM λK hK=>?_);cases t with
 | nil =>
  refine zA rfl (s_yes rfl (zA rfl ?_));exact zP (zR zY () rfl (by decide) rfl rfl rfl (λ_ _ _=>trivial) zU)
 | leaf g h p =>
  refine zA rfl (s_no rfl (zO (hK _ (zC rfl λK2 hK2=>l_ldO zY rfl rfl rfl rfl rfl rfl (obj_fact λ_ h _=>h.1) (zB rfl (zJ (hK2 _ ?_)))))));exact zP (zR zY () rfl (by decide) rfl rfl rfl (λ_ _ _=>trivial) zU)
 | node g x y =>
  refine zA rfl (s_no rfl (zO (hK _ (zC rfl λK2 hK2=>l_ldO zY rfl rfl rfl rfl rfl rfl (obj_fact λ_ h _=>h.1) (zB rfl (zJ (hK2 _ ?_)))))));exact zP (zR zY () rfl (by decide) rfl rfl rfl (λ_ _ _=>trivial) zU)
theorem thash_S(t:TA):Spec 90 [t.val] [] (TF t) (one (.q (eY 32 t.root))):=by
 refine zQ [.c (.v t.val)] 10 func90 rfl (by rw [ntmps90];rfl) (one_ok trivial) λb=>?_;refine zA rfl (zM λK hK=>?_);cases t with
 | nil =>
  refine zA rfl (s_yes rfl (zA rfl ?_));exact zP (zR zY () rfl (by decide) rfl rfl rfl (λ_ _ _=>trivial) zU)
 | leaf g h p =>
  refine zA rfl (s_no rfl (zO (hK _ (zC rfl λK2 hK2=>l_ldO zY rfl rfl rfl rfl rfl rfl (obj_fact λ_ h _=>h.1) (zB rfl (zJ (hK2 _ ?_)))))));exact zP (zR zY () rfl (by decide) rfl rfl rfl (λ_ _ _=>trivial) zU)
 | node g x y =>
  refine zA rfl (s_no rfl (zO (hK _ (zC rfl λK2 hK2=>l_ldO zY rfl rfl rfl rfl rfl rfl (obj_fact λ_ h _=>h.1) (zB rfl (zJ (hK2 _ ?_)))))));exact zP (zR zY () rfl (by decide) rfl rfl rfl (λ_ _ _=>trivial) zU)
end Go.Proofs.YtdinohbahfdphaaGreatDoor
namespace Go.Proofs.YtdinohbahfdphaaGreatDoor
open Go.RowKit Go.IntWalk Nums
section
variable{P:Program}{b:Base}{ops:Array Oper}{Q:Exit->Act->World->Prop}{N:Nat}{E E':SE}{L:List LV}{R:List Res}{F M:World->Prop}{g:Nat}{t:TypeId}{ps:List Pt}
def StW.objOut{G:Nat->Nat}{S:Nat->Prop}{w:World}(h:StW b G S L R F M w){i:Nat}(hi:R[i]?=some (ObjS g t ps)):∃S',StW b G S' L (R.eraseIdx i) (λw=>ObjF g t ps w/\F w) M w:=by
 obtain⟨S1,S2,h1,h2,h3,h4⟩:=h.let hi;refine⟨S2,h4.and λw' hw=>⟨?_,h1.1.2⟩⟩;have hg:S1 g:=(h1.2 g).2 rfl;have hlt:=h1.1.1.lt;have hnot:¬Dof b.X S2 G L g:=by
  rintro(hx|hx|⟨j,hj,e⟩)
  .obtain⟨hx1,hx2⟩:=h.old g hx;exact hx2 (h.mine g (.inl ((h3 g).2 (.inl hg))) hx1)
  .exact h2 g hg hx
  .exact h.sep j hj (by rw [e];exact(h3 g).2 (.inl hg))
 exact(hw.block g hlt hnot).trans h1.1.1
def k_objOut{K:Act->World->Prop}(i:Nat)(hi:R[i]?=some (ObjS g t ps))(h:kS b K N ⟨E,L,R.eraseIdx i,λw=>ObjF g t ps w/\F w,M⟩):kS b K N ⟨E,L,R,F,M⟩:=λa w ⟨G,S,h1,h2,h3⟩=>by obtain⟨S',h4⟩:=h3.objOut hi;exact h a w ⟨G,S',h1,h2,h4⟩
def l_objOut{l:List Oper}(i:Nat)(hi:R[i]?=some (ObjS g t ps))(h:lS P b ops Q N l ⟨E,L,R.eraseIdx i,λw=>ObjF g t ps w/\F w,M⟩):lS P b ops Q N l ⟨E,L,R,F,M⟩:=λa w ⟨G,S,h1,h2,h3⟩=>by obtain⟨S',h4⟩:=h3.objOut hi;exact h a w ⟨G,S',h1,h2,h4⟩
def l_give{l:List Oper}{y:LV}(i:Nat)(hx:lookS E i=some (.a y.j 0))(hs:SubS E' E)(h:∀g,lS P b ops Q N l ⟨(i,.v (.pointer (some ⟨g,0,none⟩)))::E',L,ObjS g y.t y.ps::R,F,M⟩):lS P b ops Q N l ⟨E,y::L,R,F,M⟩:=k_give (K:=λa w=>wpList P ops Q l a w) i hx hs h
end
instance:Pst Tsh:=⟨λ_ _ h hb=>h.below hb⟩
def own_tsum:Own 114:=λ_ _=>by go_simp
def own_tinner:Own 151:=λ_ _=>by go_simp
def prPs_ok{p:PairT}(h:OkP (prPs p)):OkT2 p:=by have h1:=(h (.agg 32 (By p.1).toArray) (by simp [prPs])).1;have h2:=(h (.agg 32 (By p.2).toArray) (by simp [prPs])).1;rw [aW,By_len] at h1 h2;exact⟨h1,h2⟩
def obj_pair{h:Nat}{t:TypeId}{p:PairT}{w:World}(hF:ObjF h t (prPs p) w):Rd 64 eP (some ⟨h,0,none⟩) 1 [p] w:=by
 refine⟨aF _,by decide,λe=>(by cases e),λx hx=>?_,λ_=>⟨h,0,rfl,hF.1.lt,λi x hx=>?_⟩⟩
 .rw [aE.1 hx];exact eP_ok (prPs_ok hF.2)
 .cases i with
  | zero =>
   simp only [List.getElem?_cons_zero,a9] at hx;subst hx;exact range_of (A:=[]) (Z:=[]) hF.1 (by simp [SQ.cl,SQ.den,eP,Value.cells,prPs])
  | succ i=>simp at hx
theorem tleaf_S(h:Nat)(p:PairT):Spec 149 [.pointer (some ⟨h,0,none⟩)] [] (λw=>ObjF h 218 (prPs p) w/\Tsh w) { ret:=λg:Nat=>.v (.pointer (some ⟨g,0,none⟩)),own:=λ_=>[],p:=λg=>TF (.leaf g h p) }:=by
 refine zQ [.c (.v (.pointer (some ⟨h,0,none⟩)))] 17 func149 rfl (by rw [ntmps149];rfl) (one_ok trivial) λb=>?_;refine s_pure (OkT2 p) (λw hw _=>prPs_ok hw.1.2) λhp=>?_;refine zA rfl ?_;refine s_regH 13 (by decide) (by kernel_rfl) (by kernel_rfl) λK hK G S w0 hst=>?_;refine h_lit zY [(0:UInt8)] rfl rfl rfl rfl rfl rfl (λ_=>rfl) rfl (by decide) (by decide) λB=>?_;refine zV hst rfl (h_op hst (.v (.slice (some ⟨h,0+64*0,none⟩) 32 32)) trivial rfl rfl rfl rfl (runO_allQ rfl underlying47 rfl rfl) (zV hst rfl (h_op hst (.v (.slice (some ⟨h,0+64*0+32,none⟩) 32 32)) trivial rfl rfl rfl rfl (runO_allQ rfl underlying47 rfl rfl) ?_)));refine h_parts [.slice (some ⟨B,0,none⟩) 1 1,.slice (some ⟨h,0+64*0,none⟩) 32 32,.slice (some ⟨h,0+64*0+32,none⟩) 32 32] [[0],p.1,p.2] hst rfl rfl rfl rfl rfl rfl rfl (by decide) (by decide) (λw hw hu=>?_) λA=>?_
 .have h1:=rd_pair (i:=0) (obj_pair hw.fact.1) rfl hp;have h2:Rd 1 eB (some ⟨B,0,none⟩) 1 [0] w:=hu 0 _ rfl (by kernel_rfl);exact⟨h2.sb,h1.1,h1.2,trivial⟩
 refine h_call (r:=.q (eY 32 (jS p))) hst [.slice (some ⟨A,0,none⟩) 3 3] rfl rfl rfl rfl own_tsum rfl rfl (λ_=>rfl) (eY_ok (n:=32) (digest256_len _)).1 (λw hw hu=>?_) ?_
 .have hA:PT w (some ⟨A,0,none⟩) [[0],p.1,p.2]:=hu 9 _ rfl (by kernel_rfl)
  have hr2:=sum256_f (some ⟨A,0,none⟩) [[0],p.1,p.2] 3 w hw.fact.2 hA (by simp) (by simp);have e:jS p=dB dC [[0],p.1,p.2].flatten:=by simp [jS]
  show Calls prog _ _ w λe w'=>e = .returned (.agg (By (jS p)).toArray)/\_;rw [e];exact hr2
 refine zV hst rfl (h_end hst (zB rfl (zJ (hK _ (zP (k_give 2 rfl (E':=[]) trivial λg=>k_objOut 0 rfl ?_))))));exact zR zY g rfl (by decide) rfl rfl rfl (λ_ hw _=>⟨hw.1,hw.2.1⟩) zU
def sdPs(a b:TA):List Pt:=[.agg 2 #[a.val,b.val]]
def val_one(t:TA):t.val.oneCell'=true:=by cases t<;>rfl
def sdPs_ok(a b:TA):OkP (sdPs a b):=λp hp=>by
 rw [aE.1 hp];refine⟨rfl,λv hv=>?_⟩;rcases aH.1 hv with rfl|hv
 .exact val_one a
 .rw [aE.1 hv];exact val_one b
theorem tinner_S(x y:TA)(hl:x.len+y.len<=1000000):Spec 151 [.agg #[x.val,y.val]] [] (λw=>TF x w/\TF y w/\Tsh w) { ret:=λg:Nat=>.v (.pointer (some ⟨g,0,none⟩)),own:=λ_=>[],p:=λg=>TF (.node g x y) }:=by
 refine zQ [.p (sdPs x y)] 26 func151 rfl (by rw [ntmps151];rfl) (one_ok (sdPs_ok x y)) λb=>?_;refine zA rfl ?_;refine s_new 6 [⟨3,47,(By dR).toArray⟩,⟨4,47,(By dR).toArray⟩] (by decide) rfl ⟨⟨rfl,rfl,rfl,rfl,rfl⟩,⟨rfl,rfl,rfl,rfl,rfl⟩,trivial⟩ (by kernel_rfl) (by kernel_rfl) (by kernel_rfl) λK hK G S w0 hst=>?_;refine n_op hst (.a 1 (0+1*0)) trivial rfl rfl rfl (runO_ixA 0 rfl underlying233 rfl rfl rfl (by decide)) ?_;refine n_opV hst (.v x.val) trivial rfl rfl rfl (runO_ldA _ rfl rfl rfl rfl underlying29 rfl) ?_;refine n_callS (F':=TF x) hst [x.val] rfl rfl rfl (λ_ _=>by go_simp) rfl rfl (λ_=>rfl) (thash_S x) (eY_ok x.root_len).1 (λ_ _ _ hv=>hv.fact.1) ?_;refine n_op hst (.a 1 (0+1*1)) trivial rfl rfl rfl (runO_ixA 1 rfl underlying233 rfl rfl rfl (by decide)) ?_;refine n_opV hst (.v y.val) trivial rfl rfl rfl (runO_ldA _ rfl rfl rfl rfl underlying29 rfl) ?_;refine n_callS (F':=TF y) hst [y.val] rfl rfl rfl (λ_ _=>by go_simp) rfl rfl (λ_=>rfl) (thash_S y) (eY_ok y.root_len).1 (λ_ _ _ hv=>hv.fact.2.1) ?_;have hx32:=x.root_len;have hy32:=y.root_len;have sz:∀l:List UInt8,l.length=32->(By l).toArray.size=32:=λl h=>by rw [aW,By_len,h]
 refine n_new hst [⟨3,none,47,[.agg 32 (By x.root).toArray]⟩,⟨4,none,47,[.agg 32 (By y.root).toArray]⟩] [(By dR).toArray,(By dR).toArray] [.tmp 7,.tmp 10] rfl rfl rfl (λu hu=>?_) ⟨rfl,rfl,trivial⟩ rfl ⟨⟨rfl,rfl,rfl⟩,⟨rfl,rfl,rfl⟩,rfl⟩ ⟨⟨rfl,?_,?_,By_one _⟩,⟨rfl,?_,?_,By_one _⟩,trivial⟩ ?_
 .rcases aH.1 hu with rfl|hu
  .exact(eY_ok hx32).1
  .rw [aE.1 hu];exact(eY_ok hy32).1
 .exact(sz dR rfl).trans (sz _ hx32).symm
 .show _=some (By x.root).toArray.size;rw [sz _ hx32];rfl
 .exact(sz dR rfl).trans (sz _ hy32).symm
 .show _=some (By y.root).toArray.size;rw [sz _ hy32];rfl
 refine zJ (hK _ (s_keep [1,2,3,4] [1,3,4] rfl rfl ?_));refine s_regH 13 (by decide) (by kernel_rfl) (by kernel_rfl) λK hK G S w0 hst=>?_;refine h_lit zY [(1:UInt8)] rfl rfl rfl rfl rfl rfl (λ_=>rfl) rfl (by decide) (by decide) λB=>?_;refine h_op hst (.s 3 0 32 32) trivial rfl rfl rfl rfl (runO_all rfl underlying47 rfl rfl) (h_op hst (.s 4 0 32 32) trivial rfl rfl rfl rfl (runO_all rfl underlying47 rfl rfl) ?_);refine h_parts [.slice (some ⟨B,0,none⟩) 1 1,(SV.s 3 0 32 32).den G,(SV.s 4 0 32 32).den G] [[1],x.root,y.root] hst rfl rfl rfl rfl rfl rfl rfl (by decide) (by decide) (λw hw hu=>?_) λA=>?_
 .have h2:Rd 1 eB (some ⟨B,0,none⟩) 1 [1] w:=hu 0 _ rfl (by kernel_rfl);exact⟨h2.sb,sb_var (j:=3) rfl hx32 (by decide) G S w hw,sb_var (j:=4) rfl hy32 (by decide) G S w hw,trivial⟩
 refine h_call (r:=.q (eY 32 (gX x.root y.root))) hst [.slice (some ⟨A,0,none⟩) 3 3] rfl rfl rfl rfl own_tsum rfl rfl (λ_=>rfl) (eY_ok (n:=32) (digest256_len _)).1 (λw hw hu=>?_) ?_
 .have hA:PT w (some ⟨A,0,none⟩) [[1],x.root,y.root]:=hu 3 _ rfl (by kernel_rfl)
  have hr2:=sum256_f (some ⟨A,0,none⟩) [[1],x.root,y.root] 3 w hw.fact.2.2 hA (by simp) (by simp);have e:gX x.root y.root=dB dC [[1],x.root,y.root].flatten:=by simp [gX]
  show Calls prog _ _ w λe w'=>e = .returned (.agg (By (gX x.root y.root)).toArray)/\_;rw [e];exact hr2
 refine h_op hst (.a 1 (0+1*0)) trivial rfl rfl rfl rfl (runO_ixA 0 rfl underlying233 rfl rfl rfl (by decide)) ?_;refine h_opV hst (.v x.val) trivial rfl rfl rfl rfl (runO_ldA _ rfl rfl rfl rfl underlying29 rfl) ?_;refine h_callS (F':=TF x) (r:=.v (.int .i64 (x.len:Int))) hst [x.val] rfl rfl rfl rfl (λ_ _=>by go_simp) rfl rfl (λ_=>rfl) trivial (tsize_S x) (λ_ _ _ hv=>hv.fact.1) ?_;refine h_op hst (.a 1 (0+1*1)) trivial rfl rfl rfl rfl (runO_ixA 1 rfl underlying233 rfl rfl rfl (by decide)) ?_;refine h_opV hst (.v y.val) trivial rfl rfl rfl rfl (runO_ldA _ rfl rfl rfl rfl underlying29 rfl) ?_;refine h_callS (F':=TF y) (r:=.v (.int .i64 (y.len:Int))) hst [y.val] rfl rfl rfl rfl (λ_ _=>by go_simp) rfl rfl (λ_=>rfl) trivial (tsize_S y) (λ_ _ _ hv=>hv.fact.2.1) ?_;refine zV hst rfl ?_;refine h_num 22 ((x.len+y.len:Nat):Int) rfl (wrapI (by omega) (by omega) (by omega)) ?_;refine zV hst rfl (h_end hst (zB rfl (zJ (hK _ (zP (k_give 2 rfl (E':=[]) trivial λg=>k_objOut 0 rfl ?_))))));exact zR zY g rfl (by decide) rfl rfl rfl (λ_ hw _=>⟨hw.1,hw.2.1,hw.2.2.1⟩) zU
def own_tput:Own 113:=λ_ _=>by go_simp
theorem putT_len:∀(l:List PairT) (p:PairT),l.length<=(dM l p).length/\(dM l p).length<=l.length+1
 | [],_=>⟨aN _,aF _⟩
 | q::l,p=>by
  have:=putT_len l p;unfold dM;split
  .simp only [List.length_cons];omega
  .split
   .simp
   .simp
def wrapB2{d e r:Nat}(h:d=255-r/\r<=255)(he:(256-r)%256=e):IntKind.u8.wrap ((d:Int)+1)=(e:Int):=by unfold uH;simp [qC,oI];omega
def val_cells(t:TA):t.val.cells = #[t.val]:=by cases t<;>rfl
def leftT_one{d:Nat}{q:PairT}(h:cL q.1 d=0):cJ d [q]=[q]/\bU d [q]=[]:=by simp [cJ,bU,h]
def rightT_one{d:Nat}{q:PairT}(h:cL q.1 d≠0):cJ d [q]=[]/\bU d [q]=[q]:=by simp [cJ,bU,h]
def TOk.nil{r:Nat}{l:List PairT}(h:l=[]):TOk r l .nil:=by cases r<;>exact h
def TOk.leaf{r:Nat}{l:List PairT}{g h:Nat}{p:PairT}(e:l=[p]):TOk r l (.leaf g h p):=by cases r<;>exact e
def TOk.nil_inv{r:Nat}{l:List PairT}(h:TOk r l .nil):l=[]:=by cases r<;>exact h
def TOk.leaf_inv{r:Nat}{l:List PairT}{g h:Nat}{p:PairT}(e:TOk r l (.leaf g h p)):l=[p]:=by cases r<;>exact e
theorem tput_S:∀(r:Nat) (l:List PairT) (t:TA) (h:Nat) (p:PairT),r<=256->TOk r l t->SortT l->iD l->eN (256-r) (p::l)->l.length+1<=1000000 ->
  Spec 113 [t.val,.pointer (some ⟨h,0,none⟩),.int .u8 (((256-r)%256:Nat):Int)] [] (λw=>TF t w/\ObjF h 218 (prPs p) w/\Tsh w) { ret:=λx:{ t':TA // TOk r (dM l p) t' }=>.v x.1.val,own:=λ_=>[],p:=λx=>TF x.1 }:=by
 intro r
 induction r using Nat.strongRecOn with
 | ind r ih =>
 intro l t h p hr ht hs hk hsh hl
 obtain⟨D,hD⟩:∃D,(256-r)%256=D:=⟨_,rfl⟩;rw [hD];refine zQ [.c (.v t.val),.c (.v (.pointer (some ⟨h,0,none⟩))),.c (.v (.int .u8 (D:Int)))] 71 func113 rfl (by rw [ntmps113];rfl) (more_ok trivial (two_ok trivial trivial)) λb=>?_;refine s_pure (OkT2 p) (λw hw _=>prPs_ok hw.2.1.2) λhp2=>?_;refine zA rfl (zM λK hK=>?_)
 cases t with
 | nil =>
  obtain rfl:=ht.nil_inv;refine s_regD 23 (by decide) (by kernel_rfl) (by kernel_rfl) λK1 hK1 G S w0 hst=>?_;refine g_autoS zY hst rfl ?_;refine g_skips rfl ?_;refine g_autoS zY hst rfl ?_;refine g_endS hst ?_;refine zJ (hK1 _ ?_);refine s_yes rfl ?_;refine zC rfl λK2 hK2=>?_;refine l_call0 [.pointer (some ⟨h,0,none⟩)] rfl rfl rfl (λ_ _=>by go_simp) rfl rfl (λ_ _=>rfl) (tleaf_S h p) (λ_ hw _=>⟨hw.2.1,hw.2.2⟩) λg=>?_;refine zB rfl (zJ (hK2 _ ?_));exact zP (zR zY ⟨.leaf g h p,TOk.leaf rfl⟩ rfl (by decide) rfl rfl rfl (λ_ hw _=>hw.1) zU)
 | leaf g0 h0 q =>
  obtain rfl:=ht.leaf_inv;have hq:=hk q aL;refine s_regD 23 (by decide) (by kernel_rfl) (by kernel_rfl) λK1 hK1 G S w0 hst=>?_;refine g_autoS zY hst rfl ?_;refine g_ldO zY hst rfl rfl rfl rfl rfl rfl (obj_fact λ_ h _=>h.1.1) ?_;refine g_autoS zY hst rfl ?_;refine g_ldO zY hst rfl rfl rfl rfl rfl rfl (obj_fact λ_ h _=>h.1.1) ?_;refine g_autoS zY hst rfl ?_;refine g_ldO zY hst rfl rfl rfl rfl rfl rfl (obj_fact λ_ h _=>h.1.2) ?_;refine g_autoS zY hst rfl ?_;refine g_ldO zY hst rfl rfl rfl rfl rfl rfl (obj_fact λ_ h _=>h.2.1) ?_;refine g_autoS zY hst rfl ?_;refine g_opS (.b (decide (q.1=p.1))) trivial rfl rfl rfl (run_eqY rfl rfl rfl underlying47 (by kernel_rfl) hq hp2.1) ?_
  by_cases he:q.1=p.1
  .refine g_is 29 true rfl (by simp [he]) ?_
   refine g_autoS zY hst rfl ?_;refine g_endS hst ?_;refine zJ (hK1 _ ?_);refine s_yes rfl ?_;refine zC rfl λK2 hK2=>?_;refine l_call0 [.pointer (some ⟨h,0,none⟩)] rfl rfl rfl (λ_ _=>by go_simp) rfl rfl (λ_ _=>rfl) (tleaf_S h p) (λ_ hw _=>⟨hw.2.1,hw.2.2⟩) λg=>?_;refine zB rfl (zJ (hK2 _ ?_));have e2:dM [q] p=[p]:=by simp [dM,he,cZ]
   exact zP (zR zY ⟨.leaf g h p,TOk.leaf e2⟩ rfl (by decide) rfl rfl rfl (λ_ hw _=>hw.1) zU)
  refine g_is 29 false rfl (by simp [he]) ?_;refine g_autoS zY hst rfl ?_;refine g_endS hst ?_;refine zJ (hK1 _ ?_);refine s_no rfl ?_;refine zO (hK _ ?_)
  obtain⟨r,rfl⟩:∃q,r=q+1:=⟨r-1,by
   by_cases e:r=0
   .subst e;exact absurd (nQ.all hq hp2.1 (hsh q (by simp) p (by simp))) he
   .omega⟩
  obtain rfl:255-r=D:=by omega
  clear hst hK1;rw [show 256-(r+1)=255-r by omega] at hsh;obtain⟨d,hdr⟩:∃d,255-r=d:=⟨_,rfl⟩;obtain⟨e8,he8⟩:∃e,(256-r)%256=e:=⟨_,rfl⟩;have ih2:=λl t h p ht hs hk=>ih r (by omega) l t h p (by omega) ht hs hk;simp only [he8] at ih2;clear ih
  have hd:d<256:=by omega
  rw [hdr] at hsh ⊢
  have h2:2<=(dM [q] p).length:=by
   by_cases h3:dI q.1 p.1=true
   .simp [dM,h3]
   .simp [dM,h3,he]
  refine s_keep [0,1,2] [] rfl rfl ?_;refine zC rfl λK1 hK1=>?_;refine l_ldO zY rfl rfl rfl rfl rfl rfl (obj_fact λ_ h _=>h.1.1) ?_;refine zB rfl (zJ (hK1 _ ?_));refine zM λK2 hK2=>?_;refine zC rfl λK6 hK6=>?_;refine l_ldO zY rfl rfl rfl rfl rfl rfl (obj_fact λ_ h _=>h.1.1) ?_;refine zB rfl (zJ (hK6 _ ?_));refine s_yes rfl ?_
  have hrest:∀x y:TA,TOk r (cJ d [q]) x->TOk r (bU d [q]) y->∀en,Weak en ⟨[(1,.v (.pointer (some ⟨h,0,none⟩))),(2,.v (.int .u8 (d:Int))),(7,.a 7 0)],[⟨7,none,233,sdPs x y⟩],[],λw=>TF x w/\TF y w/\ObjF h 218 (prPs p) w/\Tsh w,λ_=>True⟩->kS b K2 71 en:=by
   intro x y hx hy en hw;refine k_weak hw (hK2 _ ?_);have hb2:=gA p.1 d;refine zC rfl λK3 hK3=>?_;refine l_ldO zY rfl rfl rfl rfl rfl rfl (obj_fact λ_ h _=>h.2.2.1) ?_;refine zB rfl ?_;refine l_call0 [.agg (By p.1).toArray,.int .u8 (d:Int)] rfl rfl rfl own_tbit rfl rfl (λ_ _=>rfl) (tbit_S hp2.1 d hd) (λ_ _ _=>trivial) λ_=>?_;refine zB rfl ?_;have hlen:∀t':TA,TOk (r+1) (dM [q] p) t'->t'.len<=1000000:=λt' ht'=>by rw [ht'.len];exact bP (putT_len [q] p).2 hl
   by_cases hbit:cL p.1 d=0
   .refine l_num 8 0 rfl (by rw [hbit];rfl) ?_
    refine zJ (hK3 _ ?_);refine s_keep [1,2,7,8] [7] rfl rfl ?_;refine zC rfl λK4 hK4=>?_;refine l_op (.a 7 (0+1*0)) trivial rfl rfl rfl (runO_ixA 0 rfl underlying233 rfl rfl rfl (by decide)) ?_;refine l_opV (.v x.val) trivial rfl rfl rfl (runO_ldA _ rfl rfl rfl rfl underlying29 rfl) ?_;refine zB rfl ?_;refine l_num 66 (e8:Int) rfl (wrapB2 ⟨hdr.symm,by omega⟩ he8) ?_;have eL:cJ d (dM [q] p)=dM (cJ d [q]) p:=by rw [kG hs hk hp2.1,if_pos hbit]
    have eR:bU d (dM [q] p)=bU d [q]:=by rw [jK hs hk hp2.1,if_pos hbit]
    have hsh2:eN (256-r) (p::cJ d [q]):=by have:=hsh.left;rw [show cJ d (p::[q])=p::cJ d [q] by simp [cJ,hbit],show d+1=256-r by omega] at this;exact this
    refine l_call0 [x.val,.pointer (some ⟨h,0,none⟩),.int .u8 (e8:Int)] rfl rfl rfl own_tput rfl rfl (λ_ _=>rfl) (ih2 (cJ d [q]) x h p hx (hs.filter _) (hk.filter _) hsh2 (bP (kT (j9 _ _) 1) hl)) (λ_ h _=>⟨h.2.1,h.2.2.2.1,h.2.2.2.2⟩) λx'=>?_;refine zB rfl ?_;refine l_op (.a 7 (0+1*0)) trivial rfl rfl rfl (runO_ixA 0 rfl underlying233 rfl rfl rfl (by decide)) ?_;refine l_stA (sdPs x'.1 y) rfl rfl rfl rfl rfl rfl rfl (val_cells _) (val_one _) (show _<2 by decide) (sdPs_ok _ _) rfl ?_;refine zJ (hK4 _ ?_);have hT:∀g,TOk (r+1) (dM [q] p) (.node g x'.1 y):=λg=>⟨h2,by show TOk r (cJ (255-r) (dM [q] p)) x'.1;rw [hdr,eL];exact x'.2,by show TOk r (bU (255-r) (dM [q] p)) y;rw [hdr,eR];exact hy⟩;refine s_keep [7] [7] rfl rfl ?_;refine zC rfl λK5 hK5=>?_;refine l_call0 [.agg #[x'.1.val,y.val]] rfl rfl rfl own_tinner rfl rfl (λ_ _=>rfl) (tinner_S x'.1 y (hlen _ (hT 0))) (λ_ h _=>⟨h.1,h.2.2.2.1,h.2.2.2.2.2⟩) λg=>?_;refine zB rfl (zJ (hK5 _ ?_));exact zP (zR zY ⟨.node g x'.1 y,hT g⟩ rfl (by decide) rfl rfl rfl (λ_ hw _=>hw.1) zU)
   .refine l_num 8 1 rfl (by rw [show cL p.1 d=1 by omega];rfl) ?_
    refine zJ (hK3 _ ?_);refine s_keep [1,2,7,8] [7] rfl rfl ?_;refine zC rfl λK4 hK4=>?_;refine l_op (.a 7 (0+1*1)) trivial rfl rfl rfl (runO_ixA 1 rfl underlying233 rfl rfl rfl (by decide)) ?_;refine l_opV (.v y.val) trivial rfl rfl rfl (runO_ldA _ rfl rfl rfl rfl underlying29 rfl) ?_;refine zB rfl ?_;refine l_num 66 (e8:Int) rfl (wrapB2 ⟨hdr.symm,by omega⟩ he8) ?_;have eL:cJ d (dM [q] p)=cJ d [q]:=by rw [kG hs hk hp2.1,if_neg hbit]
    have eR:bU d (dM [q] p)=dM (bU d [q]) p:=by rw [jK hs hk hp2.1,if_neg hbit]
    have hsh2:eN (256-r) (p::bU d [q]):=by have:=hsh.right;rw [show bU d (p::[q])=p::bU d [q] by simp [bU,hbit],show d+1=256-r by omega] at this;exact this
    refine l_call0 [y.val,.pointer (some ⟨h,0,none⟩),.int .u8 (e8:Int)] rfl rfl rfl own_tput rfl rfl (λ_ _=>rfl) (ih2 (bU d [q]) y h p hy (hs.filter _) (hk.filter _) hsh2 (bP (kT (j9 _ _) 1) hl)) (λ_ h _=>⟨h.2.2.1,h.2.2.2.1,h.2.2.2.2⟩) λy'=>?_;refine zB rfl ?_;refine l_op (.a 7 (0+1*1)) trivial rfl rfl rfl (runO_ixA 1 rfl underlying233 rfl rfl rfl (by decide)) ?_;refine l_stA (sdPs x y'.1) rfl rfl rfl rfl rfl rfl rfl (val_cells _) (val_one _) (show _<2 by decide) (sdPs_ok _ _) rfl ?_;refine zJ (hK4 _ ?_);have hT:∀g,TOk (r+1) (dM [q] p) (.node g x y'.1):=λg=>⟨h2,by show TOk r (cJ (255-r) (dM [q] p)) x;rw [hdr,eL];exact hx,by show TOk r (bU (255-r) (dM [q] p)) y'.1;rw [hdr,eR];exact y'.2⟩;refine s_keep [7] [7] rfl rfl ?_;refine zC rfl λK5 hK5=>?_;refine l_call0 [.agg #[x.val,y'.1.val]] rfl rfl rfl own_tinner rfl rfl (λ_ _=>rfl) (tinner_S x y'.1 (hlen _ (hT 0))) (λ_ h _=>⟨h.2.2.1,h.1,h.2.2.2.2.2⟩) λg=>?_;refine zB rfl (zJ (hK5 _ ?_));exact zP (zR zY ⟨.node g x y'.1,hT g⟩ rfl (by decide) rfl rfl rfl (λ_ hw _=>hw.1) zU)
  have hb3:=gA q.1 d;refine s_lit (zB rfl ?_);refine l_ldO zY rfl rfl rfl rfl rfl rfl (obj_fact λ_ h _=>h.1.1) ?_;refine zB rfl ?_;refine l_ldO zY rfl rfl rfl rfl rfl rfl (obj_fact λ_ h _=>h.1.2) ?_;refine zB rfl ?_;refine l_call0 [.agg (By q.1).toArray,.int .u8 (d:Int)] rfl rfl rfl own_tbit rfl rfl (λ_ _=>rfl) (tbit_S hq d hd) (λ_ _ _=>trivial) λ_=>?_;refine zB rfl ?_
  by_cases hqb:cL q.1 d=0
  .obtain⟨e1,e2⟩:=leftT_one hqb;refine l_num 51 0 rfl (by rw [hqb];rfl) ?_;refine l_op (.a 7 (0+1*0)) trivial rfl rfl rfl (runO_ixA 0 rfl underlying233 rfl rfl rfl (by decide)) ?_;refine l_stA (sdPs (.leaf g0 h0 q) .nil) rfl rfl rfl rfl rfl rfl rfl (val_cells (.leaf g0 h0 q)) (val_one (.leaf g0 h0 q)) (show _<2 by decide) (sdPs_ok _ _) rfl ?_;exact zJ (hrest (.leaf g0 h0 q) .nil (TOk.leaf e1) (TOk.nil e2) _ ⟨zE rfl, zL rfl rfl, .refl _,λ_ h _=>⟨h.2.1,trivial,h.2.2.1,h.2.2.2⟩, zU⟩)
  .obtain⟨e1,e2⟩:=rightT_one hqb;refine l_num 51 1 rfl (by rw [show cL q.1 d=1 by omega];rfl) ?_;refine l_op (.a 7 (0+1*1)) trivial rfl rfl rfl (runO_ixA 1 rfl underlying233 rfl rfl rfl (by decide)) ?_;refine l_stA (sdPs .nil (.leaf g0 h0 q)) rfl rfl rfl rfl rfl rfl rfl (val_cells (.leaf g0 h0 q)) (val_one (.leaf g0 h0 q)) (show _<2 by decide) (sdPs_ok _ _) rfl ?_;exact zJ (hrest .nil (.leaf g0 h0 q) (TOk.nil e1) (TOk.leaf e2) _ ⟨zE rfl, zL rfl rfl, .refl _,λ_ h _=>⟨trivial,h.2.1,h.2.2.1,h.2.2.2⟩, zU⟩)
 | node g0 x0 y0 =>
  obtain⟨r,rfl⟩:∃q,r=q+1:=⟨r-1,by
   cases r with
   | zero=>exact ht.elim
   | succ r=>rfl⟩
  obtain rfl:255-r=D:=by omega
  rw [show 256-(r+1)=255-r by omega] at hsh;obtain⟨d,hdr⟩:∃d,255-r=d:=⟨_,rfl⟩;obtain⟨e8,he8⟩:∃e,(256-r)%256=e:=⟨_,rfl⟩;have ih2:=λl t h p ht hs hk=>ih r (by omega) l t h p (by omega) ht hs hk;simp only [he8] at ih2;clear ih
  have hd:d<256:=by omega
  rw [hdr] at hsh ⊢;obtain⟨hl2,hx0,hy0⟩:=ht;rw [hdr] at hx0 hy0;have h2:2<=(dM l p).length:=bP hl2 (putT_len l p).1;refine s_regD 23 (by decide) (by kernel_rfl) (by kernel_rfl) λK1 hK1 G S w0 hst=>?_;refine g_autoS zY hst rfl ?_;refine g_ldO zY hst rfl rfl rfl rfl rfl rfl (obj_fact λ_ h _=>h.1.1) ?_;refine g_autoS zY hst rfl ?_;refine g_endS hst ?_;refine zJ (hK1 _ ?_);refine s_no rfl ?_;refine zO (hK _ ?_);clear hst hK1;refine s_keep [0,1,2] [] rfl rfl ?_;refine zC rfl λK1 hK1=>?_;refine l_ldO zY rfl rfl rfl rfl rfl rfl (obj_fact λ_ h _=>h.1.1) ?_;refine zB rfl (zJ (hK1 _ ?_));refine zM λK2 hK2=>?_;refine zC rfl λK6 hK6=>?_;refine l_ldO zY rfl rfl rfl rfl rfl rfl (obj_fact λ_ h _=>h.1.1) ?_;refine zB rfl (zJ (hK6 _ ?_));refine s_no rfl ?_
  have hrest:∀x y:TA,TOk r (cJ d l) x->TOk r (bU d l) y->∀en,Weak en ⟨[(1,.v (.pointer (some ⟨h,0,none⟩))),(2,.v (.int .u8 (d:Int))),(7,.a 7 0)],[⟨7,none,233,sdPs x y⟩],[],λw=>TF x w/\TF y w/\ObjF h 218 (prPs p) w/\Tsh w,λ_=>True⟩->kS b K2 71 en:=by
   intro x y hx hy en hw;refine k_weak hw (hK2 _ ?_);have hb2:=gA p.1 d;refine zC rfl λK3 hK3=>?_;refine l_ldO zY rfl rfl rfl rfl rfl rfl (obj_fact λ_ h _=>h.2.2.1) ?_;refine zB rfl ?_;refine l_call0 [.agg (By p.1).toArray,.int .u8 (d:Int)] rfl rfl rfl own_tbit rfl rfl (λ_ _=>rfl) (tbit_S hp2.1 d hd) (λ_ _ _=>trivial) λ_=>?_;refine zB rfl ?_;have hlen:∀t':TA,TOk (r+1) (dM l p) t'->t'.len<=1000000:=λt' ht'=>by rw [ht'.len];exact bP (putT_len l p).2 hl
   by_cases hbit:cL p.1 d=0
   .refine l_num 8 0 rfl (by rw [hbit];rfl) ?_
    refine zJ (hK3 _ ?_);refine s_keep [1,2,7,8] [7] rfl rfl ?_;refine zC rfl λK4 hK4=>?_;refine l_op (.a 7 (0+1*0)) trivial rfl rfl rfl (runO_ixA 0 rfl underlying233 rfl rfl rfl (by decide)) ?_;refine l_opV (.v x.val) trivial rfl rfl rfl (runO_ldA _ rfl rfl rfl rfl underlying29 rfl) ?_;refine zB rfl ?_;refine l_num 66 (e8:Int) rfl (wrapB2 ⟨hdr.symm,by omega⟩ he8) ?_;have eL:cJ d (dM l p)=dM (cJ d l) p:=by rw [kG hs hk hp2.1,if_pos hbit]
    have eR:bU d (dM l p)=bU d l:=by rw [jK hs hk hp2.1,if_pos hbit]
    have hsh2:eN (256-r) (p::cJ d l):=by have:=hsh.left;rw [show cJ d (p::l)=p::cJ d l by simp [cJ,hbit],show d+1=256-r by omega] at this;exact this
    refine l_call0 [x.val,.pointer (some ⟨h,0,none⟩),.int .u8 (e8:Int)] rfl rfl rfl own_tput rfl rfl (λ_ _=>rfl) (ih2 (cJ d l) x h p hx (hs.filter _) (hk.filter _) hsh2 (bP (kT (j9 _ _) 1) hl)) (λ_ h _=>⟨h.2.1,h.2.2.2.1,h.2.2.2.2⟩) λx'=>?_;refine zB rfl ?_;refine l_op (.a 7 (0+1*0)) trivial rfl rfl rfl (runO_ixA 0 rfl underlying233 rfl rfl rfl (by decide)) ?_;refine l_stA (sdPs x'.1 y) rfl rfl rfl rfl rfl rfl rfl (val_cells _) (val_one _) (show _<2 by decide) (sdPs_ok _ _) rfl ?_;refine zJ (hK4 _ ?_);have hT:∀g,TOk (r+1) (dM l p) (.node g x'.1 y):=λg=>⟨h2,by show TOk r (cJ (255-r) (dM l p)) x'.1;rw [hdr,eL];exact x'.2,by show TOk r (bU (255-r) (dM l p)) y;rw [hdr,eR];exact hy⟩;refine s_keep [7] [7] rfl rfl ?_;refine zC rfl λK5 hK5=>?_;refine l_call0 [.agg #[x'.1.val,y.val]] rfl rfl rfl own_tinner rfl rfl (λ_ _=>rfl) (tinner_S x'.1 y (hlen _ (hT 0))) (λ_ h _=>⟨h.1,h.2.2.2.1,h.2.2.2.2.2⟩) λg=>?_;refine zB rfl (zJ (hK5 _ ?_));exact zP (zR zY ⟨.node g x'.1 y,hT g⟩ rfl (by decide) rfl rfl rfl (λ_ hw _=>hw.1) zU)
   .refine l_num 8 1 rfl (by rw [show cL p.1 d=1 by omega];rfl) ?_
    refine zJ (hK3 _ ?_);refine s_keep [1,2,7,8] [7] rfl rfl ?_;refine zC rfl λK4 hK4=>?_;refine l_op (.a 7 (0+1*1)) trivial rfl rfl rfl (runO_ixA 1 rfl underlying233 rfl rfl rfl (by decide)) ?_;refine l_opV (.v y.val) trivial rfl rfl rfl (runO_ldA _ rfl rfl rfl rfl underlying29 rfl) ?_;refine zB rfl ?_;refine l_num 66 (e8:Int) rfl (wrapB2 ⟨hdr.symm,by omega⟩ he8) ?_;have eL:cJ d (dM l p)=cJ d l:=by rw [kG hs hk hp2.1,if_neg hbit]
    have eR:bU d (dM l p)=dM (bU d l) p:=by rw [jK hs hk hp2.1,if_neg hbit]
    have hsh2:eN (256-r) (p::bU d l):=by have:=hsh.right;rw [show bU d (p::l)=p::bU d l by simp [bU,hbit],show d+1=256-r by omega] at this;exact this
    refine l_call0 [y.val,.pointer (some ⟨h,0,none⟩),.int .u8 (e8:Int)] rfl rfl rfl own_tput rfl rfl (λ_ _=>rfl) (ih2 (bU d l) y h p hy (hs.filter _) (hk.filter _) hsh2 (bP (kT (j9 _ _) 1) hl)) (λ_ h _=>⟨h.2.2.1,h.2.2.2.1,h.2.2.2.2⟩) λy'=>?_;refine zB rfl ?_;refine l_op (.a 7 (0+1*1)) trivial rfl rfl rfl (runO_ixA 1 rfl underlying233 rfl rfl rfl (by decide)) ?_;refine l_stA (sdPs x y'.1) rfl rfl rfl rfl rfl rfl rfl (val_cells _) (val_one _) (show _<2 by decide) (sdPs_ok _ _) rfl ?_;refine zJ (hK4 _ ?_);have hT:∀g,TOk (r+1) (dM l p) (.node g x y'.1):=λg=>⟨h2,by show TOk r (cJ (255-r) (dM l p)) x;rw [hdr,eL];exact hx,by show TOk r (bU (255-r) (dM l p)) y'.1;rw [hdr,eR];exact y'.2⟩;refine s_keep [7] [7] rfl rfl ?_;refine zC rfl λK5 hK5=>?_;refine l_call0 [.agg #[x.val,y'.1.val]] rfl rfl rfl own_tinner rfl rfl (λ_ _=>rfl) (tinner_S x y'.1 (hlen _ (hT 0))) (λ_ h _=>⟨h.2.2.1,h.1,h.2.2.2.2.2⟩) λg=>?_;refine zB rfl (zJ (hK5 _ ?_));exact zP (zR zY ⟨.node g x y'.1,hT g⟩ rfl (by decide) rfl rfl rfl (λ_ hw _=>hw.1) zU)
  exact zO (hrest x0 y0 hx0 hy0 _ ⟨zE rfl, zL rfl rfl, .refl _,λ_ h _=>⟨h.1.2.1,h.1.2.2,h.2.1,h.2.2⟩, zU⟩)
def own_tRoot:Own 43:=λ_ _=>by go_simp
def trPs(t:TA)(d:Nat):List Pt:=[.one (.v t.val),.one (.v (.int .u8 (d:Int)))]
def eTr(t:TA)(d:Nat):SQ:=.p (trPs t d)
def val_cells1(t:TA):t.val.cells = #[t.val]:=by cases t<;>rfl
def trPs_ok(t:TA)(d:Nat):OkP (trPs t d):=λp hp=>by
 rcases aH.1 hp with rfl|hp
 .exact⟨trivial,val_one t,val_cells1 t⟩
 .rw [aE.1 hp];exact⟨trivial,rfl,rfl⟩
def tRoot_S(t:TA)(d:Nat):Spec 43 [(eTr t d).den] [] (TF t) (one (.q (eY 32 t.root))):=by refine zQ [eTr t d] 6 func43 rfl (by rw [ntmps43];rfl) (one_ok (trPs_ok t d)) λb=>?_;refine zA rfl (zC rfl λK hK=>?_);refine l_call0 [t.val] rfl rfl rfl (λ_ _=>by go_simp) rfl rfl (λ_ _=>rfl) (thash_S t) (λ_ h _=>h) λ_=>?_;refine zB rfl (zJ (hK _ ?_));exact zP (zR zY () rfl (by decide) rfl rfl rfl (λ_ _ _=>trivial) zU)
def tLen_S(t:TA)(d:Nat):Spec 108 [(eTr t d).den] [] (TF t) (one (.v (.int .i64 (t.len:Int)))):=by refine zQ [eTr t d] 6 func108 rfl (by rw [ntmps108];rfl) (one_ok (trPs_ok t d)) λb=>?_;refine zA rfl (zC rfl λK hK=>?_);refine l_call0 [t.val] rfl rfl rfl (λ_ _=>by go_simp) rfl rfl (λ_ _=>rfl) (tsize_S t) (λ_ h _=>h) λ_=>?_;refine zB rfl (zJ (hK _ ?_));exact zP (zR zY () rfl (by decide) rfl rfl rfl (λ_ _ _=>trivial) zU)
def retL:TA->RV
  | .leaf _ _ p=>.t [eY 32 p.1,eY 32 p.2,.c (.v (.bool true))]
  | _=>.t [eY 32 dR,eY 32 dR,.c (.v (.bool false))]
def retSd(d:Nat):TA->RV
  | .node _ a b=>.t [eTr a d,eTr b d,.c (.v (.bool true))]
  | _=>.t [eTr .nil 0,eTr .nil 0,.c (.v (.bool false))]
theorem tLeaf_S(t:TA)(d:Nat):Spec 109 [(eTr t d).den] [] (TF t) { ret:=λ_:Unit=>retL t,own:=λ_=>[] }:=by
 refine zQ [eTr t d] 34 func109 rfl (by rw [ntmps109];rfl) (one_ok (trPs_ok t d)) λb=>?_;refine zA rfl (zM λK hK=>?_);cases t with
 | nil =>
  refine zA rfl (s_yes rfl (zA rfl ?_));exact zP (zR zY () rfl (by decide) rfl rfl rfl (λ_ _ _=>trivial) zU)
 | leaf g h p =>
  refine zC rfl λK2 hK2=>l_ldO zY rfl rfl rfl rfl rfl rfl (obj_fact λ_ h _=>h.1) (zB rfl (zJ (hK2 _ (s_no rfl (zO (hK _ ?_))))));refine s_pure (OkP (lfPs h p)/\OkP (prPs p)) (λw hw _=>⟨hw.1.2,hw.2.2⟩) λ⟨ho1,ho2⟩=>?_;refine s_locs λG=>?_
  have hsub:∀x∈[(⟨1,some (G 1),31,trPs (.leaf g h p) d⟩:LV)],x∈withG G [⟨3,none,47,[.agg 32 (By dR).toArray]⟩,⟨2,none,47,[.agg 32 (By dR).toArray]⟩,⟨1,none,31,trPs (.leaf g h p) d⟩]/\x.g.isSome=true:=λx hx=>by rw [aE.1 hx];exact⟨aJ _ (aJ _ aL),rfl⟩
  refine zM λK3 hK3=>?_;refine s_anyP [0,1,2,3,4,5,6,7,8,9,10,11,12,13,14,15] 17 2 (λw=>InvL [⟨1,some (G 1),31,trPs (.leaf g h p) d⟩] w/\TF (.leaf g h p) w) (by kernel_rfl) rfl (inv_two hsub λ_ h _=>h) ?_;refine p_frontS zY 0 (by kernel_rfl) rfl rfl rfl rfl rfl rfl (λx hx=>(hsub x hx).1) (λ_ h=>h.1) ?_;refine p_frontS zY 1 (by kernel_rfl) rfl rfl rfl rfl rfl rfl (λx hx=>(hsub x hx).1) (λ_ h=>h.1) ?_;refine p_frontS zY 2 (by kernel_rfl) rfl rfl rfl rfl rfl rfl (λx hx=>(hsub x hx).1) (λ_ h=>h.1) ?_;refine p_frontS zY 3 (by kernel_rfl) rfl rfl rfl rfl rfl rfl (λx hx=>(hsub x hx).1) (λ_ h=>h.1) ?_;refine p_ldO zY 4 (by kernel_rfl) rfl rfl rfl rfl rfl rfl rfl ho1 (λ_ h=>h.2.1) ?_;refine p_frontS zY 5 (by kernel_rfl) rfl rfl rfl rfl rfl rfl (λx hx=>(hsub x hx).1) (λ_ h=>h.1) ?_;refine p_frontS zY 6 (by kernel_rfl) rfl rfl rfl rfl rfl rfl (λx hx=>(hsub x hx).1) (λ_ h=>h.1) ?_;refine p_ldO zY 7 (by kernel_rfl) rfl rfl rfl rfl rfl rfl rfl ho2 (λ_ h=>h.2.2) ?_;refine p_frontS zY 8 (by kernel_rfl) rfl rfl rfl rfl rfl rfl (λx hx=>(hsub x hx).1) (λ_ h=>h.1) ?_;refine p_frontS zY 9 (by kernel_rfl) rfl rfl rfl rfl rfl rfl (λx hx=>(hsub x hx).1) (λ_ h=>h.1) ?_;refine p_frontS zY 10 (by kernel_rfl) rfl rfl rfl rfl rfl rfl (λx hx=>(hsub x hx).1) (λ_ h=>h.1) ?_;refine p_frontS zY 11 (by kernel_rfl) rfl rfl rfl rfl rfl rfl (λx hx=>(hsub x hx).1) (λ_ h=>h.1) ?_;refine p_ldO zY 12 (by kernel_rfl) rfl rfl rfl rfl rfl rfl rfl ho1 (λ_ h=>h.2.1) ?_;refine p_frontS zY 13 (by kernel_rfl) rfl rfl rfl rfl rfl rfl (λx hx=>(hsub x hx).1) (λ_ h=>h.1) ?_;refine p_frontS zY 14 (by kernel_rfl) rfl rfl rfl rfl rfl rfl (λx hx=>(hsub x hx).1) (λ_ h=>h.1) ?_;refine p_ldO zY 15 (by kernel_rfl) rfl rfl rfl rfl rfl rfl rfl ho2 (λ_ h=>h.2.2) ?_;refine p_step 16 (by kernel_rfl) rfl λK4 hK4=>?_;refine zB rfl ?_
  refine zJ (hK4 _ (inv_two (λx hx=>by rw [aE.1 hx];exact⟨aJ _ (aJ _ aL),rfl⟩) λ_ h _=>h) ?_)
  refine p_tail [17,18] (by kernel_rfl) rfl ?_;refine zB rfl (zJ (hK3 _ ?_));exact zP (zR zY () rfl (by decide) rfl rfl rfl (λ_ _ _=>trivial) zU)
 | node g x y =>
  refine zC rfl λK2 hK2=>l_ldO zY rfl rfl rfl rfl rfl rfl (obj_fact λ_ h _=>h.1) (zB rfl (zJ (hK2 _ (s_yes rfl (zA rfl ?_)))));exact zP (zR zY () rfl (by decide) rfl rfl rfl (λ_ _ _=>trivial) zU)
theorem tSides_S(t:TA)(d d':Nat)(hd:IntKind.u8.wrap ((d:Int)+1)=(d':Int)):Spec 110 [(eTr t d).den] [] (TF t) { ret:=λ_:Unit=>retSd d' t,own:=λ_=>[] }:=by
 refine zQ [eTr t d] 36 func110 rfl (by rw [ntmps110];rfl) (one_ok (trPs_ok t d)) λb=>?_;refine zA rfl (zM λK hK=>?_);cases t with
 | nil =>
  refine zA rfl (s_yes rfl (zA rfl ?_));exact zP (zR zY () rfl (by decide) rfl rfl rfl (λ_ _ _=>trivial) zU)
 | leaf g h p =>
  refine zC rfl λK2 hK2=>l_ldO zY rfl rfl rfl rfl rfl rfl (obj_fact λ_ h _=>h.1) (zB rfl (zJ (hK2 _ (s_yes rfl (zA rfl ?_)))));exact zP (zR zY () rfl (by decide) rfl rfl rfl (λ_ _ _=>trivial) zU)
 | node g x y =>
  refine zC rfl λK2 hK2=>l_ldO zY rfl rfl rfl rfl rfl rfl (obj_fact λ_ h _=>h.1) (zB rfl (zJ (hK2 _ (s_no rfl (zO (hK _ (zC rfl λK4 hK4=>l_ldO zY rfl rfl rfl rfl rfl rfl (obj_fact λ_ h _=>h.1) (zB rfl (zJ (hK4 _ ?_))))))))));refine s_locs λG=>?_
  have hsub:∀u∈([⟨5,some (G 5),233,sdPs x y⟩,⟨1,some (G 1),31,trPs (.node g x y) d⟩]:List LV),u∈withG G [⟨5,none,233,sdPs x y⟩,⟨3,none,31,trPs .nil 0⟩,⟨2,none,31,trPs .nil 0⟩,⟨1,none,31,trPs (.node g x y) d⟩]/\u.g.isSome=true:=λu hu=>by
   rcases aH.1 hu with rfl|hu
   .exact⟨aL,rfl⟩
   .rw [aE.1 hu];exact⟨aJ _ (aJ _ (aJ _ aL)),rfl⟩
  refine zM λK3 hK3=>?_;refine s_anyP [0,1,2,3,4,5,6,7,8,9,10,11] 13 2 (InvL [⟨5,some (G 5),233,sdPs x y⟩,⟨1,some (G 1),31,trPs (.node g x y) d⟩]) (by kernel_rfl) rfl (inv_of hsub) ?_;refine p_frontO (.a 5 (0+1*0)) trivial 0 (by kernel_rfl) rfl rfl rfl rfl rfl (runO_ixA 0 rfl underlying233 rfl rfl rfl (by decide)) ?_;refine p_frontA (.v x.val) trivial 1 (by kernel_rfl) rfl rfl rfl rfl rfl (λx hx=>(hsub x hx).1) (λ_ h=>h) (runO_ldL _ rfl rfl rfl rfl underlying29 rfl) ?_;refine p_frontS zY 2 (by kernel_rfl) rfl rfl rfl rfl rfl rfl (λx hx=>(hsub x hx).1) (λ_ h=>h) ?_;refine p_frontS zY 3 (by kernel_rfl) rfl rfl rfl rfl rfl rfl (λx hx=>(hsub x hx).1) (λ_ h=>h) ?_;refine p_frontS zY 4 (by kernel_rfl) rfl rfl rfl rfl rfl rfl (λx hx=>(hsub x hx).1) (λ_ h=>h) ?_;refine p_frontS zY 5 (by kernel_rfl) rfl rfl rfl rfl rfl rfl (λx hx=>(hsub x hx).1) (λ_ h=>h) ?_;refine p_frontO (.a 5 (0+1*1)) trivial 6 (by kernel_rfl) rfl rfl rfl rfl rfl (runO_ixA 1 rfl underlying233 rfl rfl rfl (by decide)) ?_;refine p_frontA (.v y.val) trivial 7 (by kernel_rfl) rfl rfl rfl rfl rfl (λx hx=>(hsub x hx).1) (λ_ h=>h) (runO_ldL _ rfl rfl rfl rfl underlying29 rfl) ?_;refine p_frontS zY 8 (by kernel_rfl) rfl rfl rfl rfl rfl rfl (λx hx=>(hsub x hx).1) (λ_ h=>h) ?_;refine p_frontS zY 9 (by kernel_rfl) rfl rfl rfl rfl rfl rfl (λx hx=>(hsub x hx).1) (λ_ h=>h) ?_;refine p_frontS zY 10 (by kernel_rfl) rfl rfl rfl rfl rfl rfl (λx hx=>(hsub x hx).1) (λ_ h=>h) ?_;refine p_frontS zY 11 (by kernel_rfl) rfl rfl rfl rfl rfl rfl (λx hx=>(hsub x hx).1) (λ_ h=>h) ?_;refine p_step 12 (by kernel_rfl) rfl λK5 hK5=>?_;refine zB rfl ?_
  refine zJ (hK5 _ (inv_of λu hu=>by
   rcases aH.1 hu with rfl|hu
   .exact⟨aL,rfl⟩
   .rw [aE.1 hu];exact⟨aJ _ (aJ _ (aJ _ aL)),rfl⟩) ?_)
  refine p_tail [13,14] (by kernel_rfl) rfl ?_;refine zB rfl (zJ (hK3 _ ?_));exact zP (zR zY () rfl (by decide) rfl (congrArg (λz:Int=>RV.t [.p [.one (.v x.val),.one (.v (.int .u8 z))],.p [.one (.v y.val),.one (.v (.int .u8 z))],.c (.v (.bool true))]) hd.symm) rfl (λ_ _ _=>trivial) zU)
theorem tPut_S(r:Nat)(l:List PairT)(t:TA)(p:PairT)(hp:OkT2 p)(hr:r<=256)(ht:TOk r l t)(hs:SortT l)(hk:iD l)(hsh:eN (256-r) (p::l))(hl:l.length+1<=1000000) :
  Spec 75 [(eTr t ((256-r)%256)).den,(eY 32 p.1).den,(eY 32 p.2).den] [] (λw=>TF t w/\Tsh w) { ret:=λx:{ t':TA // TOk r (dM l p) t' }=>.q (eTr x.1 ((256-r)%256)),own:=λ_=>[],p:=λx=>TF x.1 }:=by
 have hput:=λh=>tput_S r l t h p hr ht hs hk hsh hl;obtain⟨D,hD⟩:∃D,(256-r)%256=D:=⟨_,rfl⟩;rw [hD] at hput ⊢;refine zQ [eTr t D,eY 32 p.1,eY 32 p.2] 19 func75 rfl (by rw [ntmps75];rfl) (more_ok (trPs_ok t _) (two_ok (eY_ok hp.1).1 (eY_ok hp.2).1)) λb=>?_;refine zA rfl ?_;refine s_locs λG=>?_
 have hsub:∀u∈([⟨5,some (G 5),47,[.agg 32 (By p.2).toArray]⟩,⟨4,some (G 4),47,[.agg 32 (By p.1).toArray]⟩,⟨3,some (G 3),31,trPs t D⟩]:List LV),u∈withG G [⟨6,none,31,trPs .nil 0⟩,⟨5,none,47,[.agg 32 (By p.2).toArray]⟩,⟨4,none,47,[.agg 32 (By p.1).toArray]⟩,⟨3,none,31,trPs t D⟩]/\u.g.isSome=true:=λu hu=>by
  rcases aH.1 hu with rfl|hu
  .exact⟨aJ _ aL,rfl⟩
  rcases aH.1 hu with rfl|hu
  .exact⟨aJ _ (aJ _ aL),rfl⟩
  rw [aE.1 hu];exact⟨aJ _ (aJ _ (aJ _ aL)),rfl⟩
 refine zM λK3 hK3=>?_;refine s_anyP [0,1,2,3,4,6,7,9,10] 11 2 (InvL [⟨5,some (G 5),47,[.agg 32 (By p.2).toArray]⟩,⟨4,some (G 4),47,[.agg 32 (By p.1).toArray]⟩,⟨3,some (G 3),31,trPs t D⟩]) (by kernel_rfl) rfl (inv_of hsub) ?_;refine p_frontS zY 0 (by kernel_rfl) rfl rfl rfl rfl rfl rfl (λx hx=>(hsub x hx).1) (λ_ h=>h) ?_;refine p_frontS zY 1 (by kernel_rfl) rfl rfl rfl rfl rfl rfl (λx hx=>(hsub x hx).1) (λ_ h=>h) ?_;refine p_frontS zY 2 (by kernel_rfl) rfl rfl rfl rfl rfl rfl (λx hx=>(hsub x hx).1) (λ_ h=>h) ?_;refine p_frontS zY 3 (by kernel_rfl) rfl rfl rfl rfl rfl rfl (λx hx=>(hsub x hx).1) (λ_ h=>h) ?_;refine p_frontS zY 4 (by kernel_rfl) rfl rfl rfl rfl rfl rfl (λx hx=>(hsub x hx).1) (λ_ h=>h) ?_;refine p_frontS zY 6 (by kernel_rfl) rfl rfl rfl rfl rfl rfl (λx hx=>(hsub x hx).1) (λ_ h=>h) ?_;refine p_frontS zY 7 (by kernel_rfl) rfl rfl rfl rfl rfl rfl (λx hx=>(hsub x hx).1) (λ_ h=>h) ?_;refine p_frontS zY 9 (by kernel_rfl) rfl rfl rfl rfl rfl rfl (λx hx=>(hsub x hx).1) (λ_ h=>h) ?_;refine p_frontS zY 10 (by kernel_rfl) rfl rfl rfl rfl rfl rfl (λx hx=>(hsub x hx).1) (λ_ h=>h) ?_;refine p_step 5 (by kernel_rfl) rfl λK5 hK5=>?_;refine zB rfl (l_give 12 (E':=[(8,.v t.val),(14,.v (.int .u8 (D:Int))),(17,.v (.int .u8 (D:Int))),(6,.a 6 0)]) rfl ⟨rfl,rfl,rfl,rfl,trivial⟩ λh=>l_objOut 0 rfl (zJ (hK5 _ (inv_of hsub) ?_)));refine p_step 8 (by kernel_rfl) rfl λK6 hK6=>?_;refine l_call0 [t.val,.pointer (some ⟨h,0,none⟩),.int .u8 (D:Int)] rfl rfl rfl own_tput rfl rfl (λ_ _=>rfl) (hput h) (λ_ h _=>⟨h.2.1,h.1,h.2.2⟩) λx=>zJ (hK6 _ (inv_of hsub) ?_);refine p_tail [11,12] (by kernel_rfl) rfl ?_;refine zB rfl (zJ (hK3 _ ?_));exact zP (zR zY x rfl (by decide) rfl rfl rfl (λ_ h _=>h.1) zU)
def epost(r1 r0:Res):Post Bool:={ ret:=λ_=>.t [],own:=λt=>[bif t then r1 else r0] }
end Go.Proofs.YtdinohbahfdphaaGreatDoor
namespace Go.Proofs.YtdinohbahfdphaaGreatDoor
open Go.RowKit Go.IntWalk
def LoopR(l:Nat)(o:Loop):Res where
  holds w S:=w.heap[l]?=some (.loop o)/\∀k,S k↔k=l
  keep:=λ⟨h1,h2⟩ hk=>⟨(hk l ((h2 l).2 rfl)).trans h1,h2⟩
  lt:=λ⟨h1,h2⟩ k hk=>by rw [(h2 k).1 hk];exact(bD.1 h1).1
def VRes(G:Nat->Nat)(L:List LV)(R:List Res):Res where
  holds w S:=∃S0,(∀x∈L,Blk w (G x.j) x.t (catP x.ps)/\OkP x.ps)/\(namesL L).Pairwise (λi j=>G i≠G j)/\starL R w S0/\(∀j∈namesL L,¬S0 (G j))/\∀k,S k↔Mine S0 G L k
  keep:=λ⟨S0,h1,h2,h3,h4,h5⟩ hk=>⟨S0,λx hx=>⟨(hk _ ((h5 _).2 (.inr ⟨x.j,aU.2 ⟨x,hx,rfl⟩,rfl⟩))).trans (h1 x hx).1,(h1 x hx).2⟩,h2,h3.keep λk hs=>hk k ((h5 k).2 (.inl hs)),h4,h5⟩
  lt:=λ⟨S0,h1,_,h3,_,h5⟩ k hk=>by
    rcases(h5 k).1 hk with hk|⟨j,hj,rfl⟩
    . exact h3.lt k hk
    . obtain⟨x,hx,rfl⟩:=aU.1 hj
      exact(h1 x hx).1.lt
def noneL:List LV->Bool
  | []=>true
  | x::L=>x.g.isNone&&noneL L
theorem noneL_ok:∀{L:List LV},noneL L=true->∀x∈L,x.g=none
 | y::L,h,x,hx=>by
  unfold noneL at h;rw [aM] at h;rcases aH.1 hx with rfl|hx
  .exact Option.isNone_iff_eq_none.1 h.1
  .exact noneL_ok h.2 x hx
section
variable{b:Base}{G G':Nat->Nat}{S:Nat->Prop}{L L':List LV}{R R':List Res}{F M:World->Prop}{w w':World}
def StW.toV(h:StW b G S L R F M w):(VRes G L R).holds w (Mine S G L):=⟨S,λx hx=>⟨(h.var x hx).1,(h.var x hx).2.1⟩,h.apart,h.res,h.sep,λ_=>g8⟩
theorem mem_withG{G:Nat->Nat}:∀{L:List LV} {x:LV},x∈L->{ x with g:=some (G x.j) }∈withG G L
 | y::L,x,h=>by
  rcases aH.1 h with rfl|h
  .exact aL
  .exact aJ _ (mem_withG h)
def StW.at_withG(h:StW b G' S (withG G L) R F M w):∀j∈namesL L,G' j=G j:=λj hj=>by obtain⟨x,hx,rfl⟩:=aU.1 hj;exact(h.var _ (mem_withG hx)).2.2 _ rfl
def StW.toVG(h:StW b G' S (withG G L) R F M w):(VRes G L R).holds w (Mine S G L)/\∀k,Mine S G L k↔Mine S G' (withG G L) k:=by
 have hg:=h.at_withG;refine⟨⟨S,λx hx=>?_,?_,h.res,λj hj=>?_,λ_=>g8⟩,λk=>?_⟩
 .have h1:=h.var _ (mem_withG hx);have h2:=hg x.j (aU.2 ⟨x,hx,rfl⟩);rw [<-h2];exact⟨h1.1,h1.2.1⟩
 .have h1:=h.apart;rw [withG_names] at h1;exact h1.imp_of_mem λhi hj hne=>by rwa [<-hg _ hi,<-hg _ hj]
 .rw [<-hg j hj];exact h.sep j (by rw [withG_names];exact hj)
 .unfold Mine;rw [withG_names];exact or_congr g8 ⟨λ⟨j,hj,e⟩=>⟨j,hj,(hg j hj).trans e⟩,λ⟨j,hj,e⟩=>⟨j,hj,(hg j hj).symm.trans e⟩⟩
def StW.ofV{S1:Nat->Prop}(h:(VRes G L R).holds w S1)(hF:Stb S1 F w):∃S0,StW ⟨λ_=>False,w,S1⟩ G S0 (withG G L) R F (λ_=>True) w:=by
 obtain⟨S0,h1,h2,h3,h4,h5⟩:=h;have hM:∀k,Mine S0 G (withG G L) k↔S1 k:=λk=>by rw [h5 k];unfold Mine;rw [withG_names]
 refine⟨S0,λx hx=>?_,by rw [withG_names];exact h2,h3,by rw [withG_names];exact h4,hF.less λk _ hk=>hk.elim qR (hM k).1,λ_ _=>trivial,Chg.refl _ _,λk hk _=>(hM k).1 hk,λ_ h=>h.elim⟩;obtain⟨y,hy,rfl⟩:=withG_mem hx;exact⟨(h1 y hy).1,(h1 y hy).2,λg hg=>bL hg⟩
theorem StW.back{T:Nat->Prop}(h:StW b G S L R F M w)(hg:noneL L'=true)(hc:Chg (Mine S G L) w w')(hv:(VRes G L' R').holds w' T)(hT:∀k,T k->k<w.heap.size->Mine S G L k):∃S',StW b G S' L' R' F M w':=by
 obtain⟨S0,h1,h2,h3,h4,h5⟩:=hv;have hm:∀k,Mine S0 G L' k->k<w.heap.size->Mine S G L k:=λk hk=>hT k ((h5 k).2 hk);refine⟨S0,λx hx=>⟨(h1 x hx).1,(h1 x hx).2,λg e=>?_⟩,h2,h3,h4,?_,?_,h.chg.step hc λi hi hs=>h.mine i hs hi,λk hk hlt=>h.mine k (hm k hk (bZ hlt h.chg.size)) hlt,h.old⟩
 .rw [noneL_ok hg x hx] at e;cases e
 .exact h.fact.past (D':=Dof b.X S0 G L') (hc.mono (D':=Dof b.X S G L) λi _ hs=>.inr hs) λi hi hd=>hd.imp id λhd=>hm i hd hi
 .exact h.fresh.past (D':=Nof b S0 G L') (hc.mono (D':=Nof b S G L) λi _ hs=>.inr hs) λi hi hd=>hd.imp id λhd=>hm i hd hi
def StW.mark{l:Nat}{o:Loop}(o':Loop)(h:StW b G S L (LoopR l o::R) F M w):∃S',StW b G S' L (LoopR l o'::R) F M (w.putObj l (.loop o')):=by obtain⟨S1,h1,h2⟩:=h.put (i:=0) rfl;refine h2 (LoopR l o') _ (λk=>k=l) ((chg_putObj w l _).mono λk _ hk=>(h1.2 k).2 hk) ⟨World.putObj_heap_same (bD.1 h1.1).1,λ_=>g8⟩ λk hk _=>(h1.2 k).2 hk
def StW.recd{l:Nat}{o:Loop}(h:StW b G S L (LoopR l o::R) F M w):w.heap[l]?=some (.loop o):=by obtain⟨S1,h1,_⟩:=h.put (i:=0) rfl;exact h1.1
end
def jumpX:Option Nat->Exit
  | none=>.ret
  | some id=>.exit id
def jumpC:Option Nat->Code
  | none=>.ret
  | some id=>.exit id
def AnyR{σ:Type}(p:σ->Prop)(r:σ->Res):Res where
  holds w S:=∃s,p s/\(r s).holds w S
  keep:=λ⟨s,hp,h⟩ hk=>⟨s,hp,(r s).keep h hk⟩
  lt:=λ⟨s,_,h⟩=>(r s).lt h
def StarR(R:List Res):Res where
  holds w S:=starL R w S
  keep:=λh hk=>h.keep hk
  lt:=λh=>h.lt
def starR{R R':List Res}{w:World}{S:Nat->Prop}:starL (StarR R::R') w S↔starL (R++R') w S:=by rw [starL.app];rfl
def VRes.more{G:Nat->Nat}{L:List LV}{R O:List Res}{w:World}{S1 S2:Nat->Prop}(h:(VRes G L R).holds w S1)(h2:starL O w S2)(hd:∀k,S2 k->¬S1 k):(VRes G L (O++R)).holds w λk=>S2 k\/S1 k:=by
 obtain⟨S0,h3,h4,h5,h6,h7⟩:=h;refine⟨λk=>S2 k\/S0 k,h3,h4,starL.app.2 ⟨S2,S0,h2,h5,λ_=>g8,λk hk h0=>hd k hk ((h7 k).2 (.inl h0))⟩,λj hj hk=>?_,λk=>?_⟩
 .rcases hk with hk|hk
  .exact hd _ hk ((h7 _).2 (.inr ⟨j,hj,rfl⟩))
  .exact h6 j hj hk
 .show S2 k\/S1 k↔(S2 k\/S0 k)\/_
  rw [h7 k];constructor
  .rintro(h|h|h)
   .exact .inl (.inl h)
   .exact .inl (.inr h)
   .exact .inr h
  .rintro((h|h)|h)
   .exact .inl h
   .exact .inr (.inl h)
   .exact .inr (.inr h)
section
variable{ds:List Deferred}{b:Base}{Q:Exit->Act->World->Prop}{N:Nat}{E:SE}{F M:World->Prop}{g:Operand}{k1 k2:Tmp}{assign body:Code}{gf:FuncId}{lb:List Value}{α β σ:Type}
def roundE(b1:Base)(N:Nat)(G:Nat->Nat)(busy:Res)(Rd:Res)(I:σ->Prop)(Ix:Option Nat->σ->Prop)(Lf:σ->List LV)(Rf:σ->List Res):Exit->Act->World->Prop
  | .normal,a,w=>∃s,I s/\St b1 N ⟨[],withG G (Lf s),busy::Rd::Rf s,λ_=>True,λ_=>True⟩ a w
  | .ret,a,w=>∃s,Ix none s/\St b1 N ⟨[],withG G (Lf s),busy::Rd::Rf s,λ_=>True,λ_=>True⟩ a w
  | .exit id,a,w=>∃s,Ix (some id) s/\St b1 N ⟨[],withG G (Lf s),busy::Rd::Rf s,λ_=>True,λ_=>True⟩ a w
  | _,_,_=>False
instance{b1:Base}{G:Nat->Nat}{busy Rd:Res}{I:σ->Prop}{Ix:Option Nat->σ->Prop}{Lf:σ->List LV}{Rf:σ->List Res}:NoOut (roundE b1 N G busy Rd I Ix Lf Rf):=⟨λ_ _ h=>h⟩
def k_rnd{b1:Base}{G:Nat->Nat}{busy Rd:Res}{I:σ->Prop}{Ix:Option Nat->σ->Prop}{Lf:σ->List LV}{Rf:σ->List Res}{e:Env}(s:σ)(hI:I s)(hw:Weak e ⟨[],withG G (Lf s),busy::Rd::Rf s,λ_=>True,λ_=>True⟩):kS b1 (roundE b1 N G busy Rd I Ix Lf Rf .normal) N e:=λ_ _ hs=>⟨s,hI,hs.weak hw⟩
theorem d_rangeG{τ:Type}(ps:Array Tmp)(args:β->List Value)(En:β->SE)(Ov:β->List Res)(nx:τ->β->τ->Prop)(dn:τ->Prop)(t0:τ)(Lf:σ->List LV)(Rf:σ->List Res)(I:τ->σ->Prop)(Ix:Option Nat->σ->Prop)(s0:σ)(Fi:World->Prop)
 (hg:evS E g=some (.v (.func (.func gf) #[] lb.toArray)))(hf:Own gf)(hnone:∀s,noneL (Lf s)=true)(hok:∀t y t',nx t y t'->OkE E->OkE (En y++E))(hsz:∀y,(args y).toArray.size=ps.size)
 (hput:∀y (G:Nat->Nat) (a:Act),Fr N (denE G E) a->Fr N (denE G (En y++E)) { tmps:=(ps.zip (args y).toArray).foldl (λtm (t,v)=>tm.setIfInBounds t v) a.tmps,defers:=[] })
 (hFi:∀w,F w->M w->Fi w)
 (hseq:∀(l:Nat) (Fy:World->Prop) (JR:τ->Res) (JX:Res),(∀t y t',nx t y t'->YSpec l (args y) Fy (StarR (Ov y++[JR t])) (JR t') JX)->Spec gf (.func (.yield l) #[] #[]::lb) [JR t0] (λw=>Fi w/\Fy w) (epost (AnyR dn JR) JX))
 (h0:I t0 s0)
 (hround:∀(G:Nat->Nat) (l D m:Nat) (ready busy:Loop) (b1:Base) (t:τ) (s:σ) (y:β) (t':τ),b.B.heap.size<=b1.B.heap.size->I t s->nx t y t'->∀K:Act->World->Prop,
   (∀E' L' R' F' M',rS (some l) m b1 body (roundE b1 N G (LoopR l busy) (DefR D) (I t') Ix Lf Rf) N ⟨E',L',LoopR l busy::R',F',M'⟩->kS b1 K N ⟨E',L',LoopR l ready::R',F',M'⟩) ->
   rS (some l) m b1 assign (Exit.then K λ_ _ _=>False) N ⟨En y++E,withG G (Lf s),LoopR l ready::DefR D::(Ov y++Rf s),λw=>F w/\M w,λ_=>True⟩)
 (hdone:∀t s D,dn t->I t s->kD (dD D::ds) b (Q .normal) N ⟨E,Lf s,DefR D::Rf s,F,M⟩)
 (hstop:∀c s D,Ix c s->dS (dD D::ds) b (jumpC c) Q N ⟨E,Lf s,DefR D::Rf s,F,M⟩):dS ds b (.rangeFunc g ps assign body) Q N ⟨E,Lf s0,Rf s0,F,M⟩:=λa w hs=>by
 obtain⟨G,S,hfr,hE,hW⟩:=hs;refine(wpIn_wide (n:=0)).1 (wpIn_rangeFunc ?_)
 intro fn _
 obtain⟨rec,hrec⟩:∃rec:LoopState->Option Code->Loop,rec=λst pe=>{ state:=st,pending:=pe,fn,tmps:=a.tmps,params:=ps,assign,body,defers:=w.heap.size }:=⟨_,rfl⟩
 have hpe:∀st pe,(rec st pe).pending=pe:=λst pe=>by rw [hrec]
 obtain⟨w1,hw1⟩:∃w1,(w.alloc (.deferred (some []))).alloc (.loop (rec .ready none))=w1:=⟨_,rfl⟩;obtain⟨l,hl⟩:∃l,w.heap.size+1=l:=⟨_,rfl⟩;obtain⟨D,hD⟩:∃D,w.heap.size=D:=⟨_,rfl⟩
 have hSt1:∃S1,StW b G S1 (Lf s0) (LoopR l (rec .ready none)::DefR D::Rf s0) F M w1:=by
  obtain⟨S2,h2⟩:=hW.gain (w':=w.alloc (.deferred (some []))) ((Below.refl _ w).alloc (aF _) _) (r:=DefR D) (S':=λk=>k=D) ⟨by rw [<-hD];exact uI w _,λ_=>g8⟩ λk hk=>by omega
  obtain⟨S3,h3⟩:=h2.gain (w':=w1) (by rw [<-hw1];exact(Below.refl _ _).alloc (aF _) _) (r:=LoopR l (rec .ready none)) (S':=λk=>k=l) ⟨by
   rw [<-hw1,<-hl];have:=uI (w.alloc (.deferred (some []))) (.loop (rec .ready none))
   rwa [dG] at this,λ_=>g8⟩ λk hk=>by rw [dG];omega
  exact⟨S3,h3⟩
 obtain⟨S1,hW1⟩:=hSt1;refine⟨l,[dD D],w1,{ target:=.fn (.func gf) lb.toArray,args:=#[.func (.yield l) #[] #[]] },w1,gf,#[.func (.yield l) #[] #[]]++lb.toArray,w1,?_,?_,λ_ _=>trivial,?_,λh=>(by cases h),?_⟩
 .rw [<-hw1,hrec,<-hl,<-hD];exact run_enterLoop_outer _ _ _ _ _
 .have e:(withD ds a).eval g = .func (.func gf) #[] lb.toArray:=hfr.eval (evS_ok hg);simp only [resolve,e];simp [go_sem]
 .simp [invoke,go_sem];exact hf _ w1
 let JR:τ->Res:=λt=>AnyR (I t) λs=>VRes G (Lf s) (LoopR l (rec .ready none)::DefR D::Rf s)
 let JX:Res:=AnyR (λx:Option Nat×σ=>Ix x.1 x.2) λx=>VRes G (Lf x.2) (LoopR l (rec .done (some (jumpC x.1)))::DefR D::Rf x.2)
 have hy:∀t y t',nx t y t'->YSpec l (args y) (λw=>F w/\M w) (StarR (Ov y++[JR t])) (JR t') JX:=by
  rintro t y t' hj w2 S2 hst2 hF2 m;obtain⟨SO,SJ,hO,hJ,hS2,hdis⟩:=starL.app.1 hst2;obtain⟨s,hI,hv0⟩:=star1.1 hJ;have hv1:(VRes G (Lf s) (Ov y++(LoopR l (rec .ready none)::DefR D::Rf s))).holds w2 S2:=by obtain⟨S0,a1,a2,a3,a4,a5⟩:=VRes.more hv0 hO hdis;exact⟨S0,a1,a2,a3,a4,λk=>(hS2 k).trans (a5 k)⟩
  have hv:(VRes G (Lf s) (LoopR l (rec .ready none)::DefR D::(Ov y++Rf s))).holds w2 S2:=by obtain⟨S0,a1,a2,a3,a4,a5⟩:=hv1;exact⟨S0,a1,a2,a3.perm (List.perm_middle.trans (.cons _ List.perm_middle)),a4,a5⟩
  obtain⟨S3,h3⟩:=StW.ofV hv hF2;have hle:b.B.heap.size<=w2.heap.size:=by have h1:=(bD.1 h3.recd).1;have h2:=hW.chg.size;omega
  have hy:(Instr.yield l (args y).toArray).run prog w2 = .ok (.round l fn ((ps.zip (args y).toArray).foldl (λtm (t,v)=>tm.setIfInBounds t v) a.tmps) assign body) w2:=by
   have hy:=run_yield (P:=prog) (args:=(args y).toArray) h3.recd (by rw [hrec];exact hsz y)
   rwa [hrec] at hy
  refine⟨fn,_,assign,body,hy,roundIn_of_wpIn trivial ?_⟩;refine hround G l D m (rec .ready none) (rec .busy none) ⟨λ_=>False,w2,S2⟩ t s y t' hle hI hj _ ?_ _ _ ⟨G,S3,?_,?_,h3⟩
  .rintro E' L' R' F' M' hb a3 w3 ⟨G4,S4,h41,h42,h43⟩
   refine⟨_,run_beginRound h43.recd (by rw [hrec]),?_⟩;obtain⟨S5,h5⟩:=h43.mark (rec .busy none);have h6:=hb a3 _ ⟨G4,S5,h41,h42,h5⟩;have eb:({ rec .ready none with state:=.busy }:Loop)=rec .busy none:=by rw [hrec]
   rw [eb];refine wpIn_mono h6 ?_;have fin:∀(c:Option Code) (a4:Act) (w4:World) (s':σ),St ⟨λ_=>False,w2,S2⟩ N ⟨[],withG G (Lf s'),LoopR l (rec .busy none)::DefR D::Rf s',λ_=>True,λ_=>True⟩ a4 w4 ->
     ∃w5 S5,(Instr.endRound l c).run prog w4 = .ok (.bool c.isNone) w5/\Chg S2 w2 w5/\(VRes G (Lf s') (LoopR l (rec (if c.isNone then .ready else .done) c)::DefR D::Rf s')).holds w5 S5/\∀k,S5 k->k<w2.heap.size->S2 k:=by
    rintro c a4 w4 s' ⟨G7,S7,_,_,h7⟩
    obtain⟨S8,h8⟩:=h7.mark (rec (if c.isNone then .ready else .done) c);have hr:=run_endRound (P:=prog) c h7.recd
    have eb:({ rec .busy none with state:=if c.isNone then .ready else .done,pending:=c }:Loop)=rec (if c.isNone then .ready else .done) c:=by rw [hrec]
    rw [eb] at hr;obtain⟨h9,h10⟩:=h8.toVG;exact⟨_,_,hr,h8.chg,h9,λk hk hlt=>h8.mine k ((h10 k).1 hk) hlt⟩
   rintro e a4 w4 hp;cases e with
   | normal =>
    obtain⟨s',hI',hs'⟩:=hp;obtain⟨w5,S5,hr,hc,hv,hS⟩:=fin none a4 w4 s' hs';exact⟨_,_,hr,true,S5,rfl,hc,⟨s',hI',hv⟩,hS⟩
   | ret =>
    obtain⟨s',hI',hs'⟩:=hp;obtain⟨w5,S5,hr,hc,hv,hS⟩:=fin (some .ret) a4 w4 s' hs';exact⟨_,_,hr,false,S5,rfl,hc,⟨(none,s'),hI',hv⟩,hS⟩
   | exit id =>
    obtain⟨s',hI',hs'⟩:=hp;obtain⟨w5,S5,hr,hc,hv,hS⟩:=fin (some (.exit id)) a4 w4 s' hs';exact⟨_,_,hr,false,S5,rfl,hc,⟨(some id,s'),hI',hv⟩,hS⟩
   | _=>exact hp.elim
  .exact hput y G a hfr
  .exact hok t y t' hj hE
 have hcall:=hseq l (λw=>F w/\M w) JR JX hy w1 (Mine S1 G (Lf s0)) (λ_=>False) (star1.2 ⟨s0,h0,hW1.toV⟩) (λ_ h=>h.elim) ((hW1.all.imp λw hw=>⟨hFi w hw.1 hw.2,hw⟩).less λk _ hk=>.inr (hk.elim qR id))
 have e:(.func (.yield l) #[] #[]::lb).toArray = #[.func (.yield l) #[] #[]]++lb.toArray:=by simp
 rw [e] at hcall;refine(calls_in (ro:=none) (n:=0-1) hcall).mono ?_
 have ea:({ withD ds a with defers:=[dD D]++(withD ds a).defers }:Act)=withD (dD D::ds) a:=by have:=hfr.defers;cases a;simp only at this;subst this;rfl
 rw [ea]
 rintro e w2 ⟨t,S2,rfl,_,hc2,h2,hS2,_,_⟩
 have h2:=star1.1 h2
 cases t with
 | true =>
  obtain⟨t,hdn,s,hI,hv⟩:=h2;obtain⟨S3,h3⟩:=hW1.back (hnone s) hc2 hv hS2;have hr:=run_endLoop (P:=prog) h3.recd (by rw [hrec];simp);obtain⟨S4,h4⟩:=StW.drop (D:=l) h3 (λS1 hS=>(hS.2 l).2 rfl) (chg_putObj w2 l (.loop (rec .exhausted none)))
  have eb:({ rec .ready none with state:=.exhausted }:Loop)=rec .exhausted none:=by rw [hrec]
  rw [eb,hpe] at hr;exact⟨_,_,hr,hdone t s D hdn hI a _ ⟨G,S4,hfr,hE,h4⟩⟩
 | false =>
  obtain⟨⟨c,s⟩,hI,hv⟩:=h2;obtain⟨S3,h3⟩:=hW1.back (hnone s) hc2 hv hS2;have hr:=run_endLoop (P:=prog) h3.recd (by rw [hrec];simp);obtain⟨S4,h4⟩:=StW.drop (D:=l) h3 (λS1 hS=>(hS.2 l).2 rfl) (chg_putObj w2 l (.loop (rec .exhausted (some (jumpC c)))))
  have eb:({ rec .done (some (jumpC c)) with state:=.exhausted }:Loop)=rec .exhausted (some (jumpC c)):=by rw [hrec]
  rw [eb,hpe] at hr;exact⟨_,_,hr,(wpIn_wide (n:=0)).2 (hstop c s D hI a _ ⟨G,S4,hfr,hE,h4⟩)⟩
end
end Go.Proofs.YtdinohbahfdphaaGreatDoor
namespace Go.Proofs.YtdinohbahfdphaaGreatDoor
open Go.RowKit Go.IntWalk Nums
section
variable{ds:List Deferred}{ro:Option Nat}{n:Nat}{b:Base}{Q:Exit->Act->World->Prop}{N:Nat}{E:SE}{L:List LV}{R:List Res}{F M:World->Prop}{id:Nat}{l:List Oper}{y:Code}
def d_seqD{x:Code}{e:Env}(h:∀K:Act->World->Prop,(∀ds' e',dS ds' b y Q N e'->kD ds' b K N e')->dS ds b x (Exit.then K Q) N e):dS ds b (.seq x y) Q N e:=λa w hs =>
 wp_seq_k λK hK=>h K (λ_ _ h' a' w' hs'=>hK _ _ (h' a' w' hs')) a w hs
instance:NoOut (λ_ _ _=>False):=⟨λ_ _ h=>h⟩
end
def laidOut9:laidOutB prog=true:=by kernel_rfl
def hash_keyed:Maps.Keyed prog 47:=Maps.Keyed.of_law (deep_law_laid (m:=4) laidOut9 (by decide) (of_decide_eq_true (by kernel_rfl)) (by kernel_rfl) (by kernel_rfl))
def KVT(s:List UInt8):Value:=.agg (By s).toArray
theorem KVT_inj:∀{l m:List UInt8},KVT l=KVT m->l=m:=by
 intro l m h;have h8:By l=By m:=by injection h with h;exact List.toArray_inj h
 clear h;induction l generalizing m with
 | nil=>cases m with
  | nil=>rfl
  | cons=>cases h8
 | cons x l ih=>cases m with
  | nil=>cases h8
  | cons y m =>
   injection h8 with h1 h2
   injection h1 with _ h1
   rw [ih h2,UInt8.toNat_inj.1 (by omega:x.toNat=y.toNat)]
def key_u8T(d:Nat)(n:Nat)(h:n<256):prog.keyLits (d+1) 5 [.int .u8 (n:Int)]=some [.int .u8 (n:Int)]:=by
 have hw:(Lit.int .u8 (n:Int)).wf=true:=by simp [Lit.wf,IntKind.min,IntKind.max,oI,qC];omega
 simp [Program.keyLits,underlying5,hw]
theorem key_hashL(d:Nat){s:List UInt8}(hs:s.length=32):∃l,prog.keyLits (d+2) 47 (By s)=some l:=by
 have hc:prog.cellsOf 47 = 32:=by kernel_rfl
 have h8:prog.cellsOf 5 = 1:=by kernel_rfl
 have hm:∀i,i<32->∃l,prog.keyLits (d+1) 5 (((By s).drop (i*1)).take 1)=some l:=λi hi=>by
  have e:((By s).drop (i*1)).take 1=[.int .u8 ((s[i]'(by omega)).toNat:Int)]:=by rw [Nat.mul_one,List.drop_eq_getElem_cons (by rw [By_len];omega)];simp [By]
  rw [e];exact⟨_,key_u8T d _ (dN _)⟩
 have key:∀(is:List Nat),(∀i∈is,i<32)->∃L,is.mapM (λi=>prog.keyLits (d+1) 5 (((By s).drop (i*1)).take 1))=some L:=by
  intro is;induction is with
  | nil=>intro _;exact⟨[],rfl⟩
  | cons i is ih =>
   intro h
   obtain⟨l,hl⟩:=hm i (h i (by simp));obtain⟨L,hL⟩:=ih λj hj=>h j (by simp [hj]);exact⟨l::L,by simp only [List.mapM_cons,hl,hL];rfl⟩
 obtain⟨L,hL⟩:=key (List.range 32) (λi hi=>List.mem_range.1 hi);refine⟨L.flatten,?_⟩;unfold Program.keyLits;simp only [underlying47];rw [if_pos (by rw [By_len,hs,hc]),h8,hL];rfl
theorem hash_key{s:List UInt8}(hs:s.length=32):∃l,keyOf prog 47 (KVT s)=some l:=by
 have hk:prog.keyType 47 = true:=by kernel_rfl
 have hc:prog.cellsOf 47 = 32:=by kernel_rfl
 have hf:(KVT s).formed prog 47 = true:=by unfold KVT Value.formed;simp only [underlying47,hc];simp [By_len,hs]
 obtain⟨n,hn⟩:∃n,prog.types.size+1=n+2:=⟨prog.types.size-1,by
  have:decide (2<=prog.types.size)=true:=by kernel_rfl
  have:=of_decide_eq_true this;omega⟩
 obtain⟨ls,hls⟩:=key_hashL n hs;have hcs:(KVT s).cells.toList=By s:=rfl;refine⟨.string (keyBytes ls),?_⟩;unfold keyOf;simp only [underlying47,hk,hf,Bool.and_self,if_true,hn,hcs,hls];rfl
abbrev TH:MapT (List UInt8) HSeg:={ t:=28,kt:=47,vt:=38,kv:=eY 32,vv:=eHs }
abbrev ok32(k:List UInt8):Prop:=k.length=32
def TH_ok:TH.Ok ok32 where
 und:=underlying28
 keyed:=hash_keyed
 key _ h:=hash_key h
 inj _ _ h:=KVT_inj h
theorem nilH_zero:∀w,(zeroValue TH.vt).run prog w = .ok (TH.V nilH) w:=λw=>by
 have hi:(prog.info? 38).bind (·.zero)=some (.slice none 0 0):=by kernel_rfl
 unfold zeroValue typeInfo;cases h:prog.info? 38 with
 | none=>rw [h] at hi;cases hi
 | some i =>
  rw [h] at hi;have hi:i.zero=some (.slice none 0 0):=hi
  simp [h,hi]
  rfl
structure DirV where
  ep:Int
  mv:Option Nat
  es:Array MapEntry
  clock:Nat
  n:Nat
  h:List UInt8->Option HSeg
  t:TA
  l:List EntD
def DirV.parts(d:DirV):List Pt:=[.one (.v (.int .i64 d.ep)),.one (.v (.map d.mv)),.agg 2 #[d.t.val,.int .u8 0]]
abbrev eDv(d:DirV):SQ:=.p d.parts
def dval_one(t:TA):t.val.oneCell'=true:=by cases t<;>rfl
def DirV.parts_ok(d:DirV):OkP d.parts:=λp hp=>by
 simp only [DirV.parts,aH,fW,or_false] at hp;rcases hp with rfl|rfl|rfl
 .exact⟨trivial,rfl,rfl⟩
 .exact⟨trivial,rfl,rfl⟩
 .refine⟨rfl,λv hv=>?_⟩
  simp only [aH,fW,or_false] at hv;rcases hv with rfl|rfl
  .exact dval_one _
  .rfl
structure DirV.Ok(d:DirV):Prop where
  dir:DirOk d.l
  small:SmallD d.l
  tells:Tells d.h d.l
  tree:TOk 256 (pairsD d.l) d.t
  map:match d.mv with|none=>∀k,d.h k=none|some _=>MapH TH ok32 d.es d.clock d.n d.h
def DirV.F(d:DirV)(w:World):Prop:=(∀m,d.mv=some m->MapE m d.es d.clock w)/\(∀k s,d.h k=some s->s.rd w)/\TF d.t w
instance dirPst{d:DirV}:Pst d.F:=⟨λ_ _ ⟨h1,h2,h3⟩ hb=>⟨λm hm=>Pst.later _ _ (h1 m hm) hb,λk s hs=>Pst.later (p:=s.rd) _ _ (h2 k s hs) hb,h3.later hb⟩⟩
def zDirV:DirV:=⟨0,none,#[],0,0,λ_=>none,.nil,[]⟩
def zDirV_ok:zDirV.Ok:=⟨DirOk.nil,λ_ h=>(by cases h),Tells.nil,rfl,λ_=>rfl⟩
def zDirV_F(w:World):zDirV.F w:=⟨λ_ h=>(by cases h),λ_ _ h=>(by cases h),trivial⟩
def DirV.cnt(d:DirV):Nat:=match d.mv with
  | none=>0
  | some _=>d.n
def DirV.seg(d:DirV)(k:List UInt8):HSeg:=(d.h k).getD nilH
theorem DirV.Ok.seg_l{d:DirV}(h:d.Ok)(k:List UInt8):(d.seg k).l=bV d.l k:=by
 unfold DirV.seg;cases hk:d.h k with
 | none=>exact((h.tells k).2 hk).symm
 | some s=>exact((h.tells k).1 s hk).2.symm
theorem DirV.F.seg_rd{d:DirV}{w:World}(h:d.F w)(k:List UInt8):(d.seg k).rd w:=by
 unfold DirV.seg;cases hk:d.h k with
 | none=>exact Rd.nil _ _ _
 | some s=>exact h.2.1 k s hk
section
variable{N:Nat}{E:SE}{L:List LV}{R:List Res}{F M:World->Prop}{o:Oper}{x y:Operand}
theorem runO_hist{d:DirV}(hd:d.Ok)(hF:∀G S w,View G S L R F M w->d.F w)(k:List UInt8)(hk:k.length=32)(ho:o.op = .lookup TH.t x y false)(hx:evS E x=some (.v (.map d.mv)))(hy:evS E y=some (.q (eY 32 k))) :
  ∀(G:Nat->Nat) (S:Nat->Prop) (a:Act) (w:World),Fr N (denE G E) a->View G S L R F M w->(execOp a.eval o).run prog w = .ok (.value ((SV.q (eHs (d.seg k))).den G)) w:=by
 have hm:=hd.map
 unfold DirV.seg
 cases hmv:d.mv with
 | none =>
  rw [hmv] at hm hx;rw [hm k];exact runO_noneN TH_ok k nilH hk nilH_zero ho hx hy
 | some m =>
  rw [hmv] at hm hx;have hA:∀G S w,View G S L R F M w->MapA TH ok32 m d.n d.h w:=λG S w h=>⟨d.es,d.clock,(hF G S w h).1 m hmv,hm⟩
  cases hs:d.h k with
  | none=>exact runO_noneA TH_ok hA k nilH hk hs nilH_zero ho hx hy
  | some s=>exact runO_lookA TH_ok hA k s hk hs ho hx hy
theorem runO_grown{m n:Nat}{g:List UInt8->Option HSeg}(hA:∀G S w,View G S L R F M w->MapA TH ok32 m n g w)(k:List UInt8)(hk:k.length=32)(ho:o.op = .lookup TH.t x y true)(hx:evS E x=some (.v (.map (some m))))(hy:evS E y=some (.q (eY 32 k))) :
  ∀(G:Nat->Nat) (S:Nat->Prop) (a:Act) (w:World),Fr N (denE G E) a->View G S L R F M w->(execOp a.eval o).run prog w = .ok (.value ((SV.t [eHs ((g k).getD nilH),.c (.b (g k).isSome)]).den G)) w:=by
 cases hs:g k with
 | none=>exact runO_noneA2 TH_ok hA k nilH hk hs nilH_zero ho hx hy
 | some s=>exact runO_lookA2 TH_ok hA k s hk hs ho hx hy
theorem runO_lenD{d:DirV}(hd:d.Ok)(hF:∀G S w,View G S L R F M w->d.F w)(ho:o.op = .call { callee:=.builtin .len,args:=#[x],argTypes:=#[TH.t] })(hx:evS E x=some (.v (.map d.mv))) :
  ∀(G:Nat->Nat) (S:Nat->Prop) (a:Act) (w:World),Fr N (denE G E) a->View G S L R F M w->(execOp a.eval o).run prog w = .ok (.value ((SV.v (.int .i64 (d.cnt:Int))).den G)) w:=by
 have hm:=hd.map
 unfold DirV.cnt
 cases hmv:d.mv with
 | none =>
  rw [hmv] at hx;exact runO_lenN TH_ok ho hx
 | some m =>
  rw [hmv] at hm hx;exact runO_lenA TH_ok (λG S w h=>⟨d.es,d.clock,(hF G S w h).1 m hmv,hm⟩) ho hx
end
def eY_all{k:List UInt8}(h:ok32 k):(TH.kv k).Ok:=(eY_ok h).1
def eHs_all(s:HSeg):(TH.vv s).Ok:=trivial
def HasM(h:List UInt8->Option HSeg)(done:List (List UInt8×HSeg)):Prop:=∀k s,h k=some s↔(k,s)∈done
def HasM.nil:HasM (λ_=>none) []:=λk s=>by simp
def HasM.put{h:List UInt8->Option HSeg}{done:List (List UInt8×HSeg)}(hh:HasM h done){k:List UInt8}(s:HSeg)(hn:∀d∈done,d.1≠k):HasM (putF h k s) (done++[(k,s)]):=λx y=>by
 unfold putF;rw [bO,aE];by_cases c:x=k
 .subst c
  rw [if_pos rfl];constructor
  .exact λe=>.inr (by injection e with e;rw [e])
  .rintro(e|e)
   .exact absurd rfl (hn _ e)
   .injection e with _ e;rw [e]
 .rw [if_neg c,hh x y];exact⟨.inl,λe=>e.resolve_right λe=>c (by injection e)⟩
theorem HasM.eq{h g:List UInt8->Option HSeg}{done:List (List UInt8×HSeg)}(hh:HasM h done)(h1:∀d∈done,g d.1=some d.2)(h2:∀k s,g k=some s->(k,s)∈done):h=g:=by
 funext k;cases hg:g k with
 | some s=>exact(hh k s).2 (h2 k s hg)
 | none =>
  cases hk:h k with
  | none=>rfl
  | some s =>
   have:=h1 _ ((hh k s).1 hk);rw [hg] at this
   cases this
theorem mcopy_S{d:DirV}(hd:d.Ok)(m:Nat):Spec 74 [.map (some m),.map d.mv] [MapG TH ok32 m 0 λ_=>none] d.F { ret:=λ_=>.t [],own:=λn:Nat=>[MapG TH ok32 m n d.h] }:=by
 refine zQ [.c (.v (.map (some m))),.c (.v (.map d.mv))] 16 func74 rfl (by rw [ntmps74];rfl) (two_ok trivial trivial) λb=>?_;have hm:=hd.map;cases hmv:d.mv with
 | none =>
  rw [hmv] at hm;have hh:d.h=λ_=>none:=funext hm;refine zC rfl λK hK=>l_rangeN rfl rfl rfl rfl underlying28 rfl λr=>zJ (hK _ (zN ?_))
  let Fs:Unit->Env:=λ_=>⟨[(7,.v (.pointer (some ⟨r,0,none⟩)))],[],[ItR none r 0 #[],MapG TH ok32 m 0 λ_=>none],λ_=>True,λ_=>True⟩
  refine c_weak (e':=Fs ()) ⟨⟨rfl,trivial⟩,trivial,.refl _,λ_ _ _=>trivial, zU⟩ (s_loop (λ_=>0) Fs (λ_=>True) ?_ () trivial)
  intro _ _
  refine zC rfl λK2 hK2=>l_nextN 0 rfl rfl rfl rfl rfl rfl (zB rfl (zJ (hK2 _ (zM λK3 hK3=>s_no rfl (s_exit (zS (zS (k_out (k_drop 0 rfl ?_)))))))));exact zR zY 0 rfl (by decide) rfl rfl (by rw [hh];rfl) (λ_ _ _=>trivial) zU
 | some m2 =>
  rw [hmv] at hm;have hH:MapH TH ok32 d.es d.clock d.n d.h:=hm;refine zC rfl λK hK=>l_rangeM rfl rfl rfl rfl underlying28 rfl (es:=d.es) (clock:=d.clock) (λ_ _ _ h=>h.fact.1 m2 hmv) λr=>zJ (hK _ (zN ?_))
  let Fs:Array Nat×List (List UInt8×HSeg)×Nat×(List UInt8->Option HSeg)->Env:=λx=>⟨[(7,.v (.pointer (some ⟨r,0,none⟩))),(0,.v (.map (some m)))],[],[ItR (some m2) r d.clock x.1,MapG TH ok32 m x.2.2.1 x.2.2.2],MapE m2 d.es d.clock,λ_=>True⟩
  refine c_weak (e':=Fs (#[],[],0,λ_=>none)) ⟨zE rfl, trivial, .refl _,λ_ h _=>h.1 m2 hmv, zU⟩ (s_loop (λx=>(leftOf d.es x.1).size) Fs (λx=>DidM TH ok32 d.es d.h x.1 x.2.1/\HasM x.2.2.2 x.2.1) ?_ (#[],[],0,λ_=>none) ⟨DidM.nil,HasM.nil⟩)
  rintro⟨seen,done,n,f⟩ ⟨hD,hB⟩
  dsimp only at hD hB
  refine zC rfl λK2 hK2=>?_;refine l_nextM hH hD (λ_ h=>eY_all h) eHs_all 0 rfl rfl rfl rfl rfl rfl (λ_ _ _ h=>h.fact) (λh0=>?_) λq v seen' hq hv hne hlt hl hD'=>?_
  .refine zB rfl ?_;refine zJ (hK2 _ (zM λK3 hK3=>s_no rfl (s_exit (zS (zS (k_out (k_drop 0 rfl ?_)))))));exact zR zY n rfl (by decide) rfl rfl (by rw [hB.eq (λd hd=>(hD.in_ d hd).2) λk s h=>hD.all TH_ok hH h0 h];rfl) (λ_ _ _=>trivial) zU
  refine zB rfl (zJ (hK2 _ (zM λK3 hK3=>s_yes rfl (zO (hK3 _ (zN (zC rfl λK4 hK4=>l_opV (.t [eY 32 q,eHs v]) (two_ok (eY_all hq) trivial) rfl rfl rfl (runO_entry hH 0 rfl hl (λ_ _ _ h=>h.fact) rfl rfl) (zB rfl (zJ (hK4 _ (s_lit (zB rfl (l_updG TH_ok 1 rfl q v hq rfl rfl rfl rfl rfl rfl (zJ ?_))))))))))))));exact(zX (seen',done++[(q,v)],_,putF f q v) ⟨hD',hB.put v hne⟩ hlt ⟨zE rfl, trivial, .refl _,λ_ h _=>h,λ_ h=>h⟩)
def isI:TypeDesc->Bool
  | .interface _=>true
  | _=>false
section
variable{P:Program}{a t ti:TypeId}{d:TypeDesc}{v z:Value}{w:World}
def assert_yes(hu:P.underlying a=some d)(hd:isI d=false):(mL (.iface a v) ti a true).run P w = .ok (.tuple #[v,.bool true]) w:=by simp only [mL,aG,run_underlying hu,aC];cases d<;>first|(simp;done)|cases hd
def assert_no(hu:P.underlying a=some d)(hd:isI d=false)(ht:t≠a)(hz:(P.info? a).map (·.zero)=some (some z)):(mL (.iface t v) ti a true).run P w = .ok (.tuple #[z,.bool false]) w:=by obtain⟨j,hj,hz'⟩:=Option.map_eq_some_iff.1 hz;simp only [mL,aG,run_underlying hu,aC];cases d<;>first|(simp [ht,zeroValue,typeInfo,hj,hz'];done)|cases hd
def ownM(P:Program)(t:TypeId)(name:String)(f:FuncId):Bool:=match P.info? t,P.underlying t with
  | some i,some d=>(match i.methods.find? (·.name==name) with
    | some m=>m.path.isEmpty&&(m.func==some (f,false)) && !(match d with | .pointer _=>true|_=>false)
    | none=>false)
  | _,_=>false
end
section
variable{N:Nat}{E:SE}{o:Oper}{x y:Operand}{t ti a t':TypeId}{d:TypeDesc}{q z:SQ}{v:Value}
def run_mkI(ho:o.op = .makeInterface t x)(hu:prog.underlying t=some d)(hd:isI d=false)(hx:evS E x=some (.q q)) :
  ∀(G:Nat->Nat) (a:Act) (w:World),Fr N (denE G E) a->(execOp a.eval o).run prog w = .ok (.value ((SV.v (.iface t q.den)).den G)) w:=λG a w ha=>by
 have h1:a.eval x=q.den:=ha.eval (evS_ok hx)
 unfold execOp
 simp only [ho,h1,Instr.makeInterface,aG,run_underlying hu,aC]
 cases d<;>first|rfl|cases hd
def run_asYes(ho:o.op = .typeAssert x ti a true)(hu:prog.underlying a=some d)(hd:isI d=false)(hx:evS E x=some (.v (.iface a v)))(hv:v=q.den) :
  ∀(G:Nat->Nat) (ac:Act) (w:World),Fr N (denE G E) ac->(execOp ac.eval o).run prog w = .ok (.value ((SV.t [q,.c (.v (.bool true))]).den G)) w:=λG ac w ha=>by
 have h1:ac.eval x = .iface a v:=ha.eval (evS_ok hx);subst hv
 unfold execOp
 simp only [ho,h1,assert_yes hu hd,aG,aC,aI]
 rfl
def run_asNo(ho:o.op = .typeAssert x ti a true)(hu:prog.underlying a=some d)(hd:isI d=false)(hx:evS E x=some (.v (.iface t v)))(ht:t≠a)(hz:(prog.info? a).map (·.zero)=some (some z.den)) :
  ∀(G:Nat->Nat) (ac:Act) (w:World),Fr N (denE G E) ac->(execOp ac.eval o).run prog w = .ok (.value ((SV.t [z,.c (.v (.bool false))]).den G)) w:=λG ac w ha=>by
 have h1:ac.eval x = .iface t v:=ha.eval (evS_ok hx)
 unfold execOp
 simp only [ho,h1,assert_no hu hd ht hz,aG,aC,aI]
 rfl
def run_eqNilI(ms:Array (String×TypeId))(hu:prog.underlying ti=some (.interface ms))(ho:o.op = .binOp .eql ti x (.const .nilIface) t')(hx:evS E x=some (.v (.iface t v))) :
  ∀(G:Nat->Nat) (ac:Act) (w:World),Fr N (denE G E) ac->(execOp ac.eval o).run prog w = .ok (.value ((SV.v (.bool false)).den G)) w:=λG ac w ha=>by
 have h1:ac.eval x = .iface t v:=ha.eval (evS_ok hx)
 unfold execOp
 simp only [ho,h1]
 go_simp
 rfl
def run_eqNilN(ms:Array (String×TypeId))(hu:prog.underlying ti=some (.interface ms))(ho:o.op = .binOp .eql ti x (.const .nilIface) t')(hx:evS E x=some (.v .nilIface)) :
  ∀(G:Nat->Nat) (ac:Act) (w:World),Fr N (denE G E) ac->(execOp ac.eval o).run prog w = .ok (.value ((SV.v (.bool true)).den G)) w:=λG ac w ha=>by
 have h1:ac.eval x = .nilIface:=ha.eval (evS_ok hx)
 unfold execOp
 simp only [ho,h1]
 go_simp
 rfl
end
theorem run_method{P:Program}{t:TypeId}{v:Value}{name:String}{f:FuncId}{fuel:Nat}{w:World}(h:ownM P t name f=true):(method (fuel+1) t v name).run P w = .ok (f,v) w:=by
 unfold ownM at h;cases hi:P.info? t with
 | none=>rw [hi] at h;cases h
 | some i =>
  cases hu:P.underlying t with
  | none=>rw [hi,hu] at h;cases h
  | some d =>
   rw [hi,hu] at h
   dsimp only at h
   cases hm:i.methods.find? (·.name==name) with
   | none=>rw [hm] at h;cases h
   | some m =>
    rw [hm] at h;simp only [aM,beq_iff_eq,Bool.not_eq_true',Array.isEmpty_iff] at h;obtain⟨⟨h1,h2⟩,h3⟩:=h
    have hti:∀w,(typeInfo t).run P w = .ok i w:=λw=>by simp [typeInfo,hi]
    have hrc:∀w wr,(receiverAt t (.val v) false wr).run P w = .ok v w:=λw wr=>by unfold receiverAt;simp only [run_underlying hu,aG,aC];cases d<;>first|rfl|cases h3
    unfold method
    simp only [aG,hti,aC,hm];rw [h1];simp only [follow,aI,aC,h2,aG,hrc]
theorem run_callI{a:Act}{o:Oper}{f:FuncId}{x:Operand}{name:String}{xs:Array Operand}{ats:Array TypeId}{t:TypeId}{v:Value}(hf:Own f)(hm:ownM prog t name f=true)(ho:o.op = .call { callee:=.invoke x name,args:=xs,argTypes:=ats })(hx:a.eval x = .iface t v)(w:World) :
  (execOp a.eval o).run prog w = .ok (.enter f (#[v]++xs.map a.eval)) w:=by
 obtain⟨dst,op,ty,pos,af,gd⟩:=o;simp only at ho;subst ho;have h:=hf (#[v]++xs.map a.eval) w;have h2:∀fuel w,(method (fuel+1) t v name).run prog w = .ok (f,v) w:=λfuel w=>run_method hm
 have e0:(#[qK t v]++xs.map a.eval)[0]?=some (.iface t v):=by rw [Array.getElem?_append_left (show 0<1 from Nat.zero_lt_one)];rfl
 have e1:(#[qK t v]++xs.map a.eval).extract 1 (#[qK t v]++xs.map a.eval).size=xs.map a.eval:=by apply Array.toList_inj.1;rw [Array.toList_extract,dK,<-bH,dK];show List.take (([qK t v]++(Array.map a.eval xs).toList).length-1) (Array.map a.eval xs).toList=_;exact bK (by rw [aA,bJ];omega)
 have h3:=λw=>h2 (prog.types.size+99) w
 unfold execOp
 simp only [resolve,hx,aG,aI,aC]
 unfold invoke
 dsimp only
 rw [e0]
 dsimp only
 rw [e1]
 unfold callMethod
 dsimp only
 generalize prog=P at *;simp only [aG,run_program,aC];rw [show P.types.size+Made.depth=P.types.size+99+1 from rfl,h3];exact h
section
variable{b:Base}{ops:Array Oper}{Q:Exit->Act->World->Prop}{N:Nat}{E:SE}{L:List LV}{R R' own:List Res}{F M F':World->Prop}{o:Oper}{rest:List Oper}{k:Nat}{α:Type}{post:Post α}{f:FuncId}{x:Operand}{name:String}{xs:Array Operand}{ats:Array TypeId}{svs:List SV}{t:TypeId}{v:Value}
theorem l_callI(args:List Value)(hg:o.guard=none)(hd:o.dst=some k)(hk:aT k N=true)(hf:Own f)(ho:o.op = .call { callee:=.invoke x name,args:=xs,argTypes:=ats })(hx0:evS E x=some (.v (.iface t v)))(hm:ownM prog t name f=true)(hx:evSs E xs.toList=some svs)
 (ha:∀G:Nat->Nat,(∀x∈L,∀g,x.g=some g->G x.j=g)->svs.map (SV.den G)=args)(hs:Spec f (v::args) own F' post)(hF:∀w,F w->M w->F' w)
 (hn:∀x,lS prog b ops Q N rest ⟨(k,(post.ret x).sv)::E,L,post.own x++R',λw=>post.p x w/\F w,λw=>post.n x w/\M w⟩):lS prog b ops Q N (o::rest) ⟨E,L,own++R',F,M⟩:=λa w ⟨G,S,h1,h2,h3⟩=>by
 have hr:=run_callI hf hm ho (show a.eval x = .iface t v from h1.eval (evS_ok hx0)) w;rw [map_eval (args:=(svs.map (SV.den G)).toArray) (h1.evals _ _ (by rw [evSs_ok hx])),ha G λx hx=>(h3.var x hx).2.2,show #[v]++args.toArray=(v::args).toArray by simp] at hr
 unfold wpList
 rw [if_pos (by simp [aQ,hg])];refine .inl ?_
 unfold fJ
 rw [hr];simp only [eX,hd];refine(h3.callA hs hF).mono ?_
 rintro e w' ⟨x,S',rfl,hok,h4⟩
 have h5:=h1.put hk (post.ret x).den;rw [<-RV.sv_den _ G] at h5;have h6:=hn x _ w' ⟨G,S',h5,h2.cons hok,h4⟩;rw [RV.sv_den] at h6;exact h6
end
end Go.Proofs.YtdinohbahfdphaaGreatDoor
namespace Go.Proofs.YtdinohbahfdphaaGreatDoor
open Nums
inductive PW where
  | empty
  | leaf (p:PairT)
  | inner (a b:PW)
  | hid (h:List UInt8)
namespace PW
def root:PW->List UInt8
  | empty=>dR
  | leaf p=>jS p
  | inner a b=>gX a.root b.root
  | hid h=>h
def bytes:PW->List UInt8
  | empty=>[0]
  | leaf p=>1::(p.1++p.2)
  | inner a b=>2::(a.bytes++b.bytes)
  | hid h=>3::h
def kind:PW->Nat
  | empty=>0
  | leaf _=>1
  | inner _ _=>2
  | hid _=>3
def find(k:List UInt8):Nat->PW->PW
  | d,inner a b=>if cL k d=0 then find k (d+1) a else find k (d+1) b
  | _,w=>w
def tell(k:List UInt8):PW->List UInt8×Bool×Bool
  | leaf p=>if p.1=k then(p.2,true,false) else(dR,false,false)
  | hid _=>(dR,false,true)
  | _=>(dR,false,false)
def two:Nat->Nat->PairT->PairT->PW
  | 0,_,_,_=>empty
  | n+1,d,q,p=>if cL q.1 d=cL p.1 d then(if cL q.1 d=0 then inner (two n (d+1) q p) empty else inner empty (two n (d+1) q p)) else if cL q.1 d=0 then inner (leaf q) (leaf p) else inner (leaf p) (leaf q)
def put(p:PairT):Nat->PW->PW
  | _,empty=>leaf p
  | d,leaf q=>if q.1=p.1 then leaf p else two (256-d) d q p
  | d,inner a b=>if cL p.1 d=0 then inner (put p (d+1) a) b else inner a (put p (d+1) b)
  | _,hid h=>hid h
def bad(a b:PW):Bool:=(a.kind==0&&b.kind==0)||(a.kind==0&&b.kind==1)||(a.kind==1&&b.kind==0)
end PW
def Leads(way:List Nat)(k:List UInt8):Prop:=∀i,i<way.length->cL k i=way[i]!
instance(way:List Nat)(k:List UInt8):Decidable (Leads way k):=Nat.decidableBallLT way.length λi _=>cL k i=way[i]!
def Leads.nil(k:List UInt8):Leads [] k:=λ_ h=>absurd h (Nat.not_lt_zero _)
theorem Leads.more{way:List Nat}{k:List UInt8}{b:Nat}:Leads (way++[b]) k↔Leads way k/\cL k way.length=b:=by
 constructor
 .intro h
  refine⟨λi hi=>?_,?_⟩
  .have:=h i (by rw [aA];exact bZ hi (q7 _ _));rw [this,getElem!_pos (way++[b]) _ (by rw [aA];exact bZ hi (q7 _ _)),s8 hi,getElem!_pos way i hi]
  .have:=h way.length (by rw [aA];exact kJ _);rw [this,getElem!_pos (way++[b]) _ (by rw [aA];exact kJ _),sJ (aF _)];simp
 .rintro⟨h1,h2⟩ i hi
  rw [aA,bJ] at hi;by_cases e:i=way.length
  .subst e;rw [h2,getElem!_pos (way++[b]) _ (by rw [aA];exact kJ _),sJ (aF _)];simp
  .have hi:i<way.length:=by omega
   rw [h1 i hi,getElem!_pos way i hi,getElem!_pos (way++[b]) _ (by rw [aA];exact bZ hi (q7 _ _)),s8 hi]
def Leads.share{way:List Nat}{k m:List UInt8}(h1:Leads way k)(h2:Leads way m):nQ way.length k m:=λn hn=>(h1 n hn).trans (h2 n hn).symm
namespace PW
def Right:List Nat->PW->Prop
  | _,empty=>True
  | way,leaf p=>p.1.length=32/\p.2.length=32/\Leads way p.1
  | way,inner a b=>way.length<256/\Right (way++[0]) a/\Right (way++[1]) b/\bad a b=false
  | _,hid h=>h.length=32
def read:Nat->List Nat->List UInt8->Except Nat (PW×List UInt8)
  | _,_,[]=>.error 10
  | n,way,x::b =>
    if x=0 then .ok (empty,b)
    else if x=1 then(if b.length<64 then .error 10 else if Leads way (b.take 32) then .ok (leaf (b.take 32,(b.drop 32).take 32),b.drop 64) else .error 13)
    else if x=2 then(match n with
      | 0=>.error 13
      | n+1=>match read n (way++[0]) b with
        | .error e=>.error e
        | .ok (l,b1)=>match read n (way++[1]) b1 with
          | .error e=>.error e
          | .ok (r,b2)=>if bad l r then .error 13 else .ok (inner l r,b2))
    else if x=3 then(if b.length<32 then .error 10 else .ok (hid (b.take 32),b.drop 32))
    else .error 13
def parse(b:List UInt8):Except Nat PW:=match read 256 [] b with
  | .error e=>.error e
  | .ok (w,[])=>.ok w
  | .ok _=>.error 11
theorem read_ok:∀{n:Nat} {way:List Nat} {b:List UInt8} {w:PW} {rest:List UInt8},n+way.length=256->read n way b = .ok (w,rest)->Right way w/\b=w.bytes++rest
 | _,_,[],_,_,_,h=>by unfold read at h;cases h
 | n,way,x::b,w,rest,hn,h=>by
  unfold read at h;by_cases h0:x=0
  .rw [if_pos h0] at h;injection h with h;injection h with h1 h2;subst h1 h2 h0;exact⟨trivial,rfl⟩
  rw [if_neg h0] at h;by_cases h1:x=1
  .rw [if_pos h1] at h
   by_cases hl:b.length<64
   .rw [if_pos hl] at h;cases h
   rw [if_neg hl] at h;by_cases hw:Leads way (b.take 32)
   .rw [if_pos hw] at h;injection h with h;injection h with e1 e2;subst e1 e2 h1;refine⟨⟨by rw [aV];omega,by rw [aV,cT];omega,hw⟩,?_⟩;show _=1::(b.take 32++(b.drop 32).take 32)++b.drop 64;rw [qB,aR,show b.drop 64=(b.drop 32).drop 32 by rw [List.drop_drop],bX,bX]
   .rw [if_neg hw] at h;cases h
  rw [if_neg h1] at h;by_cases h2:x=2
  .rw [if_pos h2] at h
   cases n with
   | zero=>cases h
   | succ n =>
    dsimp only at h
    cases hr:read n (way++[0]) b with
    | error e=>rw [hr] at h;cases h
    | ok u =>
     obtain⟨l,b1⟩:=u;rw [hr] at h
     dsimp only at h
     cases hr2:read n (way++[1]) b1 with
     | error e=>rw [hr2] at h;cases h
     | ok u =>
      obtain⟨r,b2⟩:=u;rw [hr2] at h
      dsimp only at h
      obtain⟨k1,k2⟩:=read_ok (by rw [aA,bJ];omega) hr;obtain⟨k3,k4⟩:=read_ok (by rw [aA,bJ];omega) hr2
      by_cases hb:bad l r=true
      .rw [if_pos hb] at h;cases h
      .rw [if_neg hb] at h;injection h with h;injection h with e1 e2;subst e1 e2 h2;refine⟨⟨by omega,k1,k3,by simpa using hb⟩,?_⟩;rw [k2,k4];show _=2::(l.bytes++r.bytes)++b2;simp
  rw [if_neg h2] at h;by_cases h3:x=3
  .rw [if_pos h3] at h
   by_cases hl:b.length<32
   .rw [if_pos hl] at h;cases h
   rw [if_neg hl] at h;injection h with h;injection h with e1 e2;subst e1 e2 h3;refine⟨by show(b.take 32).length=32;rw [aV];omega,?_⟩;show _=3::b.take 32++b.drop 32;rw [qB,bX]
  .rw [if_neg h3] at h;cases h
theorem read_right:∀{n:Nat} {way:List Nat} {w:PW} {rest:List UInt8},n+way.length=256->Right way w->read n way (w.bytes++rest) = .ok (w,rest)
 | n,way,empty,rest,_,_=>by show read n way (0::rest)=_;unfold read;rfl
 | n,way,leaf p,rest,_,⟨h1,h2,h3⟩=>by
  show read n way (1::(p.1++p.2++rest))=_;have e1:(p.1++p.2++rest).take 32=p.1:=by rw [aR,gZ (by omega),bK (by omega)]
  have e2:(p.1++p.2++rest).drop 32=p.2++rest:=by rw [aR,kP (by omega),c8 (by omega),cP]
  have e3:(p.1++p.2++rest).drop 64=rest:=by rw [show(64:Nat)=32+32 from rfl,<-List.drop_drop,e2,kP (by omega),c8 (by omega),cP]
  have e4:(p.2++rest).take 32=p.2:=by rw [gZ (by omega),bK (by omega)]
  unfold read;rw [if_neg (by decide),if_pos rfl,if_neg (by rw [aA,aA];omega),e1,e2,e3,e4,if_pos h3]
 | n,way,inner a b,rest,hn,⟨h1,h2,h3,h4⟩=>by show read n way (2::(a.bytes++b.bytes++rest))=_;obtain⟨m,rfl⟩:∃m,n=m+1:=⟨n-1,by omega⟩;unfold read;rw [if_neg (by decide),if_neg (by decide),if_pos rfl];dsimp only;rw [aR,read_right (by rw [aA,bJ];omega) h2];dsimp only;rw [read_right (by rw [aA,bJ];omega) h3];dsimp only;rw [if_neg (by rw [h4];decide)]
 | n,way,hid h,rest,_,h1=>by have h1:h.length=32:=h1;show read n way (3::(h++rest))=_;unfold read;rw [if_neg (by decide),if_neg (by decide),if_neg (by decide),if_pos rfl,if_neg (by rw [aA];omega),gZ (by omega),bK (by omega),kP (by omega),c8 (by omega),cP]
theorem parse_ok{b:List UInt8}{w:PW}(h:parse b = .ok w):Right [] w/\b=w.bytes:=by
 unfold parse at h;cases hr:read 256 [] b with
 | error e=>rw [hr] at h;cases h
 | ok u =>
  obtain⟨x,rest⟩:=u;rw [hr] at h
  cases rest with
  | nil =>
   injection h with h
   subst h;have:=read_ok rfl hr
   rwa [bB] at this
  | cons=>cases h
def parse_bytes{w:PW}(h:Right [] w):parse w.bytes = .ok w:=by have:=read_right (rest:=[]) rfl h;rw [bB] at this;unfold parse;rw [this]
theorem root_len{way:List Nat}:∀{w:PW},Right way w->w.root.length=32
 | empty,_=>rfl
 | leaf _,_=>digest256_len _
 | inner _ _,_=>digest256_len _
 | hid _,h=>h
abbrev keyL(d:Nat)(ks:List (List UInt8)):List (List UInt8):=ks.filter λk=>cL k d==0
abbrev keyR(d:Nat)(ks:List (List UInt8)):List (List UInt8):=ks.filter λk=>cL k d != 0
def Of:Nat->List PairT->List (List UInt8)->PW->Prop
  | _,l,_,empty=>l=[]
  | _,l,_,leaf p=>l=[p]
  | d,l,ks,inner a b=>d<256/\2<=l.length/\Of (d+1) (cJ d l) (keyL d ks) a/\Of (d+1) (bU d l) (keyR d ks) b
  | d,l,ks,hid h=>ks=[]/\l≠[]/\h=fX (256-d) l
theorem halves(d:Nat)(l:List PairT):(cJ d l).length+(bU d l).length=l.length:=by
 unfold cJ bU;induction l with
 | nil=>rfl
 | cons x l ih =>
  by_cases h:cL x.1 d=0
  .simp [h] at ih ⊢;omega
  .simp [h] at ih ⊢;omega
theorem Of.root:∀{d:Nat} {l:List PairT} {ks:List (List UInt8)} {w:PW},Of d l ks w->w.root=fX (256-d) l
 | _,l,_,empty,h=>by have h:l=[]:=h;subst h;exact(oS _).symm
 | _,l,_,leaf p,h=>by have h:l=[p]:=h;subst h;exact(mV _ p).symm
 | d,l,_,inner a b,⟨h1,h2,h3,h4⟩=>by
  have e:256-d=(255-d)+1:=by omega
  rw [e,nJ h2];show gX a.root b.root=_;rw [h3.root,h4.root,show 255-(255-d)=d by omega,show 256-(d+1)=255-d by omega]
 | _,_,_,hid _,h=>h.2.2
theorem Of.right:∀{way:List Nat} {l:List PairT} {ks:List (List UInt8)} {w:PW},Of way.length l ks w->(∀p∈l,p.1.length=32/\p.2.length=32/\Leads way p.1)->Right way w
 | _,_,_,empty,_,_=>trivial
 | _,l,_,leaf p,h,hl=>hl p (by have h:l=[p]:=h;rw [h];exact aL)
 | way,l,_,inner a b,⟨h1,h2,h3,h4⟩,hl=>by
  have e:∀x:Nat,(way++[x]).length=way.length+1:=λx=>by rw [aA,bJ]
  refine⟨h1,Of.right (by rw [e];exact h3) λp hp=>?_,Of.right (by rw [e];exact h4) λp hp=>?_,?_⟩
  .obtain⟨k1,k2⟩:=gR.1 hp;obtain⟨l1,l2,l3⟩:=hl p k1;exact⟨l1,l2,Leads.more.2 ⟨l3,k2⟩⟩
  .obtain⟨k1,k2⟩:=fY.1 hp;obtain⟨l1,l2,l3⟩:=hl p k1;have:=gA p.1 way.length;exact⟨l1,l2,Leads.more.2 ⟨l3,by omega⟩⟩
  .have hs:=halves way.length l
   have hE:∀{d:Nat} {m:List PairT} {k:List (List UInt8)} {w:PW},Of d m k w->(w.kind=0->m.length=0)/\(w.kind=1->m.length=1):=λ{d m k w} h=>by
    cases w with
    | empty=>have h:m=[]:=h;subst h;exact⟨λ_=>rfl,λh=>(by cases h)⟩
    | leaf p=>have h:m=[p]:=h;subst h;exact⟨λh=>(by cases h),λ_=>rfl⟩
    | inner=>exact⟨λh=>(by cases h),λh=>(by cases h)⟩
    | hid=>exact⟨λh=>(by cases h),λh=>(by cases h)⟩
   have ha:=hE h3;have hb:=hE h4;unfold bad;generalize a.kind=x at *;generalize b.kind=y at *;simp only [Bool.or_eq_false_iff,Bool.and_eq_false_iff,beq_eq_false_iff_ne];omega
 | way,l,_,hid h,⟨_,h2,h3⟩,hl=>by
  show h.length=32;rw [h3];cases l with
  | nil=>exact absurd rfl h2
  | cons p l =>
   cases l with
   | nil=>rw [mV];exact digest256_len _
   | cons q l =>
    generalize 256-way.length=r
    cases r with
    | zero=>rfl
    | succ r=>exact digest256_len _
theorem Of.tells:∀{d:Nat} {l:List PairT} {ks:List (List UInt8)} {w:PW} {k:List UInt8},Of d l ks w->k∈ks->SortT l->tell k (find k d w)=(match nM l k with
  | some v=>(v,true,false)
  | none=>(dR,false,false))
 | _,l,_,empty,k,h,_,_=>by have h:l=[]:=h;subst h;rfl
 | _,l,_,leaf p,k,h,_,_=>by
  have h:l=[p]:=h;subst h;show(if p.1=k then _ else _)=_;by_cases e:p.1=k
  .rw [if_pos e];subst e;simp [nM]
  .rw [if_neg e];simp [nM,e]
 | d,l,ks,inner a b,k,⟨h1,h2,h3,h4⟩,hk,hs=>by
  show tell k (if cL k d=0 then find k (d+1) a else find k (d+1) b)=_;by_cases e:cL k d=0
  .rw [if_pos e,h3.tells (jZ.2 ⟨hk,by simpa using e⟩) (hs.filter _)]
   have:nM (cJ d l) k=nM l k:=by
    cases hg:nM l k with
    | some v=>exact(mY (hs.filter _)).2 (gR.2 ⟨(mY hs).1 hg,e⟩)
    | none=>exact mZ.2 λq hq=>mZ.1 hg q (gR.1 hq).1
   rw [this]
  .rw [if_neg e,h4.tells (jZ.2 ⟨hk,by simpa using e⟩) (hs.filter _)]
   have:nM (bU d l) k=nM l k:=by
    cases hg:nM l k with
    | some v=>exact(mY (hs.filter _)).2 (fY.2 ⟨(mY hs).1 hg,e⟩)
    | none=>exact mZ.2 λq hq=>mZ.1 hg q (fY.1 hq).1
   rw [this]
 | _,_,ks,hid _,k,h,hk,_=>by rw [h.1] at hk;cases hk
def leftT_one'{d:Nat}{p:PairT}(h:cL p.1 d=0):cJ d [p]=[p]/\bU d [p]=[]:=by simp [cJ,bU,h]
def rightT_one'{d:Nat}{p:PairT}(h:cL p.1 d≠0):cJ d [p]=[]/\bU d [p]=[p]:=by simp [cJ,bU,h]
def putT_pair{q p:PairT}(h:q.1≠p.1):dM [q] p=[q,p]\/dM [q] p=[p,q]:=by
 unfold dM;split
 .exact .inl rfl
 .exact .inr rfl
theorem two_of:∀(n:Nat) {d:Nat} {q p:PairT} {ks:List (List UInt8)},n+d=256->q.1.length=32->p.1.length=32->q.1≠p.1->nQ d q.1 p.1->Of d (dM [q] p) ks (two n d q p)
 | 0,d,q,p,_,hn,hq,hp,hne,hs=>by
  obtain rfl:d=256:=by omega
  exact absurd (hs.all hq hp) hne
 | n+1,d,q,p,ks,hn,hq,hp,hne,hs=>by
  have h1:=gA q.1 d;have h2:=gA p.1 d;have hsort:SortT [q]:=List.pairwise_singleton _ _;have hkeys:iD [q]:=λx hx=>by rw [aE.1 hx];exact hq
  have hl2:2<=(dM [q] p).length:=by rcases putT_pair hne with e|e<;>rw [e]<;>exact aF _
  have hL:=kG (d:=d) hsort hkeys hp;have hR:=jK (d:=d) hsort hkeys hp;have hs2:cL q.1 d=cL p.1 d->nQ (d+1) q.1 p.1:=λe i hi=>by
   by_cases e2:i=d
   .rw [e2];exact e
   .exact hs i (by omega)
  unfold two;by_cases e:cL q.1 d=cL p.1 d
  .rw [if_pos e]
   by_cases e0:cL q.1 d=0
   .rw [if_pos e0];obtain⟨x1,x2⟩:=leftT_one' e0;rw [if_pos (by omega),x1] at hL;rw [if_pos (by omega),x2] at hR;exact⟨by omega,hl2,by rw [hL];exact two_of n (by omega) hq hp hne (hs2 e),hR⟩
   .rw [if_neg e0];obtain⟨x1,x2⟩:=rightT_one' e0;rw [if_neg (by omega),x1] at hL;rw [if_neg (by omega),x2] at hR;exact⟨by omega,hl2,hL,by rw [hR];exact two_of n (by omega) hq hp hne (hs2 e)⟩
  .rw [if_neg e]
   by_cases e0:cL q.1 d=0
   .rw [if_pos e0];obtain⟨x1,x2⟩:=leftT_one' e0;rw [if_neg (by omega),x1] at hL;rw [if_neg (by omega),x2] at hR;exact⟨by omega,hl2,hL,hR⟩
   .rw [if_neg e0];obtain⟨x1,x2⟩:=rightT_one' e0;rw [if_pos (by omega),x1] at hL;rw [if_pos (by omega),x2] at hR;exact⟨by omega,hl2,hL,hR⟩
theorem putT_more:∀(l:List PairT) (p:PairT),l.length<=(dM l p).length
 | [],_=>aN _
 | q::l,p=>by
  unfold dM;split
  .exact Nat.succ_le_succ (putT_more l p)
  .split
   .exact aF _
   .exact qL _
theorem Of.puts:∀{d:Nat} {l:List PairT} {ks:List (List UInt8)} {w:PW} {p:PairT},Of d l ks w->p.1∈ks->SortT l->iD l->p.1.length=32->d<=256->eN d (p::l)->Of d (dM l p) ks (put p d w)
 | _,l,_,empty,p,h,_,_,_,_,_,_=>by have h:l=[]:=h;subst h;rfl
 | d,l,ks,leaf q,p,h,_,_,hk,hp,hd,hsh=>by
  have h:l=[q]:=h;subst h;show Of d (dM [q] p) ks (if q.1=p.1 then leaf p else two (256-d) d q p);by_cases e:q.1=p.1
  .rw [if_pos e];show dM [q] p=[p];unfold dM;rw [if_neg (by rw [e,cZ];decide),if_pos e]
  .rw [if_neg e];exact two_of _ (by omega) (hk q aL) hp e (hsh q (aJ _ aL) p aL)
 | d,l,ks,inner a b,p,⟨h1,h2,h3,h4⟩,hkk,hs,hk,hp,hd,hsh=>by
  show Of d (dM l p) ks (if cL p.1 d=0 then inner (put p (d+1) a) b else inner a (put p (d+1) b));have hL:=kG (d:=d) hs hk hp;have hR:=jK (d:=d) hs hk hp;have hl2:=bP h2 (putT_more l p);by_cases e:cL p.1 d=0
  .rw [if_pos e] at hL hR ⊢
   have hsh2:eN (d+1) (p::cJ d l):=by
    have:=hsh.left
    rwa [show cJ d (p::l)=p::cJ d l by simp [cJ,e]] at this
   exact⟨h1,hl2,by rw [hL];exact h3.puts (jZ.2 ⟨hkk,by simpa using e⟩) (hs.filter _) (hk.filter _) hp (by omega) hsh2,by rw [hR];exact h4⟩
  .rw [if_neg e] at hL hR ⊢
   have hsh2:eN (d+1) (p::bU d l):=by
    have:=hsh.right
    rwa [show bU d (p::l)=p::bU d l by simp [bU,e]] at this
   exact⟨h1,hl2,by rw [hL];exact h3,by rw [hR];exact h4.puts (jZ.2 ⟨hkk,by simpa using e⟩) (hs.filter _) (hk.filter _) hp (by omega) hsh2⟩
 | _,_,ks,hid _,p,h,hkk,_,_,_,_,_=>by rw [h.1] at hkk;cases hkk
def cut:Nat->Nat->List PairT->List (List UInt8)->PW
  | _,_,[],_=>empty
  | _,d,p::l,[]=>hid (fX (256-d) (p::l))
  | _,_,[p],_::_=>leaf p
  | 0,_,_::_::_,_::_=>empty
  | n+1,d,p::q::l,k::ks=>inner (cut n (d+1) (cJ d (p::q::l)) (keyL d (k::ks))) (cut n (d+1) (bU d (p::q::l)) (keyR d (k::ks)))
theorem cut_of:∀(n:Nat) {d:Nat} {l:List PairT} (ks:List (List UInt8)),n+d=256->SortT l->iD l->eN d l->Of d l ks (cut n d l ks)
 | n,d,[],_,_,_,_,_=>by cases n<;>rfl
 | n,d,p::l,[],_,_,_,_=>by cases n<;>exact⟨rfl,by simp,rfl⟩
 | n,d,[p],k::ks,_,_,_,_=>by cases n<;>rfl
 | 0,d,p::q::l,k::ks,hn,hs,hk,hsh=>by
  obtain rfl:d=256:=by omega
  have:=hsh.one hs hk;simp at this
 | n+1,d,p::q::l,k::ks,hn,hs,hk,hsh=>⟨by omega,by simp,cut_of n _ (by omega) (hs.filter _) (hk.filter _) hsh.left,cut_of n _ (by omega) (hs.filter _) (hk.filter _) hsh.right⟩
end PW
end Go.Proofs.YtdinohbahfdphaaGreatDoor
