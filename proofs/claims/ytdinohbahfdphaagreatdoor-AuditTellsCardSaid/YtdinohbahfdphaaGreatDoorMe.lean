import Derived.Test.YtdinohbahfdphaaGreatDoorMd
import Derived.Test.YtdinohbahfdphaaGreatDoorMc
import Derived.Test.YtdinohbahfdphaaGreatDoorMb
import Derived.Lib.AppendZeros
import Derived.Maps.OwnSet
import Derived.Maps.Keyed
import Derived.Carry
import Derived.Maps.RangeRun
import Derived.RangeFuncNested
import Derived.RangeFuncBound
import Derived.RangeFuncCalls
import Derived.RangeFuncLeaves
import Derived.OrdersIn
import Derived.DeepKeys4
open Go renaming TypeId->yn
open Go renaming Operand->yo
open Go renaming World->yp
set_option linter.defProp false
open Go.Proofs.Tryz
set_option maxRecDepth 100000
set_option maxHeartbeats 4000000
open Array renaming getElem?_eq_some_iff->bD,getElem?_toList->c9,mem_of_getElem?->kB,toList_push->mH,getElem?_modify->pB
open Bool renaming and_eq_true->aN
open False renaming elim->qY
open Go.Addr renaming add_mid->cQ
open Go.Builtin renaming zeroCells->j1,len_->nM
open Go.ChangeMaps renaming setBlock->iG,heap_setBlock_same->pL
open Go.Exit renaming inBlock->k7
open Go.Fence renaming wide->nJ
open Go.Instr renaming lookup->iM,findKey->mN,checkKey->oB,mapUpdate->rH
open Go.IntKind renaming signed->oQ,bits->qI,wrap_u32->qW,wrap->uR
open Go.Lib renaming hid->dW
open Go.MapKept renaming run_getObj_map->gI,run_setObj_map->sS
open Go.Next renaming value->mB
open Go.Oper renaming wp->fT
open Go.Region renaming wanted->aQ
open Go.Result renaming andThen_ok->aC,andThen->gL,ok->mQ
open Go.Sem renaming run_bind->aG,run_pure->aI
open Go.Value renaming int->cG,bool->qR
open Go.World renaming size_alloc->dM,alloc_heap_new->uS
open Iff renaming rfl->iE
open List renaming length_append->aA,replicate->aB,mem_singleton->aD,mem_cons->aH,getElem?_eq_getElem->aJ,mem_cons_of_mem->aK,mem_cons_self->aM,getElem?_eq_some_iff->aP,mem_of_getElem?->aR,length_take->aV,size_toArray->aW,mem_map->aZ,append_nil->bC,mem_append->bK,length_replicate->bL,getElem?_append_right->bN,map_append->bX,all_eq_true->b7,getElem?_map->cE,nil_append->cR,length_drop->cU,getElem?_append_left->cW,take_length->dA,map_set->dR,not_mem_nil->gB,getElem_mem->iF,mem_append_left->jA,getElem?_of_mem->jB,length_filter_le->kG,mem_append_right->lI,length->lJ,pairwise_map->sO,nodup_append->sP
open List.Pairwise renaming nil->pJ
open Nat renaming le_of_ble_eq_true->aE,le_refl->aF,zero_le->aL,blt->aU,zero_add->aY,mod_eq_of_lt->a7,le_trans->bM,add_assoc->bZ,lt_of_lt_of_le->b9,lt_of_le_of_lt->dC,add_sub_cancel_left->fM,div_le_self->gM,le_of_eq->kA,add_le_add_right->k9,le_succ->qS
open Option.some renaming injEq->a8,inj->bQ
open Prod.mk renaming injEq->cK
open UInt8 renaming toNat_lt->cV
namespace Go.Proofs.Q
open Go.RowKit Go.IntWalk Nums
section
variable{b:Base}{ops:zp}{Q:zx}{N:Nat}{G:zk}{S:zm}{E E':SE}{L L':ze}{R:zd}{F M:zv}{w0:yp}{Z:Act->Prop}{l l' rest:zo}{k:Nat}{f:FuncId}{svs:yu}{r:RV}{o:Oper}{y:Code}
def l_P(hf:Own f)(hr:r.sv.Ok)(h:nextL ops N l E L=some (l',E',L',k,f,svs))(hs:∀G S w,View G S L' R F M w->Calls prog f (svs.map (SV.den G)).toArray w λe w'=>e = .returned r.den/\Below w.heap.size w w')(hn:lS prog b ops Q N l' ⟨(k,r.sv)::E',L',R,F,M⟩):lS prog b ops Q N l ⟨E,L,R,F,M⟩:=by
 unfold nextL at h;split at h
 .rename_i o l2 E2 L2 h2
  split at h
  .rename_i k2 f2 v2 h3;simp only [a8,cK] at h;obtain⟨rfl,rfl,rfl,rfl,rfl,rfl⟩:=h;obtain⟨hg,hd,hk,xs,ats,ho,hx⟩:=callB_ok h3;refine l_auto2 h2 λa w ⟨G,S,h1,h4,h5⟩=>?_;have hr':=call_run (w:=w) hf ho hx h1;unfold wpList;rw [if_pos (by simp [aQ,hg])];refine .inl ?_;unfold fT;rw [hr'];simp only [Oper.upon,hd];refine(hs G S w h5.view).mono ?_;rintro e w' ⟨rfl,hb⟩;have h6:=h1.put hk r.den;rw [<-RV.sv_den _ G] at h6;have h7:=hn _ w' ⟨G,S,h6,h4.cons hr,h5.later hb⟩;rw [RV.sv_den] at h7;exact h7
  .cases h
 .cases h
def n_P(hst:StW b G S L R F M w0)(hf:Own f)(hr:r.sv.Ok)(h:nextN ops N L l E=some (l',E',k,f,svs))(hs:∀w,View G S L R F M w->Calls prog f (svs.map (SV.den G)).toArray w λe w'=>e = .returned r.den/\Below w.heap.size w w')(hn:nS prog ops N w0 Z G l' ((k,r.sv)::E')):nS prog ops N w0 Z G l E:=by
 unfold nextN at h;split at h
 .rename_i o l2 E2 h2
  split at h
  .rename_i k2 f2 v2 h3;simp only [a8,cK] at h;obtain⟨rfl,rfl,rfl,rfl,rfl⟩:=h;obtain⟨hg,hd,hk,xs,ats,ho,hx⟩:=callB_ok h3;refine n_auto2 hst h2 λhE=>f_call (v2.map (SV.den G)).toArray r.den hg hd hk hf (λw hw=>hs w (hst.later hw).view) ho (evSs_ok hx) ?_;have h:=hn (hE.cons hr);rw [denE,RV.sv_den] at h;exact h
  .cases h
 .cases h
end
instance:Pst Ta:=⟨λ_ _ h hb=>h.below hb⟩
instance pst_pt{P:zt}{ls:zy}:Pst (λw=>PT w P ls):=⟨λ_ _ h hb=>h.later hb⟩
def own_spread:Own 101:=λ_ _=>by go_simp
def own_based:Own 102:=λ_ _=>by go_simp
def own_number:Own 130:=λ_ _=>by go_simp
def own_public:Own 59:=λ_ _=>by go_simp
def cop_64{d:zu}(h:d.length=32):(cop z64 0 d).length=64:=by rw [cop_len (by rw [h];decide)];rfl
def halves(l:zu):catP [.agg 32 (By (l.take 32)).toArray,.agg 32 (By (l.drop 32)).toArray]=catP [.agg 64 (By l).toArray]:=by apply Array.ext';simp [catP,Pt.cells,By,List.map_take,List.map_drop]
def two_okP{x y:Pt}(h:OkP [x])(h2:OkP [y]):OkP [x,y]:=λq hq=>by
 rcases aH.1 hq with rfl|hq
 .exact h _ aM
 .exact h2 q hq
def halves_ok{l:zu}(h:l.length=64):OkP [.agg 32 (By (l.take 32)).toArray,.agg 32 (By (l.drop 32)).toArray]:=two_okP (eY_ok (by rw [aV,h];rfl)).1 (eY_ok (by rw [cU,h])).1
def sub2{x y:LV}{L:ze}:∀z∈[x,y],z∈x::y::L:=λz hz=>by
 rcases aH.1 hz with rfl|hz
 .exact .head _
 .rw [aD.1 hz];exact .tail _ (.head _)
def inv2{b:Base}{N:Nat}{E:SE}{x y:LV}{L:ze}{R:zd}{F M:zv}(hx:x.g.isSome=true)(hy:y.g.isSome=true):∀a w,St b N ⟨E,x::y::L,R,F,M⟩ a w->InvL [x,y] w:=inv_of λz hz=>⟨sub2 z hz,by
 rcases aH.1 hz with rfl|hz
 .exact hx
 .rw [aD.1 hz];exact hy⟩
def spread_C{seed:zu}(hs:seed.length=32):Ct Tsh 101 [eY 32 seed] (one (.t [eS (le (lA seed)%LL),eY 32 (pW seed)])):=⟨own_spread,by
 have hD:=pP seed;have hd:((sgD seed).take 32).length=32:=by rw [aV,hD];rfl
 refine zQ [eY 32 seed] 26 func101 rfl (by rw [ntmps101];rfl) (one_ok (eY_ok hs).1) λB=>?_;refine zA rfl (s_reg λK hK=>l_auto2 rfl ?_);refine l_dig zY [.s 1 0 32 32] [seed] (sgD seed) rfl rfl rfl rfl rfl rfl rfl rfl rfl own_sum512 (λ_=>rfl) rfl (by decide) (by decide) hD (λA w hp hF _=>by
  have h:=sum512_f A [seed] 1 w hF hp (aE rfl) (aE rfl)
  rwa [List.flatten_cons,List.flatten_nil,bC] at h) (λG S w hv=>⟨sb_var rfl hs (by decide) G S w hv,trivial⟩) λA=>l_N hK rfl ?_
 refine zA rfl ?_;refine s_N 2 [] (by kernel_rfl) λK hK G S w0 hst=>n_L hst rfl ?_;obtain⟨D,eD⟩:∃D,D=(sgD seed).take 32:=⟨_,rfl⟩;rw [<-eD] at hd;refine l_copyW (z:=z64) (ps:=[.agg 64 (By (sgD seed)).toArray]) D rfl rfl rfl rfl rfl rfl rfl rfl ?_ rfl hd (kA hd) (by rw [hd];exact aE rfl) (l_E rfl (hK _ ?_))
 .rw [hd,eD];exact src_one 0 32
 have x0:=(D[0]!).toNat_lt;refine s_reg λK hK=>?_;refine l_cell rfl arr64 (aE rfl) _ (By_get (l:=cop z64 0 D) (j:=0) (by rw [cop_64 hd];exact aE rfl)) ?_;refine l_auto2 rfl ?_;refine l_put rfl arr64 (aE rfl) [.agg 64 (By (cop z64 0 (mW D))).toArray] (eY_ok (cop_64 (by rw [oI,hd]))).1 ?_ ?_ (l_N hK rfl ?_)
 .show _<(By (cop z64 0 D)).toArray.size;rw [aW,By_len,cop_64 hd];exact aE rfl
 .show By (cop z64 0 (mW D))=(By (cop z64 0 D)).set 0 (.int .u8 (bits .and .u8 ((cop z64 0 D)[0]!.toNat:Int) 248));rw [cop_get hd (by decide),and248 _ x0,mW,<-cop_set hd (by decide),By,By,dR,ofNat_toNat (by omega)]
 have hl:(mW D).length=32:=by rw [oI,hd]
 have x1:=((mW D)[31]!).toNat_lt;refine s_reg λK hK=>?_;refine l_cell rfl arr64 (aE rfl) _ (By_get (l:=cop z64 0 (mW D)) (j:=31) (by rw [cop_64 hl];exact aE rfl)) ?_;refine l_auto2 rfl ?_;refine l_put rfl arr64 (aE rfl) [.agg 64 (By (cop z64 0 (qM (mW D)))).toArray] (eY_ok (cop_64 (by rw [sB,hl]))).1 ?_ ?_ (l_N hK rfl ?_)
 .show _<(By (cop z64 0 (mW D))).toArray.size;rw [aW,By_len,cop_64 hl];exact aE rfl
 .show By (cop z64 0 (qM (mW D)))=(By (cop z64 0 (mW D))).set 31 (.int .u8 (bits .or .u8 (bits .and .u8 ((cop z64 0 (mW D))[31]!.toNat:Int) 127) 64));rw [cop_get hl (by decide),low7 _ x1,or64 _ x1,qM,<-cop_set hl (by decide),By,By,dR,ofNat_toNat (by omega)]
 have eL5:(some ⟨5,none,67,[.agg 64 (By (cop z64 0 (qM (mW D)))).toArray]⟩:Option LV)=some ⟨5,none,67,[.agg 64 (By (cop z64 0 (lA seed))).toArray]⟩:=by rw [eD];rfl
 refine c_weak (e':=⟨[(5,.a 5 0),(4,.a 4 0),(3,.a 3 0),(2,.a 2 0)],[⟨5,none,67,[.agg 64 (By (cop z64 0 (lA seed))).toArray]⟩,⟨4,none,67,[.agg 64 (By (sgD seed)).toArray]⟩,⟨3,none,47,[.agg 32 (By (aB 32 0)).toArray]⟩,⟨2,none,188,[.agg 4 (Us [0,0,0,0]).toArray]⟩],[],Tsh,λ_=>True⟩) ⟨zE rfl, ⟨eL5,rfl,rfl,rfl,rfl,rfl,rfl,rfl,trivial⟩,.refl _,λ_ h _=>h,λ_ h=>h⟩ ?_;refine s_ps 4 [.agg 32 (By ((sgD seed).take 32)).toArray,.agg 32 (By (pW seed)).toArray] rfl (halves (sgD seed)) (halves_ok hD) ?_;refine s_locs λG=>?_;refine zM λK hK=>?_;refine s_anyP [0,2,3,4] 6 1 (InvL [⟨5,some (G 5),67,[.agg 64 (By (cop z64 0 (lA seed))).toArray]⟩,⟨4,some (G 4),67,[.agg 32 (By ((sgD seed).take 32)).toArray,.agg 32 (By (pW seed)).toArray]⟩]) (by kernel_rfl) rfl (inv2 rfl rfl) ?_;refine z9 0 (by kernel_rfl) rfl sub2 ?_;refine p_frontO (.s 4 32 32 32) trivial 2 (by kernel_rfl) rfl rfl rfl rfl rfl (moreS_ok rfl).2 ?_;refine p_frontO (.a 4 32) trivial 3 (by kernel_rfl) rfl rfl rfl rfl rfl (moreS_ok rfl).2 ?_;refine z9 4 (by kernel_rfl) rfl sub2 ?_;refine p_step 1 (by kernel_rfl) rfl λK2 hK2=>l_X (wide_C (cop_64 (sC seed))) (λ_=>rfl) rfl λ_=>l_E rfl (hK2 _ (inv2 rfl rfl) ?_);refine p_step 5 (by kernel_rfl) rfl λK2 hK2=>l_E rfl (hK2 _ (inv2 rfl rfl) ?_);refine p_tail [6] (by kernel_rfl) rfl (l_E rfl (hK _ (zP ?_)));have e:le (cop z64 0 (lA seed))=le (lA seed):=(cop_half (sC seed)).2;rw [e];exact zG () rfl (λ_ _ _=>trivial) λ_ _=>trivial⟩
def based_C{n:Nat}(hn:n<LL):Ct Tw 102 [eS n] (one (.q (eY 32 (fU (Ed.mul dd n base))))):=⟨own_based,by refine zQ [eS n] 8 func102 rfl (by rw [ntmps102];rfl) (one_ok (eS_ok n)) λB=>?_;refine zA rfl ?_;refine s_N 5 [] (by kernel_rfl) λK hK G S w0 hst=>?_;refine n_X hst base_C rfl λ⟨P,h,hP⟩=>n_X hst schash_C rfl λ_=>n_X hst (pmul_C (.inr h) hP (cZ 32 n)) rfl λ⟨P,h,hP⟩=>?_;rw [nE hn] at h;refine n_X hst (phash_C h hP) rfl λ_=>n_N hst rfl hK rfl (zP ?_);exact zG () rfl (λ_ _ _=>trivial) λ_ _=>trivial⟩
def public_C{seed:zu}(hs:seed.length=32):Ct Ta 59 [eY 32 seed] (one (.q (eY 32 (iC seed)))):=⟨own_public,by refine zQ [eY 32 seed] 12 func59 rfl (by rw [ntmps59];rfl) (one_ok (eY_ok hs).1) λB=>?_;refine zA rfl (s_reg λK hK=>l_X ((spread_C hs).imp λ_ h=>h.sh) (λ_=>rfl) rfl λ_=>l_N hK rfl (s_reg λK hK=>l_X ((based_C (jO (le (lA seed)))).imp λ_ h=>h.tw) (λ_=>rfl) rfl λ_=>l_N hK rfl (zP ?_)));rw [mul_a];exact zG () rfl (λ_ _ _=>trivial) λ_ _=>trivial⟩
def own_sign:Own 99:=λ_ _=>by go_simp
def own_verify:Own 103:=λ_ _=>by go_simp
def sb_varA{L:ze}{R:zd}{F M:zv}{j n off m c:Nat}{l z:zu}{G:zk}{S:zm}{w:yp}(hv:View G S L R F M w)(hj:lookL L j=some [.agg n (By z).toArray])(hz:(z.drop off).take m=l)(hl:l.length=m)(hc:m<=c)(hm:c<=9223372036854775807):SB w ((SV.s j off m c).den G) l:=by obtain⟨u,hu,rfl,hps⟩:=lookL_mem hj;have hb:=(hv.var u hu).1;rw [hps] at hb;exact SB.arr hb hz hl hc hm
def sb_none{w:yp}:SB w (.slice none 0 0) []:=⟨none,0,rfl,aF _,aL _,λ_=>rfl,λh=>absurd h (Nat.lt_irrefl 0)⟩
def number_R{v1 v2:Value}{l1 l2:zu}{P:zt}{ls:zy}{pc n:Nat}{w:yp}(hn:le (dJ eK (l1++(l2++ls.flatten)))%LL=n)(hT:Ta w)(hP:PT w P ls)(h0:P=none->pc=0)(hls:ls.length<=1000000)(h1:SB w v1 l1)(h2:SB w v2 l2) :
  Calls prog 130 #[v1,v2,.slice P ls.length pc] w λe w'=>e = .returned (RV.q (eS n)).den/\Below w.heap.size w w':=by
 have h:=number_f w hT.sh h1 h2 hP h0 hls;rw [hn] at h;exact h
def basedA_C(seed:zu):Ct Tw 102 [eS (le (lA seed)%LL)] (one (.q (eY 32 (iC seed)))):=by have h:=based_C (jO (le (lA seed)));rw [mul_a] at h;exact h
def hashS_C{F:zv}(seed m:zu):Ct F 133 [eS ((sgR seed m+sgK (oX seed m) (iC seed) m*(le (lA seed)%LL)%LL)%LL)] (one (.q (eY 32 (Nums.bytes 32 (sgS seed m))))):=by rw [sgS_eq];exact schash_C
def sign_C{seed:zu}{P:zt}{ls:zy}{pc:Nat}(hs:seed.length=32)(h0:P=none->pc=0)(hls:ls.length<=1000000):Ct (λw=>Ta w/\PT w P ls) 99 [eY 32 seed,.c (.v (.slice P ls.length pc))] (one (.q (eY 64 (kU seed ls.flatten)))):=⟨own_sign,by have hp:=uF seed;have hR:=kV seed ls.flatten;have hk:=oY seed;refine zQ [eY 32 seed,.c (.v (.slice P ls.length pc))] 42 func99 rfl (by rw [ntmps99];rfl) (two_ok (eY_ok hs).1 trivial) λB=>?_;refine zA rfl (s_reg λK hK=>l_X ((spread_C hs).imp λ_ h=>h.1.sh) (λ_=>rfl) rfl λ_=>l_N hK rfl (s_reg λK hK=>l_P (r:=.q (eS (sgR seed ls.flatten))) own_number (eS_ok _) rfl (λG S w hv=>number_R sgR_eq hv.fact.1 hv.fact.2 h0 hls (sb_varA hv rfl (all32 hp) hp (aF _) (aE rfl)) sb_none) (l_N hK rfl ?_)));refine s_N 4 [(8,47),(9,47)] (by kernel_rfl) λK hK G S w0 hst=>n_X hst ((based_C (sgR_lt _ _)).imp λ_ h=>h.1.tw) rfl λ_=>n_X hst ((basedA_C seed).imp λ_ h=>h.1.tw) rfl λ_=>n_N hst rfl hK rfl ?_;refine s_N 4 [(10,188)] (by kernel_rfl) λK hK G S w0 hst=>n_P hst (r:=.q (eS (sgK (oX seed ls.flatten) (iC seed) ls.flatten))) own_number (eS_ok _) rfl (λw hv=>number_R sgK_eq hv.fact.1 hv.fact.2 h0 hls (sb_varA hv rfl (all32 hR) hR (aF _) (aE rfl)) (sb_varA hv rfl (all32 hk) hk (aF _) (aE rfl))) (n_N hst rfl hK rfl ?_);refine s_N 6 [(11,47)] (by kernel_rfl) λK hK G S w0 hst=>n_X hst (scmul_C (sgK_lt _ _ _) (jO (le (lA seed)))) rfl λ_=>n_X hst (scadd_C (sgR_lt _ _) (jO _)) rfl λ_=>n_X hst (hashS_C seed ls.flatten) rfl λ_=>n_N hst rfl hK rfl ?_;refine zA rfl ?_;refine s_N 2 [] (by kernel_rfl) λK hK G S w0 hst=>n_L hst rfl ?_;refine l_copyW (z:=z64) (ps:=[.agg 32 (By (oX seed ls.flatten)).toArray]) (oX seed ls.flatten) rfl rfl rfl rfl rfl rfl rfl rfl ((src_one 0 _).trans (congrArg By (all32 rfl))) rfl hR (kA hR) (by rw [hR];exact aE rfl) (l_E rfl (hK _ ?_));refine s_N 2 [] (by kernel_rfl) λK hK G S w0 hst=>n_L hst rfl ?_;refine l_copyW (z:=cop z64 0 (oX seed ls.flatten)) (ps:=[.agg 32 (By (Nums.bytes 32 (sgS seed ls.flatten))).toArray]) (Nums.bytes 32 (sgS seed ls.flatten)) rfl rfl rfl rfl rfl rfl rfl rfl ((src_one 0 _).trans (congrArg By (all32 rfl))) (cop_64 hR) (cZ _ _) (kA (cZ _ _)) (by rw [cZ];exact aE rfl) (l_E rfl (hK _ ?_));rw [sig_cop];refine zA rfl (zP ?_);exact zG () rfl (λ_ _ _=>trivial) λ_ _=>trivial⟩
section
variable{F:zv}{b:zu}[Pst F]
def scnewY(hb:b.length=32)(h:le b<LL):Ct F 141 [eY 32 b] (one (.t [eS (le b),.c (.v (.bool true))])):=by
 have h2:=scnew_C (F:=F) hb
 rwa [if_pos h,decide_eq_true h] at h2
def scnewN(hb:b.length=32)(h:¬le b<LL):Ct F 141 [eY 32 b] (one (.t [eS 0,.c (.v (.bool false))])):=by
 have h2:=scnew_C (F:=F) hb
 rwa [if_neg h,decide_eq_false h] at h2
end
def verify_C{key sig:zu}{P:zt}{ls:zy}{pc:Nat}(hk:key.length=32)(hs:sig.length=64)(h0:P=none->pc=0)(hls:ls.length<=1000000):Ct (λw=>Ta w/\PT w P ls) 103 [eY 32 key,eY 64 sig,.c (.v (.slice P ls.length pc))] (one (.q (.c (.b (rightB key sig ls.flatten))))):=⟨own_verify,by
 have hR:(sig.take 32).length=32:=by rw [aV,hs];rfl
 have hS:(sig.drop 32).length=32:=by rw [cU,hs]
 refine zQ [eY 32 key,eY 64 sig,.c (.v (.slice P ls.length pc))] 50 func103 rfl (by rw [ntmps103];rfl) (λu hu=>by
  rcases aH.1 hu with rfl|hu
  .exact(eY_ok hk).1
  .exact two_ok (v:=eY 64 sig) (v2:=.c (.v (.slice P ls.length pc))) (eY_ok hs).1 trivial u hu) λB=>?_
 have hno:rightB key sig ls.flatten=false->∀e,Weak e ⟨[(6,.v (.bool false))],[],[],λ_=>True,λ_=>True⟩->kS B (bodyPost prog Tryz.f103 (endS B (one (.q (.c (.b (rightB key sig ls.flatten)))))) .ret) 50 e:=λh e he=>k_weak he (k_retD zY () rfl (by decide) rfl (by rw [h];rfl) trivial rfl (λ_ _ _=>trivial) λ_ _=>trivial);refine zA rfl (s_ps 4 [.agg 32 (By (sig.take 32)).toArray,.agg 32 (By (sig.drop 32)).toArray] rfl (halves sig) (halves_ok hs) (s_reg λK hK=>l_X ((decode_C hk).imp λ_ h=>h.1.tw) (λ_=>rfl) rfl λ⟨P',e,ok⟩=>l_N hK rfl (zM λK0 hK0=>?_)));rcases ok with⟨A,hq,hP',rfl,rfl⟩|⟨hn,rfl,rfl⟩
 .refine s_reg λK hK=>l_auto2 rfl (l_is 20 false rfl rfl ?_)
  refine zB rfl (l_X ((small_C (.inr hq) hP').imp λ_ h=>h.1.tw) (λ_=>rfl) rfl λ_=>l_N hK rfl ?_);refine zW (fU (Ed.mul dd 8 A)=fU Ed.zero) rfl (λh8=>?_) (λh8=>zO (hK0 _ ?_))
  .refine zA rfl (zP (hno (rightB_small hq.on ((small_dec hq.on).1 h8)) _ ⟨⟨rfl,trivial⟩,trivial,.refl _,λ_ _ _=>trivial, zU⟩))
  by_cases h1:le (sig.drop 32)<LL
  .refine s_reg λK hK=>l_X (scnewY hS h1) (λ_=>rfl) rfl λ_=>l_N hK rfl ?_;refine zM λK0 hK0=>zA rfl (s_no rfl (zO (hK0 _ (s_reg λK hK=>l_N hK rfl ?_))));refine s_N 4 [(12,188)] (by kernel_rfl) λK hK G S w0 hst=>n_P hst (r:=.q (eS (sgK (sig.take 32) (fU A) ls.flatten))) own_number (eS_ok _) rfl (λw hv=>number_R sgK_eq hv.fact.1 hv.fact.2 h0 hls (sb_varA hv rfl (all32 hR) hR (aF _) (aE rfl)) (sb_varA hv rfl (all32 hk) hk (aF _) (aE rfl))) (n_N hst rfl hK rfl ?_);refine s_N 10 [] (by kernel_rfl) λK hK G S w0 hst=>?_;refine n_X hst schash_C rfl λ_=>n_X hst ((neg_C (.inr hq) hP').imp λ_ h=>h.1.tw) rfl λ⟨P2,hq2,hP2⟩=>n_X hst schash_C rfl λ_=>n_X hst ((both_C (cZ 32 _) (.inr hq2) hP2 (cZ 32 _)).imp λ_ h=>h.1.tw) rfl λ⟨P3,h3,hP3⟩=>n_X hst ((phash_C h3 hP3).imp λ_ h=>h.1.tw) rfl λ_=>n_auto2 hst rfl ?_;refine n_op hst (.b (decide (fU (Ed.add dd (Ed.mul dd (le (Nums.bytes 32 (le (sig.drop 32)))) base) (Ed.mul dd (le (Nums.bytes 32 (sgK (sig.take 32) (fU A) ls.flatten))) (Ed.neg A)))=sig.take 32))) trivial rfl rfl rfl (run_eqY rfl rfl rfl underlying47 (by kernel_rfl) (kZ _) hR) ?_;refine n_N hst rfl hK rfl (zP ?_);exact k_retD zY () rfl (by decide) rfl (congrArg qR (rightB_is hq.on (λh=>h8 ((small_dec hq.on).2 h)) h1)) trivial rfl (λ_ _ _=>trivial) λ_ _=>trivial
  .refine s_reg λK hK=>l_X (scnewN hS h1) (λ_=>rfl) rfl λ_=>l_N hK rfl ?_;refine zM λK0 hK0=>zA rfl (s_yes rfl ?_);exact zA rfl (zP (hno (rightB_great h1) _ ⟨⟨rfl,trivial⟩,trivial,.refl _,λ_ _ _=>trivial, zU⟩))
 .refine s_reg λK hK=>l_auto2 rfl (l_is 20 true rfl rfl (l_skips rfl (l_N hK rfl ?_)));refine s_yes rfl (zA rfl (zP (hno (rightB_no hn) _ ⟨⟨rfl,trivial⟩,trivial,.refl _,λ_ _ _=>trivial, zU⟩)))⟩
def public_S{seed:zu}(hs:seed.length=32):Spec 59 [.agg (By seed).toArray] [] Ta (one (.q (eY 32 (iC seed)))):=(public_C hs).spec
def signed_S{A:zt}{c:Nat}{b:zu}(t:UInt8)(hb:b.length<=140737488355312):Spec 100 [.int .u8 (t.toNat:Int),.slice A b.length c] [] (λw=>Rd 1 eB A c b w) (madeN (msg t b)):=Spec.made λw h=>signed_M t w h.sb hb
def flat_one(x:zu):[x].flatten=x:=by simp
section
variable{A:zt}{c:Nat}{b:zu}(t:UInt8)
def seal_S{seed:zu}(hs:seed.length=32)(hb:b.length<=140737488355312):Spec 57 [.agg (By seed).toArray,.int .u8 (t.toNat:Int),.slice A b.length c] [] (λw=>Ta w/\Rd 1 eB A c b w) (one (.q (eY 64 (kU seed (msg t b))))):=by refine zQ [eY 32 seed,.c (.v (.int .u8 (t.toNat:Int))),.c (.v (.slice A b.length c))] 13 func57 rfl (by rw [ntmps57];rfl) (more_ok (eY_ok hs).1 (two_ok trivial trivial)) λB=>?_;refine zA rfl ?_;refine s_regH 6 (by decide) (by kernel_rfl) (by kernel_rfl) λK hK G S w0 hst=>?_;refine zV hst rfl ?_;refine h_callE (F':=λw=>Rd 1 eB A c b w) hst [.int .u8 (t.toNat:Int),.slice A b.length c] rfl rfl rfl rfl (λ_ _=>by go_simp) rfl rfl (λ_=>rfl) (signed_S t hb).p1 (λw hw _=>hw.fact.2) λg _=>?_;refine h_parts [.slice (some ⟨g,0,none⟩) (msg t b).length (msg t b).length] [msg t b] hst rfl rfl rfl rfl rfl rfl rfl (by decide) (by decide) (λw _ hu=>⟨(madeP_rd (hu 3 _ rfl (by kernel_rfl))).sb,trivial⟩) λg2=>?_;have hsg:=(sign_C (P:=some ⟨g2,0,none⟩) (ls:=[msg t b]) (pc:=1) hs (λh=>by cases h) (aE rfl)).spec;rw [flat_one] at hsg;refine h_callE (F':=λw=>Ta w/\PT w (some ⟨g2,0,none⟩) [msg t b]) hst [.agg (By seed).toArray,.slice (some ⟨g2,0,none⟩) 1 1] rfl rfl rfl rfl own_sign rfl rfl (λ_=>rfl) hsg (λw hw hu=>⟨hw.fact.1,hu 4 _ rfl (by kernel_rfl)⟩) λ_ _=>?_;refine h_end hst (l_E rfl (hK _ (zP ?_)));exact zG () rfl (λ_ _ _=>trivial) λ_ _=>trivial
def owned_S{key sig:zu}(hk:key.length=32)(hs:sig.length=64)(hb:b.length<=140737488355312):Spec 60 [.agg (By key).toArray,.int .u8 (t.toNat:Int),.slice A b.length c,.agg (By sig).toArray] [] (λw=>Ta w/\Rd 1 eB A c b w) (one (.q (.c (.b (rightB key sig (msg t b)))))):=by refine zQ [eY 32 key,.c (.v (.int .u8 (t.toNat:Int))),.c (.v (.slice A b.length c)),eY 64 sig] 16 func60 rfl (by rw [ntmps60];rfl) (more_ok (eY_ok hk).1 (more_ok trivial (two_ok trivial (eY_ok hs).1))) λB=>?_;refine zA rfl ?_;refine s_regH 7 (by decide) (by kernel_rfl) (by kernel_rfl) λK hK G S w0 hst=>?_;refine zV hst rfl ?_;refine h_callE (F':=λw=>Rd 1 eB A c b w) hst [.int .u8 (t.toNat:Int),.slice A b.length c] rfl rfl rfl rfl (λ_ _=>by go_simp) rfl rfl (λ_=>rfl) (signed_S t hb).p1 (λw hw _=>hw.fact.2) λg _=>?_;refine h_parts [.slice (some ⟨g,0,none⟩) (msg t b).length (msg t b).length] [msg t b] hst rfl rfl rfl rfl rfl rfl rfl (by decide) (by decide) (λw _ hu=>⟨(madeP_rd (hu 4 _ rfl (by kernel_rfl))).sb,trivial⟩) λg2=>?_;have hsg:=(verify_C (P:=some ⟨g2,0,none⟩) (ls:=[msg t b]) (pc:=1) hk hs (λh=>by cases h) (aE rfl)).spec;rw [flat_one] at hsg;refine h_callE (F':=λw=>Ta w/\PT w (some ⟨g2,0,none⟩) [msg t b]) hst [.agg (By key).toArray,.agg (By sig).toArray,.slice (some ⟨g2,0,none⟩) 1 1] rfl rfl rfl rfl own_verify rfl rfl (λ_=>rfl) hsg (λw hw hu=>⟨hw.fact.1,hu 5 _ rfl (by kernel_rfl)⟩) λ_ _=>?_;refine h_end hst (l_E rfl (hK _ (zP ?_)));exact zG () rfl (λ_ _ _=>trivial) λ_ _=>trivial
end
def z64w:zj:=aB 64 0
def z64w_len:z64w.length=64:=by decide
def own_long256:Own 204:=λ_ _=>by go_simp
def arr64w:Arr 314 64:=⟨_,underlying314,by kernel_rfl⟩
def kw32:KW .u32 32:=.inr ⟨rfl,rfl⟩
def ben_or4{f:zk}(hf:∀j,f j<256):bits .or .u32 (bits .or .u32 (bits .or .u32 (IntKind.u32.wrap (IntKind.u32.wrap (f 0:Int)*2^min 24 IntKind.u32.bits)) (IntKind.u32.wrap (IntKind.u32.wrap (f 1:Int)*2^min 16 IntKind.u32.bits))) (IntKind.u32.wrap (IntKind.u32.wrap (f 2:Int)*2^min 8 IntKind.u32.bits))) (IntKind.u32.wrap (f 3:Int))=((ben f 4:Nat):Int):=by
 have h0:=hf 0;have h1:=hf 1;have h2:=hf 2;have h3:=hf 3;have key:∀x:Nat,x<256->IntKind.u32.wrap (x:Int)=(x:Int):=λx hx=>by rw [qW];omega
 rw [key _ h0,key _ h1,key _ h2,key _ h3];rw [show((f 0:Int)*2^min 24 IntKind.u32.bits)=((f 0*16777216:Nat):Int) from rfl,show((f 1:Int)*2^min 16 IntKind.u32.bits)=((f 1*65536:Nat):Int) from rfl,show((f 2:Int)*2^min 8 IntKind.u32.bits)=((f 2*256:Nat):Int) from rfl,kw32.wrap,kw32.wrap,kw32.wrap,
  a7 (by omega),a7 (by omega),a7 (by omega),orV 24 _ _ (by omega) (by omega) (by omega) (by omega),orV 16 _ _ (by omega) (by omega) (by omega) (by omega),orV 8 _ _ (by omega) h3 (by omega) (by omega)]
 exact congrArg _ (show _=(((0*256+f 0)*256+f 1)*256+f 2)*256+f 3 by omega)
def long256_C{F:zv}[Pst F]{b:zu}(hb:b.length=64):Ct F 204 [eY 64 b] (one (.q (eZ 64 (mxl (sx dK b) z64w 64)))):=⟨own_long256,by
 have hX:=xK dK b (by decide);have hlen:∀t,(mxl (sx dK b) z64w t).length=64:=λt=>by rw [iV,z64w_len]
 have h16:∀t,t<16->sx dK b t=ben (λk=>(b[4*t+k]!).toNat) 4:=λt ht=>by rw [sx,dif_pos ht];show ben (λk=>(b[t*4+k]!).toNat) 4=_;rw [Nat.mul_comm]
 have hrec:∀t,16<=t->(p9 32 (17,19,10) (sx dK b (t-2))+sx dK b (t-7)+p9 32 (7,18,3) (sx dK b (t-15))+sx dK b (t-16))%2^32=sx dK b t:=λt ht=>by
  conv=>rhs;rw [sx,dif_neg (by omega)]
  rfl
 generalize sx dK b=X at *;refine zQ [eY 64 b] 89 func204 rfl (by rw [ntmps204];rfl) (one_ok (eY_ok hb).1) λB=>?_;refine zA rfl (zA rfl ?_);let L:zj->ze:=λl=>[⟨3,none,314,[.agg 64 (Uw l).toArray]⟩,⟨2,none,314,[.agg 64 (Uw (aB 64 0)).toArray]⟩,⟨1,none,67,[.agg 64 (By b).toArray]⟩];let P:Nat×zj->Env:=λs=>⟨[(11,.v (.int .i64 (s.1:Int))),(1,.a 1 0),(2,.a 2 0),(3,.a 3 0)],L s.2,[],F,λ_=>True⟩;refine zM λK1 hK1=>zA rfl (zN ?_);refine c_weak (e':=P (0,aB 64 0)) ⟨zE rfl, zL rfl rfl, .refl _,λ_ h _=>h, zU⟩ (s_loop (λs=>16-s.1) P (λs=>s.1<=16/\s.2=mxl X z64w s.1) ?_ (0,aB 64 0) ⟨aL _,(oG X z64w).symm⟩)
 .rintro⟨t,l⟩ ⟨ht,hl⟩
  dsimp only at ht hl;subst hl;refine zA rfl (zM λK2 hK2=>?_);refine zW ((t:Int)<16) rfl (λhlt=>?_) (λhge=>?_)
  .have hlt:t<16:=by omega
   refine zO (hK2 _ (zM λK3 hK3=>zN (zA rfl ?_)));refine s_reg λK hK=>zB rfl (l_num 15 ((4*t:Nat):Int) rfl (mulI 4 t (by omega)) (l_num 18 ((4*t+4:Nat):Int) rfl (by show IntKind.i64.wrap (IntKind.i64.wrap (((4:Nat):Int)*(t:Int))+((4:Nat):Int))=_;rw [mulI 4 t (by omega)];exact addI _ _ (by omega)) ?_));refine l_cutV (4*t) (4*t+4) rfl rfl arr64 rfl rfl rfl (by omega) (by omega) (by omega) (l_N hK rfl ?_);have rd:∀j,j<4->(catP [.agg 64 (By b).toArray])[0+4*t+j]?=some (.int .u8 ((b[4*t+j]!).toNat:Int)):=λj hj=>by rw [aY];exact By_get (by omega)
   refine s_drawnN 24 (by kernel_rfl) λG S w0 hst=>?_;refine n_auto2 hst rfl (n_cellS hst 0 rfl rfl rfl rfl rfl (by omega) underlying39 size_u8 rfl (rd 0 (by decide)) underlying5 rfl ?_);refine n_auto2 hst rfl (n_cellS hst 1 rfl rfl rfl rfl rfl (by omega) underlying39 size_u8 rfl (rd 1 (by decide)) underlying5 rfl ?_);refine n_auto2 hst rfl (n_cellS hst 2 rfl rfl rfl rfl rfl (by omega) underlying39 size_u8 rfl (rd 2 (by decide)) underlying5 rfl ?_);refine n_auto2 hst rfl (n_cellS hst 3 rfl rfl rfl rfl rfl (by omega) underlying39 size_u8 rfl (rd 3 (by decide)) underlying5 rfl ?_);refine n_auto2 hst rfl (n_num 42 ((X t:Nat):Int) rfl ((ben_or4 (f:=λk=>(b[4*t+k]!).toNat) λj=>cV _).trans (by rw [h16 t hlt])) (n_ix hst rfl arr64w (by show t<64;omega) ?_));refine n_L hst rfl ?_;refine l_st1 rfl [.agg 64 (Uw (mxl X z64w (t+1))).toArray] (eZ_ok (hlen _)) ?_ ?_ (zJ (hK3 _ ?_))
   .show 0+t<(Uw (mxl X z64w t)).toArray.size;rw [aW,Uw_len,hlen];omega
   .show Uw (mxl X z64w (t+1))=(Uw (mxl X z64w t)).set (0+t) _;rw [aY,Uw,Uw,<-l8,dR]
   refine zD rfl ?_;exact zX (t+1,_) ⟨hlt,rfl⟩ (by show 16-(t+1)<16-t;omega) ⟨⟨congrArg (λx=>some (SV.v (.int .i64 x))) (addI t 1 (by omega)),rfl,rfl,rfl,trivial⟩,zL rfl rfl, .refl _,λ_ h _=>h,λ_ h=>h⟩
  .obtain rfl:t=16:=by omega
   refine s_exit (zS (zS (k_out (hK1 _ ?_))));let Q:Nat×zj->Env:=λs=>⟨[(6,.v (.int .i64 (s.1:Int))),(1,.a 1 0),(2,.a 2 0),(3,.a 3 0)],L s.2,[],F,λ_=>True⟩;refine zM λK1 hK1=>zA rfl (zN ?_);refine c_weak (e':=Q (16,mxl X z64w 16)) ⟨zE rfl, zL rfl rfl, .refl _,λ_ h _=>h,λ_ h=>h⟩ (s_loop (λs=>64-s.1) Q (λs=>16<=s.1/\s.1<=64/\s.2=mxl X z64w s.1) ?_ (16,mxl X z64w 16) ⟨aF _,aE rfl,rfl⟩);rintro⟨t,l⟩ ⟨ht0,ht,hl⟩;dsimp only at ht0 ht hl;subst hl;have rd:∀j,j<t->(catP [.agg 64 (Uw (mxl X z64w t)).toArray])[0+j]?=some (.int .u32 ((X j:Nat):Int)):=λj hj=>(Uw_in (by rw [hlen];omega)).trans (by rw [mxl_in hj (by rw [z64w_len];omega)]);refine zM λK3 hK3=>zA rfl ?_;refine zW ((t:Int)<64) rfl (λhlt=>?_) (λhge=>?_)
   .have hlt:t<64:=by omega
    refine zO (hK3 _ (zM λK4 hK4=>zN ?_));refine s_N 10 [] (by kernel_rfl) λK hK G S w0 hst=>?_;refine n_auto2 hst rfl (n_num 50 ((t-2:Nat):Int) rfl (subI t 2 (by omega) (by omega)) ?_);refine n_cell hst rfl arr64w (by show t-2<64;omega) (.int .u32 ((X (t-2):Nat):Int)) (rd (t-2) (by omega)) ?_;refine n_auto2 hst rfl (n_num 54 ((t-15:Nat):Int) rfl (subI t 15 (by omega) (by omega)) ?_);refine n_cell hst rfl arr64w (by show t-15<64;omega) (.int .u32 ((X (t-15):Nat):Int)) (rd (t-15) (by omega)) ?_;refine n_N hst rfl hK rfl ?_;refine s_reg λK hK=>l_X (rot32_C 17 (hX (t-2)) (by decide)) (λ_=>rfl) rfl λ_=>l_X (rot32_C 19 (hX (t-2)) (by decide)) (λ_=>rfl) rfl λ_=>l_auto2 rfl (l_num 9 _ rfl (kw32.low (17,19,10) (by decide) (hX (t-2))) (zJ (hK _ ?_)));refine s_reg λK hK=>l_X (rot32_C 7 (hX (t-15)) (by decide)) (λ_=>rfl) rfl λ_=>l_X (rot32_C 18 (hX (t-15)) (by decide)) (λ_=>rfl) rfl λ_=>l_auto2 rfl (l_num 10 _ rfl (kw32.low (7,18,3) (by decide) (hX (t-15))) (zJ (hK _ ?_)));refine s_drawnN 15 (by kernel_rfl) λG S w0 hst=>?_;refine n_auto2 hst rfl (n_num 76 ((t-7:Nat):Int) rfl (subI t 7 (by omega) (by omega)) ?_);refine n_cell hst rfl arr64w (by show t-7<64;omega) (.int .u32 ((X (t-7):Nat):Int)) (rd (t-7) (by omega)) ?_;refine n_auto2 hst rfl (n_num 83 ((t-16:Nat):Int) rfl (subI t 16 (by omega) (by omega)) ?_);refine n_cell hst rfl arr64w (by show t-16<64;omega) (.int .u32 ((X (t-16):Nat):Int)) (rd (t-16) (by omega)) ?_;refine n_auto2 hst rfl (n_num 86 _ rfl (kw32.sum4.trans (by rw [hrec t ht0])) (n_ix hst rfl arr64w hlt ?_));refine n_L hst rfl ?_;refine l_st1 rfl [.agg 64 (Uw (mxl X z64w (t+1))).toArray] (eZ_ok (hlen _)) ?_ ?_ (zJ (hK4 _ ?_))
    .show 0+t<(Uw (mxl X z64w t)).toArray.size;rw [aW,Uw_len,hlen];omega
    .show Uw (mxl X z64w (t+1))=(Uw (mxl X z64w t)).set (0+t) _;rw [aY,Uw,Uw,<-l8,dR]
    refine zD rfl ?_;exact zX (t+1,_) ⟨by show 16<=t+1;omega,hlt,rfl⟩ (by show 64-(t+1)<64-t;omega) ⟨⟨congrArg (λx=>some (SV.v (.int .i64 x))) (addI t 1 (by omega)),rfl,rfl,rfl,trivial⟩,zL rfl rfl, .refl _,λ_ h _=>h,λ_ h=>h⟩
   .obtain rfl:t=64:=by omega
    refine s_exit (zS (zS (k_out (hK1 _ (zA rfl (zP ?_))))));exact zG () rfl (λ_ _ _=>trivial) λ_ _=>trivial⟩
def own_turn256:Own 155:=λ_ _=>by go_simp
def arr8w:Arr 264 8:=⟨_,underlying264,by kernel_rfl⟩
def step32{t:Nat}(ht:t<80):IntKind.u32.wrap (Int.fdiv ((cbs[t]! : Nat):Int) (2^min 32 IntKind.u64.bits))=((cbs[t]! / 4294967296:Nat):Int):=by have h1:=cbs_lt ht;rw [kw64.shr 32 (by decide),kw32.wrap,a7 (Nat.div_lt_of_lt_mul h1)]
def turn256_C{o:Oct}(ho:OB 32 o){b:zu}(hb:b.length=64):Ct Ts 155 [eZ 8 o.list,eY 64 b] (one (.q (eZ 8 (gR dK o b).list))):=⟨own_turn256,by
 have hxn:(mxl (sx dK b) z64w 64).length=64:=by rw [iV,z64w_len]
 have hO:=λt=>OB.o6 (s:=dK) (b:=b) ho t;refine zQ [eZ 8 o.list,eY 64 b] 137 func155 rfl (by rw [ntmps155];rfl) (two_ok (eZ_ok rfl) (eY_ok hb).1) λB=>?_;refine zA rfl (s_reg λK hK=>l_X (long256_C hb) (λ_=>rfl) rfl λ_=>l_N hK rfl ?_);refine s_N 24 [] (by kernel_rfl) λK hK G S w0 hst=>?_;refine n_cell hst rfl arr8w (aE rfl) (.int .u32 (o.a:Int)) rfl (n_cell hst rfl arr8w (aE rfl) (.int .u32 (o.b:Int)) rfl (n_cell hst rfl arr8w (aE rfl) (.int .u32 (o.c:Int)) rfl (n_cell hst rfl arr8w (aE rfl) (.int .u32 (o.d:Int)) rfl (n_cell hst rfl arr8w (aE rfl) (.int .u32 (o.e:Int)) rfl (n_cell hst rfl arr8w (aE rfl) (.int .u32 (o.f:Int)) rfl (n_cell hst rfl arr8w (aE rfl) (.int .u32 (o.g:Int)) rfl (n_cell hst rfl arr8w (aE rfl) (.int .u32 (o.h:Int)) rfl (n_N hst rfl hK rfl (zM λK1 hK1=>zA rfl (zN ?_))))))))));let P:Nat×Oct->Env:=λs=>⟨[(37,.v (.int .i64 (s.1:Int))),(6,.v (.int .u32 (s.2.a:Int))),(7,.v (.int .u32 (s.2.b:Int))),(8,.v (.int .u32 (s.2.c:Int))),(9,.v (.int .u32 (s.2.d:Int))),(10,.v (.int .u32 (s.2.e:Int))),(11,.v (.int .u32 (s.2.f:Int))),(12,.v (.int .u32 (s.2.g:Int))),(13,.v (.int .u32 (s.2.h:Int))),(2,.a 2 0),(4,.a 4 0),(5,.a 5 0)],
  [⟨5,none,314,[.agg 64 (Uw (mxl (sx dK b) z64w 64)).toArray]⟩,⟨4,none,264,[.agg 8 (Uw (aB 8 0)).toArray]⟩,⟨2,none,264,[.agg 8 (Uw o.list).toArray]⟩],[],Ts,λ_=>True⟩
 refine c_weak (e':=P (0,o)) ⟨zE rfl, zL rfl rfl, .refl _,λ_ h _=>h, zU⟩ (s_loop (λs=>64-s.1) P (λs=>s.1<=64/\s.2=o6 dK b o s.1) ?_ (0,o) ⟨aL _,rfl⟩);rintro⟨t,q⟩ ⟨ht,hq⟩;dsimp only at ht hq;have hB:=hO t;rw [<-hq] at hB;refine zA rfl (zM λK2 hK2=>?_);refine zW ((t:Int)<64) rfl (λhlt=>?_) (λhge=>?_)
 .have hlt:t<64:=by omega
  refine zO (hK2 _ (zM λK3 hK3=>zN (zA rfl ?_)));refine s_reg λK hK=>l_X (rot32_C 6 hB.e (by decide)) (λ_=>rfl) rfl λ_=>l_X (rot32_C 11 hB.e (by decide)) (λ_=>rfl) rfl λ_=>l_X (rot32_C 25 hB.e (by decide)) (λ_=>rfl) rfl λ_=>l_auto2 rfl (l_num 15 _ rfl (kw32.big (6,11,25) (by decide) hB.e) (zJ (hK _ ?_)));refine s_reg λK hK=>l_X (rot32_C 2 hB.a (by decide)) (λ_=>rfl) rfl λ_=>l_X (rot32_C 13 hB.a (by decide)) (λ_=>rfl) rfl λ_=>l_X (rot32_C 22 hB.a (by decide)) (λ_=>rfl) rfl λ_=>l_auto2 rfl (l_num 16 _ rfl (kw32.big (2,13,22) (by decide) hB.a) (zJ (hK _ ?_)));refine s_N 23 [] (by kernel_rfl) λK hK G S w0 hst=>?_;refine n_auto2 hst rfl ?_;refine n_tab hst rfl rfl rfl rfl arr80 (by show t<80;omega) underlying96 rfl (λw h=>h.cell t (by omega)) ?_;refine n_auto2 hst rfl ?_;refine n_cell hst rfl arr64w hlt (.int .u32 ((sx dK b t:Nat):Int)) ((Uw_in (by rw [hxn];exact hlt)).trans (by rw [mxl_in hlt (by rw [z64w_len];exact hlt)])) ?_;refine n_auto2 hst rfl (n_num 17 (((q.h+xG 32 (6,11,25) q.e+chw 32 q.e q.f q.g+cbs[t]! / 4294967296+sx dK b t)%2^32:Nat):Int) rfl (by rw [step32 (t:=t) (by omega)];exact kw32.t1c hB.e hB.f hB.g) (n_N hst rfl hK rfl ?_));refine s_reg λK hK=>l_auto2 rfl (l_num 18 _ rfl (kw32.t2 hB.a hB.b hB.c) (zJ (hK _ (s_lit (l_auto2 rfl (l_num 10 _ rfl kw32.sum1 (l_num 6 _ rfl kw32.sum (zJ (hK3 _ (zD rfl ?_))))))))));exact zX (t+1,rnd dK (cbs[t]! / 4294967296) (sx dK b t) q) ⟨hlt,by rw [hq];rfl⟩ (by show 64-(t+1)<64-t;omega) ⟨⟨congrArg (λx=>some (SV.v (.int .i64 x))) (addI t 1 (by omega)),rfl,rfl,rfl,rfl,rfl,rfl,rfl,rfl,rfl,rfl,rfl,trivial⟩,zL rfl rfl, .refl _,λ_ h _=>h,λ_ h=>h⟩
 .obtain rfl:t=64:=by omega
  refine s_exit (zS (zS (k_out (hK1 _ (s_reg λK hK=>l_cell rfl arr8w (aE rfl) (.int .u32 (o.a:Int)) rfl (l_auto2 rfl (l_num 107 _ rfl (kw32.add (b:=q.a)) (l_cell rfl arr8w (aE rfl) (.int .u32 (o.b:Int)) rfl (l_auto2 rfl (l_num 111 _ rfl (kw32.add (b:=q.b)) (l_cell rfl arr8w (aE rfl) (.int .u32 (o.c:Int)) rfl (l_auto2 rfl (l_num 115 _ rfl (kw32.add (b:=q.c)) (l_cell rfl arr8w (aE rfl) (.int .u32 (o.d:Int)) rfl (l_auto2 rfl (l_num 119 _ rfl (kw32.add (b:=q.d)) (l_cell rfl arr8w (aE rfl) (.int .u32 (o.e:Int)) rfl (l_auto2 rfl (l_num 123 _ rfl (kw32.add (b:=q.e)) (l_cell rfl arr8w (aE rfl) (.int .u32 (o.f:Int)) rfl (l_auto2 rfl (l_num 127 _ rfl (kw32.add (b:=q.f)) (l_cell rfl arr8w (aE rfl) (.int .u32 (o.g:Int)) rfl (l_auto2 rfl (l_num 131 _ rfl (kw32.add (b:=q.g)) (l_cell rfl arr8w (aE rfl) (.int .u32 (o.h:Int)) rfl (l_auto2 rfl (l_num 135 _ rfl (kw32.add (b:=q.h)) ?_))))))))))))))))))))))))))));refine l_f (.p [.agg 8 (Uw (rP 32 o q).list).toArray]) (eZ_ok rfl) (λG S w C0 Q' _ _ hQ=>f_build ([(o.a+q.a)%2^32,(o.b+q.b)%2^32,(o.c+q.c)%2^32,(o.d+q.d)%2^32,(o.e+q.e)%2^32,(o.f+q.f)%2^32,(o.g+q.g)%2^32,(o.h+q.h)%2^32].zipIdx.map λx=>(x.2,.int .u32 ((x.1:Nat):Int))) (Uw (rP 32 o q).list).toArray rfl rfl rfl rfl rfl (by kernel_rfl) hQ) rfl ?_;refine l_N hK rfl (zP ?_);rw [hq];exact zG () rfl (λ_ _ _=>trivial) λ_ _=>trivial⟩
def size_v8(cs:zr)(h:cs.size=8):(prog.info? 264).map (·.size)=some cs.size:=by rw [h];kernel_rfl
def z8v:zr:=(Uw [0,0,0,0,0,0,0,0]).toArray
def z32b:zu:=aB 32 0
def zb32:(prog.info? 47).bind (λi=>i.zero.map (·.cells))=some (By z32b).toArray:=by kernel_rfl
structure LY2(w wr:yp)(cs:zr)(m:zu):Prop where
  b0:Blk wr w.heap.size 264 cs
  b1:Blk wr (w.heap.size+1) 47 (By z32b).toArray
  b2:Blk wr (w.heap.size+1+1) 47 (By m).toArray
  be:Below w.heap.size w wr
def LY2.set{w wr:yp}{cs:zr}{m:zu}(h:LY2 w wr cs m)(k:Nat)(x:UInt8):LY2 w (wr.setCell ⟨w.heap.size+1+1,k,none⟩ (.int .u8 (x.toNat:Int))) cs (m.set k x) where
 b0:=h.b0.far (by show w.heap.size≠w.heap.size+1+1;omega) _
 b1:=h.b1.far (by show w.heap.size+1≠w.heap.size+1+1;omega) _
 b2:=by have h4:=h.b2.set k (.int .u8 (x.toNat:Int));rw [By_set] at h4;exact h4
 be:=h.be.setCell (by show w.heap.size<=w.heap.size+1+1;omega) _
def lay256_f{l:zj}(hl:l.length=8)(hw:∀x∈l,x<4294967296)(w:yp) :
  Calls prog 156 #[.agg (Uw l).toArray] w λe w'=>e = .returned (.agg (By (l.map (jZ dK)).flatten).toArray)/\Below w.heap.size w w':=by
 have hD:=lV (jZ dK) (n:=4) (λx=>lT dK x) l;rw [hl] at hD
 have hg:∀i j,i<8->j<4->(((l.map (jZ dK)).flatten)[4*i+3-j]!).toNat=l[i]! / 256^j%256:=λi j hi hj=>by have h1:=flat_get (jZ dK) (n:=4) (λx=>lT dK x) l (i:=i) (j:=3-j) (by omega) (by omega);rw [show 4*i+3-j=4*i+(3-j) by omega,h1];exact layw_get (s:=dK) (j:=j) hj
 have hzs:(Uw l).toArray.size=8:=by rw [aW,Uw_len,hl]
 have hix:∀i,i<8->∀w1,(Instr.index 264 (.agg (Uw l).toArray) (.int .i64 ((i:Nat):Int))).run prog w1 = .ok (.int .u32 (l[i]! : Nat)) w1:=λi hi w1=>by
  have h0:(Uw l).toArray[i]?=some (.int .u32 (l[i]! : Nat)):=Uw_at (by omega);have h1:((i:Nat):Int)<8:=by omega
  have h2:(0:Int)<=(i:Nat):=by omega
  generalize l[i]! = c at *;generalize (Uw l).toArray=cs at *;unfold Instr.index Go.part;go_simp;obtain⟨_,h⟩:=bD.1 h0;exact h
 have hwl:∀i,i<8->l[i]! < 4294967296:=λi hi=>by rw [getElem!_pos l i (by omega)];exact hw _ (iF _)
 generalize (l.map (jZ dK)).flatten=D at *;generalize (Uw l).toArray=cs at *
 go_enter func156,ntmps156
 refine wp_seq_k λK hK=>wp_region_lit (wpl_box cs rfl rfl rfl (wpl_alloc (zs:=(By z32b).toArray) rfl rfl zb32 (wpl_nil ?_)))
 go_simp
 refine hK _ _ ?_;clear hK K;refine wp_seq_k λK hK=>wp_region_lit (wpl_alloc (zs:=(By z32b).toArray) rfl rfl zb32 (wpl_nil ?_))
 go_simp
 refine hK _ _ ?_;clear hK K;refine wp_at (λW=>LY2 w W cs z32b) ⟨blk3_0 w _ _ _ _,blk3_1 w _ _ _ _,blk3_2 w _ _ _ _,(((Below.refl _ _).alloc (aF _) _).alloc (by simp) _).alloc (by simp;omega) _⟩ ?_
 intro W hW
 have k0:=hW.b0;have HW:=dW hW;clear hW
 go_wp2_with (refine wpList_load_row rfl 264 _ rfl w.heap.size rfl 264 cs (0,0) _ k0 underlying264 rfl (size_v8 _ hzs) ?_)
 clear k0
 go_loopw [8] (λi wr=>∃t:Nat,t<=8/\i = .int .i64 t/\LY2 w wr cs (pf D λm=>decide (m<4*t))) (λi _=>8-(intOf i).toNat)
 case atStart =>
  refine⟨0,by omega,rfl,?_⟩;rw [tR (λm _=>decide_eq_false (by omega)),hD];exact HW.out
 case round =>
  clear HW;obtain⟨t,ht,rfl,hS⟩:=hrel
  by_cases htl:t<8
  .have hi:=hix t htl
   have hx:=hwl t htl;have hby:=λj hj=>hg t j htl hj;generalize l[t]! = x at *;have g4:(0:Int)<=(t:Int):=by omega
   have HS:=dW hS;clear hS hg hix hwl;go_wp2;go_loopw [12,5] (λj v wq=>∃n:Nat,n<=4/\j = .int .i64 n/\v = .int .u32 ((x/256^n:Nat):Int)/\LY2 w wq cs (pf D λm=>decide (m<4*t\/4*t+4-n<=m/\m<4*t+4))) (λj _ _=>4-(intOf j).toNat)
   case atStart =>
    refine⟨0,by omega,rfl,by rw [Nat.pow_zero,Nat.div_one],?_⟩;rw [oF (q:=λm=>decide (m<4*t)) (λm _=>decide_eq_decide.2 (by omega))];exact HS.out
   case round =>
    clear HS;obtain⟨n,hn,rfl,rfl,hS⟩:=hrel
    by_cases hnl:n<4
    .have hN:=hS.set (4*t+3-n) D[4*t+3-n]!
     rw [vT (q:=λm=>decide (m<4*t\/4*t+4-(n+1)<=m/\m<4*t+4)) (λm _=>by rw [<-Bool.decide_or];exact decide_eq_decide.2 (by omega))] at hN;have hb:=hby n hnl;have hdiv:x/256^(n+1)=x/256^n/256:=by rw [Nat.pow_succ,Nat.div_div_eq_div_mul]
     have hle:x/256^n<4294967296:=dC (gM _ _) hx;have c2:=(hS.b2.cell (4*t+3-n)).trans (By_get (by rw [vU,hD];omega));have f2:=hS.b2.free (4*t+3-n);generalize x/256^n=y at *;have q4:IntKind.u8.wrap (y:Int)=((D[4*t+3-n]!).toNat:Int):=by rw [IntKind.wrap_u8',hb];omega
     have g5:(0:Int)<=(n:Int):=by omega
     have q5:(y:Int)/256=((y/256:Nat):Int):=by omega
     have HN:=dW (And.intro hN hdiv);clear hS hN hdiv hb hby hi;generalize (D[4*t+3-n]!).toNat=v at *;generalize ((pf D λm=>decide (m<4*t\/4*t+4-n<=m/\m<4*t+4))[4*t+3-n]!).toNat=old at *;generalize y/256=y2 at *;go_wp2;go_roundw
     case rel =>
      obtain⟨hN,hdiv⟩:=HN.out;refine⟨n+1,by omega,by go_num,by rw [hdiv],hN⟩
     case measure=>simp [intOf];omega
    .obtain rfl:n=4:=by omega
     rw [oF (q:=λm=>decide (m<4*(t+1))) (λm _=>decide_eq_decide.2 (by omega))] at hS;have HS:=dW hS;clear hS;go_wp2;go_roundw
     case rel=>exact⟨t+1,by omega,by go_num,HS.out⟩
     case measure=>simp [intOf];omega
  .obtain rfl:t=8:=by omega
   rw [vV (λm hm=>decide_eq_true (by omega))] at hS;obtain⟨b0,b1,b2,be⟩:=hS;have hz:(By D).toArray.size=32:=by rw [aW,By_len,hD]
   clear b0;go_wp2_with (first
    | (refine wpList_load_row rfl 47 _ rfl (w.heap.size+1+1) rfl 47 (By D).toArray (0,0) _ b2 underlying47 rfl (size_hash _ hz) ?_)
    | (refine wpList_store_row rfl 47 _ _ rfl (w.heap.size+1) rfl (By D).toArray rfl 47 _ b1 (size_hash _ hz) (by rw [hz];rfl) (By_one _) ?_))
   refine bodyPost_ret (results_cell_row rfl _ _ (w.heap.size+1) 47 (By D).toArray (0,0) _ rfl (b1.row _) underlying47 rfl (size_hash _ hz)) rfl ⟨rfl,?_⟩;exact below_setRow be (by omega) _
def zv8:(prog.info? 264).bind (λi=>i.zero.map (·.cells))=some z8v:=by kernel_rfl
structure Tst(w:yp):Prop where
  cell:∀i,i<8->w.cell? ⟨1,i,none⟩=some (.int .u64 (sqs[i]! : Nat))
  lt : 1 < w.heap.size
def Tst.below{w w':yp}(h:Tst w)(hb:Below w.heap.size w w'):Tst w' :=
 ⟨λi hi=>(hb.cell (p:=⟨1,i,none⟩) h.lt).trans (h.cell i hi),b9 h.lt hb.size⟩
structure FI2(w wr:yp)(l:zj):Prop where
  b0:Blk wr w.heap.size 264 z8v
  b1:Blk wr (w.heap.size+1) 264 (Uw l).toArray
  be:Below w.heap.size w wr
def FI2.set{w wr:yp}{l:zj}(h:FI2 w wr l)(k x:Nat):FI2 w (wr.setCell ⟨w.heap.size+1,k,none⟩ (.int .u32 (x:Int))) (l.set k x) where
 b0:=h.b0.far (by show w.heap.size≠w.heap.size+1;omega) _
 b1:=by have h4:=h.b1.set k (.int .u32 (x:Int));rw [Uw_set] at h4;exact h4
 be:=h.be.setCell (by show w.heap.size<=w.heap.size+1;omega) _
def sqs_lt{t:Nat}(h:t<8):sqs[t]! < 18446744073709551616:=by
 have h1:∀x∈sqs,x<18446744073709551616:=by decide
 have h2:t<sqs.length:=h;rw [getElem!_pos sqs t h2];exact h1 _ (iF _)
def sqh(t:Nat):Nat:=sqs[t]! / 4294967296
def z8n:zj:=[0,0,0,0,0,0,0,0]
def first_all:mxl sqh z8n 8=dK.start:=by decide +kernel
def first256_f(w:yp)(hT:Tst w) :
  Calls prog 152 #[] w λe w'=>e = .returned (.agg (Uw dK.start).toArray)/\Below w.heap.size w w':=by
 rw [<-first_all]
 have hlen:∀t,(mxl sqh z8n t).length=8:=λt=>by rw [iV];rfl
 go_enter func152,ntmps152
 refine wp_seq_k λK hK=>wp_region_lit (wpl_alloc (zs:=z8v) rfl rfl zv8 (wpl_nil ?_))
 go_simp
 refine hK _ _ ?_;clear hK K;refine wp_seq_k λK hK=>wp_region_lit (wpl_alloc (zs:=z8v) rfl rfl zv8 (wpl_nil ?_))
 go_simp
 refine hK _ _ ?_;clear hK K
 have hb2:Blk ((w.alloc (.cells z8v 264)).alloc (.cells z8v 264)) (w.heap.size+1) 264 z8v:=by
  have h:=Blk.new (w.alloc (.cells z8v 264)) 264 z8v
  rwa [dM] at h
 refine wp_at (λW=>FI2 w W z8n) ⟨(Blk.new w _ _).alloc _,hb2,((Below.refl _ _).alloc (aF _) _).alloc (by simp) _⟩ ?_
 intro W hW
 clear hb2;have HW:=dW hW;clear hW
 go_wp2
 go_loopw [3] (λi wr=>∃t:Nat,t<=8/\i = .int .i64 t/\FI2 w wr (mxl sqh z8n t)) (λi _=>8-(intOf i).toNat)
 case atStart =>
  refine⟨0,by omega,rfl,?_⟩;rw [oG];exact HW.out
 case round =>
  clear HW;obtain⟨t,ht,rfl,hS⟩:=hrel
  by_cases htl:t<8
  .have hN:=hS.set t (sqh t)
   rw [l8] at hN;have hg:=(hT.below hS.be).cell t htl;have hlt:=sqs_lt htl;have c1:=(hS.b1.cell t).trans (Uw_at (by rw [hlen];omega));have f1:=hS.b1.free t;have e1:sqh t=sqs[t]! / 4294967296:=rfl;have hq:sqh t<4294967296:=by omega
   have q1:((sqs[t]! : Nat):Int)/4294967296=((sqh t:Nat):Int):=by omega
   have q2:IntKind.u32.wrap ((sqh t:Nat):Int)=((sqh t:Nat):Int):=by rw [qW];omega
   have g4:(0:Int)<=(t:Int):=by omega
   have HN:=dW hN;clear hS hN e1 hT hlen;generalize sqh t=y at *;generalize sqs[t]! = x at *;generalize (mxl sqh z8n t)[t]! = old at *;go_wp2;go_roundw
   case rel=>exact⟨t+1,by omega,by go_num,HN.out⟩
   case measure=>simp [intOf];omega
  .obtain rfl:t=8:=by omega
   obtain⟨b0,b1,be⟩:=hS;have hz:(Uw (mxl sqh z8n 8)).toArray.size=8:=by rw [aW,Uw_len,hlen]
   clear hT;go_wp2_with (first
    | (refine wpList_load_row rfl 264 _ rfl (w.heap.size+1) rfl 264 (Uw (mxl sqh z8n 8)).toArray (0,0) _ b1 underlying264 rfl (size_v8 _ hz) ?_)
    | (refine wpList_store_row rfl 264 _ _ rfl w.heap.size rfl (Uw (mxl sqh z8n 8)).toArray rfl 264 _ b0 (size_v8 _ hz) (by rw [hz];rfl) (Uw_one _) ?_))
   refine bodyPost_ret (results_cell_row rfl _ _ w.heap.size 264 (Uw (mxl sqh z8n 8)).toArray (0,0) _ rfl (b0.row _) underlying264 rfl (size_v8 _ hz)) rfl ⟨rfl,?_⟩;exact below_setRow be (aF _) _
def own_lay256:Own 156:=λ_ _=>by go_simp
def own_first256:Own 152:=λ_ _=>by go_simp
def own_sum256:Own 114:=λ_ _=>by go_simp
def start256:Oct:=⟨dK.start[0]!,dK.start[1]!,dK.start[2]!,dK.start[3]!,dK.start[4]!,dK.start[5]!,dK.start[6]!,dK.start[7]!⟩
def start256_ob:OB 32 start256:=by constructor<;>decide
def start256_list:start256.list=dK.start:=by decide
def OB.list_lt2{o:Oct}(h:OB 32 o):∀x∈o.list,x<4294967296:=by
 intro x hx;simp only [Oct.list,aH,gB,or_false] at hx;rcases hx with rfl|rfl|rfl|rfl|rfl|rfl|rfl|rfl
 .exact h.a
 .exact h.b
 .exact h.c
 .exact h.d
 .exact h.e
 .exact h.f
 .exact h.g
 .exact h.h
def own_take256:Own 154:=λ_ _=>by go_simp
instance pst_st:Pst Tst:=⟨λ_ _ h hb=>h.below hb⟩
def first256_C:Ct Tst 152 [] (one (.q (eZ 8 start256.list))):=⟨own_first256,Spec.pure (eZ_ok rfl) λw h=>by rw [start256_list];exact first256_f w h⟩
def k256:BK:=⟨dK,64,264,67,λo=>[.agg 8 (Uw o.list).toArray],154⟩
def k256_ok:k256.Ok where
 n64:=by decide
 n128:=by decide
 own:=own_take256
 tk:=λ{gh gb o b} ho hb=>by refine zQ (own:=k256.R gh gb o b) [.c (.v (atG gh)),.c (.v (atG gb))] 5 func154 rfl (by rw [ntmps154];rfl) (two_ok trivial trivial) λB=>?_;refine s_lit (zZ rfl (rd_obj 0 rfl) (zZ rfl (rd_obj 1 rfl) (l_X (turn256_C ho hb) (λ_=>rfl) rfl λ_=>l_stO zY 0 rfl rfl rfl rfl rfl rfl rfl (l_E rfl ?_))));exact zG () rfl (λ_ _ _=>trivial) λ_ _=>trivial
def lay256_C{F:zv}{o:Oct}(ho:OB 32 o):Ct F 156 [eZ 8 o.list] (one (.q (eY 32 (o.list.map (jZ dK)).flatten))):=⟨own_lay256,Spec.pure (eY_ok (by rw [lV (jZ dK) λx=>lT dK x];rfl)).1 λw _=>lay256_f rfl (OB.list_lt2 ho) w⟩
def sum256_C{P:zt}{pc:Nat}{ss:yr}(hn:ss.length<=9223372036854775807):Ct (λw=>Tsh w/\PartsF P pc ss w) 114 [.c (.v (.slice P ss.length pc))] (one (.q (eY 32 (dJ dK (ss.map Seg.l).flatten)))):=⟨own_sum256,by refine zQ [.c (.v (.slice P ss.length pc))] 12 func114 rfl (by rw [ntmps114];rfl) (one_ok trivial) λB=>?_;refine zA rfl (s_reg λK hK=>l_X ((first256_C).imp λ_ h=>⟨h.1.cell,h.1.lt⟩) (λ_=>rfl) rfl λ_=>l_N hK rfl (s_reg λK hK=>l_auto2 rfl (zJ (k_give 4 rfl (E':=[(0,.v (.slice P ss.length pc)),(2,.a 2 0),(3,.a 3 0)]) ⟨rfl,rfl,rfl,trivial⟩ λgb=>k_give 3 rfl (E':=[(4,.v (atG gb)),(0,.v (.slice P ss.length pc)),(2,.a 2 0)]) ⟨rfl,rfl,rfl,trivial⟩ λgh=>hK _ (s_reg λK hK=>l_op (.v (.slice (some ⟨gb,0,none⟩) 64 64)) trivial rfl rfl rfl (runO_allP rfl underlying67 size_u8 rfl) (zB rfl (l_op (.v (k256.take gh gb)) trivial rfl rfl rfl (run_makeF (vals:=[atG gh,atG gb]) rfl rfl λ_=>rfl) ?_)))))));refine zI (own:=k256.R gh gb start256 (aB 64 0)) (R':=[]) [.slice (some ⟨gb,0,none⟩) 64 64,.slice P ss.length pc,k256.take gh gb] (λ_ _=>by go_simp) rfl (fill_S k256_ok start256_ob bL hn) (λw h _=>⟨h.1.steps,h.2⟩) λb'=>?_;have hD:((gJ dK 64 start256 ((ss.map Seg.l).flatten++fQ 64 ((ss.map Seg.l).flatten.length%64) (8*(ss.map Seg.l).flatten.length))).list.map (jZ dK)).flatten=dJ dK (ss.map Seg.l).flatten:=rfl;have hO:OB 32 (gJ dK 64 start256 ((ss.map Seg.l).flatten++fQ 64 ((ss.map Seg.l).flatten.length%64) (8*(ss.map Seg.l).flatten.length))):=ob_runw (s:=dK) _ _ _ (aF _) start256_ob;refine l_R (k256.R gh gb (gJ dK 64 start256 ((ss.map Seg.l).flatten++fQ 64 ((ss.map Seg.l).flatten.length%64) (8*(ss.map Seg.l).flatten.length))) b'.1) rfl (l_N hK rfl ?_);generalize gJ dK 64 start256 ((ss.map Seg.l).flatten++fQ 64 ((ss.map Seg.l).flatten.length%64) (8*(ss.map Seg.l).flatten.length))=o at *;refine s_freeO 0 rfl (s_freeO 0 rfl (s_reg λK hK=>zZ rfl (λ_ _ _ hv=>hv.fact.2.1) (l_X (lay256_C hO) (λ_=>rfl) rfl λ_=>l_N hK rfl (zP ?_))));rw [hD];exact zG () rfl (λ_ _ _=>trivial) λ_ _=>trivial⟩
def sum256_f(A:zt)(ls:zy)(pc:Nat)(w:yp)(hT:Tsh w)(hA:Parts w w.heap.size A ls)(hpc:ls.length<=pc)(hpm:pc<=9223372036854775807) :
  Calls prog 114 #[.slice A ls.length pc] w λe w'=>e = .returned (.agg (By (dJ dK ls.flatten)).toArray)/\Below w.heap.size w w':=by
 obtain⟨ss,rfl,h⟩:=segs_of ⟨hpc,hpm⟩ hA;rw [List.length_map] at *;exact(sum256_C (by omega)).row ⟨hT,h⟩
def hbody_S{k:zu}(v:Int)(hk:k.length=32):Spec 58 [.int .i64 v,.agg (By k).toArray] [] (λ_=>True) (madeN (bodyH v k)):=by
 refine zQ [.c (.v (.int .i64 v)),eY 32 k] 11 func58 rfl (by rw [ntmps58];rfl) (two_ok trivial (eY_ok hk).1) λb=>?_;refine zC rfl λK1 hK1=>zJ (k_give 3 rfl (E':=[(0,.v (.int .i64 v)),(4,.v (.slice none 0 0))]) ⟨rfl,rfl,trivial⟩ λg=>hK1 _ (s_freeO 0 rfl (zM λK2 hK2=>?_)));refine s_any 4 [] (by kernel_rfl) (by decide) (λ_ _ _ _ h=>by cases h) ?_;refine a_front zY 0 (by kernel_rfl) rfl rfl rfl rfl rfl rfl (λ_ h=>by cases h) ?_;refine a_front zY 1 (by kernel_rfl) rfl rfl rfl rfl rfl rfl (λ_ h=>by cases h) ?_;refine a_frontO (.v (.slice (some ⟨g,0,none⟩) 32 32)) trivial 3 (by kernel_rfl) rfl rfl rfl rfl rfl (runO_allP rfl underlying47 rfl rfl) ?_;refine a_step 2 (by kernel_rfl) rfl λK3 hK3=>?_;refine l_num 6 (u64N v:Int) rfl (u64N_is v) ?_;refine z6 [.slice none ([]:zu).length 0,.int .u64 (u64N v:Int)] own_wnum rfl (wnum_S [] (u64N v) (u64N_lt v) (by decide)) (λ_ _ _=>Rd.nil _ _ _) λgc=>?_;rw [cR];refine zJ (hK3 _ (λ_ _ _ _ h=>by cases h) ?_);refine a_tail (by kernel_rfl) ?_;refine l_eq 8 (.v (.slice (some ⟨g,0,none⟩) k.length 32)) rfl (by rw [hk]) ?_;refine l_list zY b.B.heap.size [⟨some ⟨gc,0,none⟩,(be8 (u64N v)).length,be8 (u64N v)⟩,⟨some ⟨g,0,none⟩,32,k⟩] (fe:=eSeg) rfl rfl rfl rfl rfl (λ_=>rfl) rfl (by decide) (by decide) (okF_seg _) (aF _) λP=>?_;refine l_free 0 rfl ?_;have e0:(List.map Seg.l [⟨some ⟨gc,0,none⟩,(be8 (u64N v)).length,be8 (u64N v)⟩,⟨some ⟨g,0,none⟩,32,k⟩]).flatten=bodyH v k:=by simp [bodyH]
 have hj:=join_S (A:=P) (c:=2) [⟨some ⟨gc,0,none⟩,(be8 (u64N v)).length,be8 (u64N v)⟩,⟨some ⟨g,0,none⟩,32,k⟩] (by rw [e0,bodyH_len hk];decide);rw [e0] at hj;refine z6 [.slice P 2 2] own_join rfl hj (λw h hM=>⟨h.1,λs hs=>by
  rcases aH.1 hs with rfl|hs
  .exact hM.1
  .rw [aD.1 hs];exact obj_rd (n:=32) h.2.2.1 (aE rfl)⟩) λgb=>?_
 refine zB rfl (zJ (hK2 _ ?_));exact zP (zG gb rfl (λ_ _ _=>trivial) (λw h=>h.1))
def hmake_S{seed key:zu}(v:Int)(hs:seed.length=32)(hk:key.length=32):Spec 24 [.agg (By seed).toArray,.int .i64 v,.agg (By key).toArray] [] Ta (one (.q (eU (mkH seed v key)))):=by
 refine zQ [eY 32 seed,.c (.v (.int .i64 v)),eY 32 key] 19 func24 rfl (by rw [ntmps24];rfl) (more_ok (eY_ok hs).1 (two_ok trivial (eY_ok hk).1)) λb=>?_;refine zA rfl ?_;refine s_regH 6 (by decide) (by kernel_rfl) (by kernel_rfl) λK hK G S w0 hst=>?_;refine zV hst rfl ?_;refine h_callE (F':=λ_=>True) hst [.int .i64 v,.agg (By key).toArray] rfl rfl rfl rfl (λ_ _=>by go_simp) rfl rfl (λ_=>rfl) (hbody_S v hk).p1 (λ_ _ _=>trivial) λgb _=>?_;refine h_callE (F':=λw=>Ta w/\Rd 1 eB (some ⟨gb,0,none⟩) (bodyH v key).length (bodyH v key) w) hst [.agg (By seed).toArray,.int .u8 1,.slice (some ⟨gb,0,none⟩) (bodyH v key).length (bodyH v key).length] rfl rfl rfl rfl (λ_ _=>by go_simp) rfl rfl (λ_=>rfl) (seal_S 1 hs (by rw [bodyH_len hk];decide)) (λw hw hu=>⟨hw.fact,madeP_rd (hu 3 _ rfl (by kernel_rfl))⟩) λ_ _=>?_;refine h_alloc (By (aB 64 0)).toArray rfl rfl rfl rfl rfl (by kernel_rfl) λg=>?_;have h64:=q7 seed (msg 1 (bodyH v key));refine h_endV hst (ps:=[.agg 64 (By (aB 64 0)).toArray]) 7 5 [(12,.q (eY 64 (kU seed (msg 1 (bodyH v key))))),(1,.v (.int .i64 v)),(3,.a 3 0),(5,.a 5 0),(6,.a 6 0)] rfl rfl ⟨rfl,rfl,rfl,rfl,rfl,trivial⟩ rfl rfl (eY_ok bL).1 ?_;generalize hsg:kU seed (msg 1 (bodyH v key))=sg at *;refine zB rfl (zJ (hK _ ?_));refine s_regH 6 (by decide) (by kernel_rfl) (by kernel_rfl) λK2 hK2 G S w0 hst=>?_;have hk0:=oY seed;refine zV hst rfl (h_callS (F':=Ta) (r:=.q (eY 32 (iC seed))) hst [.agg (By seed).toArray] rfl rfl rfl rfl own_public rfl rfl (λ_=>rfl) (eY_ok hk0).1 (public_S hs) (λ_ _ _ hv=>hv.fact) ?_);generalize hpk:iC seed=pk at *;have hmk:mkH seed v key=⟨pk,v,key,sg⟩:=by unfold mkH;rw [hpk,hsg]
 refine zV hst rfl (h_end hst (zB rfl (zJ (hK2 _ ?_))));exact zP (zR zY () rfl (by decide) rfl (by show RV.q (eU (mkH seed v key))=_;rw [hmk];rfl) rfl (λ_ _ _=>trivial) zU)
def hsigned_S{u:UV}(hu:u.Ok):Spec 25 [(eU u).den] [] Ta (one (.q (.c (.b (signB u))))):=by
 refine zQ [eU u] 23 func25 rfl (by rw [ntmps25];rfl) (one_ok hu.parts_ok) λb=>?_;refine zA rfl ?_;refine s_regH 20 (by decide) (by kernel_rfl) (by kernel_rfl) λK hK G S w0 hst=>?_;refine zV hst rfl ?_;have hgo:signB u=false->kS b (bodyPost prog Tryz.f25 (endS b (one (.q (.c (.b (signB u)))))) .ret) 23 ⟨[(2,.v (.bool false))],[],[],Ta,λ_=>True⟩:=λh=>k_retD zY () rfl (by decide) rfl (congrArg qR h) trivial rfl (λ_ _ _=>trivial) zU;by_cases h1:1<=u.ver
 .refine h_is 6 true rfl (decide_eq_true h1) ?_
  refine zV hst rfl ?_;by_cases h2:u.ver<=64
  .have hsb:signB u=rightB u.id u.sig (msg 1 (bodyH u.ver u.key)):=by unfold signB;rw [decide_eq_true ⟨h1,h2⟩,Bool.true_and]
   refine h_is 11 true rfl (decide_eq_true h2) (zV hst rfl ?_);refine h_callE (F':=λ_=>True) hst [.int .i64 u.ver,.agg (By u.key).toArray] rfl rfl rfl rfl (λ_ _=>by go_simp) rfl rfl (λ_=>rfl) (hbody_S u.ver hu.key).p1 (λ_ _ _=>trivial) λgb _=>?_;refine zV hst rfl ?_;refine h_callE (F':=λw=>Ta w/\Rd 1 eB (some ⟨gb,0,none⟩) (bodyH u.ver u.key).length (bodyH u.ver u.key) w) hst [.agg (By u.id).toArray,.int .u8 1,.slice (some ⟨gb,0,none⟩) (bodyH u.ver u.key).length (bodyH u.ver u.key).length,.agg (By u.sig).toArray] rfl rfl rfl rfl (λ_ _=>by go_simp) rfl rfl (λ_=>rfl) (owned_S 1 hu.id hu.sig (by rw [bodyH_len hu.key];decide)) (λw hw hx=>⟨hw.fact,madeP_rd (hx 15 _ rfl (by kernel_rfl))⟩) λ_ _=>?_;refine zV hst rfl (h_end hst (zB rfl (zJ (hK _ ?_))));exact zP (k_retD zY () rfl (by decide) rfl (congrArg qR hsb) trivial rfl (λ_ _ _=>trivial) zU)
  .have hsb:signB u=false:=by unfold signB;rw [decide_eq_false (λh=>h2 h.2),Bool.false_and]
   refine h_is 11 false rfl (decide_eq_false h2) (zV hst rfl (h_end hst (zB rfl ?_)));exact zJ (hK _ (zP (k_weak (e':=⟨[(2,.v (.bool false))],[],[],Ta,λ_=>True⟩) ⟨⟨rfl,trivial⟩,trivial,.refl _,λ_ h _=>h,λ_ h=>h⟩ (hgo hsb))))
 .have hsb:signB u=false:=by unfold signB;rw [decide_eq_false (λh=>h1 h.1),Bool.false_and]
  refine h_is 6 false rfl (decide_eq_false h1) (zV hst rfl (h_end hst (zB rfl ?_)));exact zJ (hK _ (zP (k_weak (e':=⟨[(2,.v (.bool false))],[],[],Ta,λ_=>True⟩) ⟨⟨rfl,trivial⟩,trivial,.refl _,λ_ h _=>h,λ_ h=>h⟩ (hgo hsb))))
def sumP{A:zt}{ls:zy}{w:yp}(n:Nat)(hn:ls.length=n)(hm:n<=9223372036854775807)(hT:Ta w)(h:PT w A ls) :
  Calls prog 114 #[.slice A n n] w λe w'=>e = .returned (.agg (By (dJ dK ls.flatten)).toArray)/\Below w.heap.size w w':=by
 subst hn;exact sum256_f A ls _ w hT.2 h (aF _) hm
def pick_key{ks:zy}{A:zt}{c:Nat}{w:yp}(h:Rd 32 (eY 32) A c ks w){i:Nat}{x:zu}(hx:ks[i]?=some x):x.length=32:=eY_len (h.2.2.2.1 x (aR hx)).1
def hvalue_S{A:zt}{c:Nat}(ks:zy):Spec 76 [.slice A ks.length c] [] (λw=>Ta w/\Rd 32 (eY 32) A c ks w) (one (.q (eY 32 (valH ks)))):=by
 refine zQ [.c (.v (.slice A ks.length c))] 26 func76 rfl (by rw [ntmps76];rfl) (one_ok trivial) λb=>?_;refine s_pure ((∀x∈ks,x.length=32)/\ks.length<=9223372036854775807) (λw h _=>⟨λx hx=>eY_len (h.2.2.2.2.1 x hx).1,bM h.2.1 h.2.2.1⟩) λ⟨h32,hm⟩=>?_;refine zA rfl (zA rfl (zM λK hK=>zA rfl (zN ?_)));let F:Nat->Env:=λi=>⟨[(8,.v (.int .i64 (i:Int))),(7,.v (.int .i64 (ks.length:Int))),(6,.v (.slice A ks.length c)),(0,.v (.slice A ks.length c)),(3,.a 3 0),(2,.a 2 0)],[⟨3,none,47,[.agg 32 (By (dH (ks.take i))).toArray]⟩,⟨2,none,47,[.agg 32 (By zH).toArray]⟩],[],λw=>Ta w/\Rd 32 (eY 32) A c ks w,λ_=>True⟩;refine c_weak (e':=F 0) ⟨zE rfl, zL rfl rfl, .refl _,λ_ h _=>h, zU⟩ (s_loop (λi=>ks.length-i) F (λi=>i<=ks.length) ?_ 0 (aL _));intro i hi;refine zA rfl (zM λK3 hK3=>?_);refine zW ((i:Int)<(ks.length:Int)) rfl (λhlt=>?_) (λhge=>?_)
 .have hlt:i<ks.length:=by omega
  obtain⟨x,hx⟩:∃x,ks[i]?=some x:=⟨_,aJ hlt⟩;have hx2:=h32 x (aR hx);have hd2:=dH_len (ks.take i);have hn:=dH_next hx;refine zO (hK3 _ (zM λK4 hK4=>zN (zC rfl λK5 hK5=>l_elem zY rfl rfl rfl i rfl hx rfl rfl (rd_fact λ_ h _=>h.2) (zB rfl (zJ (hK5 _ ?_))))));generalize dH (ks.take i)=d at *;have hkl:(keyH d x).length=32:=dig_len _;have hkd:keyH d x=dJ dK ([[3],d,x]:zy).flatten:=rfl;obtain⟨d2,he⟩:∃d2,keyH d x=d2:=⟨_,rfl⟩;rw [he] at hn hkl hkd;refine s_oneH 5 (by decide) (by kernel_rfl) (by kernel_rfl) λG S w0 hst=>?_;refine h_lit zY [(3:UInt8)] rfl rfl rfl rfl rfl rfl (λ_=>rfl) rfl (by decide) (by decide) λB=>?_;refine h_op hst (.s 3 0 32 32) trivial rfl rfl rfl rfl (runO_all rfl underlying47 rfl rfl) (h_op hst (.s 5 0 32 32) trivial rfl rfl rfl rfl (runO_all rfl underlying47 rfl rfl) ?_);refine h_parts [.slice (some ⟨B,0,none⟩) 1 1,(SV.s 3 0 32 32).den G,(SV.s 5 0 32 32).den G] [[3],d,x] hst rfl rfl rfl rfl rfl rfl rfl (by decide) (by decide) (λw hw hu=>?_) λA2=>?_
  .have h2:Rd 1 eB (some ⟨B,0,none⟩) 1 [3] w:=hu 0 _ rfl (by kernel_rfl);exact⟨h2.sb,sb_var (j:=3) rfl hd2 (by decide) G S w hw,sb_var (j:=5) rfl hx2 (by decide) G S w hw,trivial⟩
  refine h_call (r:=.q (eY 32 d2)) hst [.slice (some ⟨A2,0,none⟩) 3 3] rfl rfl rfl rfl own_sum256 rfl rfl (λ_=>rfl) (eY_ok hkl).1 (λw hw hu=>?_) ?_
  .have hA:PT w (some ⟨A2,0,none⟩) [[3],d,x]:=hu 3 _ rfl (by kernel_rfl);have hr2:=sumP 3 rfl (by decide) hw.fact.1 hA;rw [<-hkd] at hr2;exact hr2
  refine zV hst rfl (h_end hst (zB rfl (zJ (hK4 _ (zD rfl ?_)))));exact zX (i+1) hlt (by show _-(i+1)<_-i;omega) ⟨⟨congrArg some (congrArg SV.v (congrArg (cG .i64) (wrapI rfl (by omega) (by omega)))),rfl,rfl,rfl,rfl,rfl,trivial⟩,⟨by show findL _ 3=some ⟨3,none,47,[.agg 32 (By (dH (ks.take (i+1)))).toArray]⟩;rw [hn];rfl,rfl,rfl,rfl,trivial⟩,.refl _,λ_ h _=>h,λ_ h=>h⟩
 .obtain rfl:ks.length=i:=by omega
  have hd2:=dH_len ks;have hvl:(valH ks).length=32:=dig_len _;have hvd:valH ks=dJ dK ([[2],be8 ks.length,dH ks]:zy).flatten:=rfl;have hb8:=be8_len ks.length;refine s_exit (zS (zS (k_out (hK _ ?_))));rw [dA];generalize dH ks=d at *;obtain⟨v2,hv2⟩:∃v2,valH ks=v2:=⟨_,rfl⟩;rw [hv2] at hvl hvd;refine zM λK5 hK5=>?_;refine s_any 6 [] (by kernel_rfl) (by decide) (λ_ _ _ _ h=>by cases h) ?_;refine a_front zY 1 (by kernel_rfl) rfl rfl rfl rfl rfl rfl (λ_ h=>by cases h) ?_;refine a_front zY 2 (by kernel_rfl) rfl rfl rfl rfl rfl rfl (λ_ h=>by cases h) ?_;refine a_front zY 3 (by kernel_rfl) rfl rfl rfl rfl rfl rfl (λ_ h=>by cases h) ?_;refine a_frontO (.s 3 0 32 32) trivial 5 (by kernel_rfl) rfl rfl rfl rfl rfl (runO_all rfl underlying47 rfl rfl) ?_;refine a_step2 0 4 (by kernel_rfl) rfl rfl (λK6 hK6=>?_) (λK6 hK6=>?_)
  .refine l_list zY b.B.heap.size [(2:UInt8)] rfl rfl rfl rfl rfl (λ_=>rfl) rfl (by decide) (by decide) (okF_B _) (aF _) λB=>?_
   refine zJ (hK6 _ (λ_ _ _ _ h=>by cases h) ?_);refine a_step 4 (by kernel_rfl) rfl λK7 hK7=>?_;refine l_num 21 (ks.length:Int) rfl (wrapU rfl (by omega) (by omega)) ?_;refine z6 [.slice none ([]:zu).length 0,.int .u64 (ks.length:Int)] own_wnum rfl (wnum_S (A:=none) (c:=0) [] ks.length (by omega) (by decide)) (λ_ _ _=>Rd.nil _ _ _) λgb=>?_;rw [cR];refine zJ (hK7 _ (λ_ _ _ _ h=>by cases h) ?_);refine a_tail (by kernel_rfl) ?_;refine l_dig zY [.v (.slice B 1 1),.v (.slice (some ⟨gb,0,none⟩) (be8 ks.length).length (be8 ks.length).length),.s 3 0 32 32] [[2],be8 ks.length,d] v2 rfl rfl rfl rfl rfl rfl rfl rfl rfl own_sum256 (λ_=>rfl) rfl (by decide) (by decide) hvl (λA w h hF hM=>?_) (λG S w h=>?_) λB2=>?_
   .have hr2:=sumP 3 rfl (by decide) hF.2.1 h;rw [<-hvd] at hr2;exact hr2
   .have h1:Rd 1 eB B 1 [2] w:=rd_own 0 rfl G S w h;exact⟨h1.sb,h.fresh.1.sb,sb_var (j:=3) rfl hd2 (by decide) G S w h,trivial⟩
   refine zB rfl (zJ (hK5 _ (s_free 0 rfl ?_)));exact zP (zR zY () rfl (by decide) rfl (congrArg (λz=>RV.q (eY 32 z)) hv2) rfl (λ_ _ _=>trivial) zU)
  .refine l_num 21 (ks.length:Int) rfl (wrapU rfl (by omega) (by omega)) ?_
   refine z6 [.slice none ([]:zu).length 0,.int .u64 (ks.length:Int)] own_wnum rfl (wnum_S (A:=none) (c:=0) [] ks.length (by omega) (by decide)) (λ_ _ _=>Rd.nil _ _ _) λgb=>?_;rw [cR];refine zJ (hK6 _ (λ_ _ _ _ h=>by cases h) ?_);refine a_step 0 (by kernel_rfl) rfl λK7 hK7=>?_;refine l_list zY b.B.heap.size [(2:UInt8)] rfl rfl rfl rfl rfl (λ_=>rfl) rfl (by decide) (by decide) (okF_B _) (aF _) λB=>?_;refine zJ (hK7 _ (λ_ _ _ _ h=>by cases h) ?_);refine a_tail (by kernel_rfl) ?_;refine l_dig zY [.v (.slice B 1 1),.v (.slice (some ⟨gb,0,none⟩) (be8 ks.length).length (be8 ks.length).length),.s 3 0 32 32] [[2],be8 ks.length,d] v2 rfl rfl rfl rfl rfl rfl rfl rfl rfl own_sum256 (λ_=>rfl) rfl (by decide) (by decide) hvl (λA w h hF hM=>?_) (λG S w h=>?_) λB2=>?_
   .have hr2:=sumP 3 rfl (by decide) hF.2.1 h;rw [<-hvd] at hr2;exact hr2
   .have h1:Rd 1 eB B 1 [2] w:=rd_own 0 rfl G S w h;exact⟨h1.sb,h.fresh.1.sb,sb_var (j:=3) rfl hd2 (by decide) G S w h,trivial⟩
   refine zB rfl (zJ (hK5 _ (s_free 0 rfl ?_)));exact zP (zR zY () rfl (by decide) rfl (congrArg (λz=>RV.q (eY 32 z)) hv2) rfl (λ_ _ _=>trivial) zU)
section
variable{α:Type}{fe:α->SQ}{T:yw}{b:Base}{ops:zp}{Q:zx}{N:Nat}{E:SE}{L:ze}{R:zd}{F M:zv}{o:Oper}{rest:zo}{k e sz bs:Nat}{t tn:yn}{x y:yo}{K kn:IntKind}
def l_growZ(hT:OkT prog T)(lo n:Nat)(fe:α->SQ)(hg:o.guard=none)(hd:o.dst=some k)(hk:aU k N=true)(ho:o.op = .call { callee:=.builtin .append,args:=#[x,y],argTypes:=#[t,tn] })(hs:slS T t=some (e,sz,bs))(htn:prog.underlying tn=some (.int kn))
 (hx:evS E x=some (.v (.slice none 0 0)))(hy:evS E y=some (.v (.int K (n:Int))))(h0:0<n)(hsz:0<sz)(hb:n*bs<=281474976710656)(hm:n<=9223372036854775807)(hlo:lo<=b.B.heap.size)
 (hc:∀g c,n<=c->lS prog b ops Q N rest ⟨(k,.v (.slice (some ⟨g,0,none⟩) n c))::E,L,OwnS lo e sz fe (some ⟨g,0,none⟩) c []::R,F,M⟩):lS prog b ops Q N (o::rest) ⟨E,L,R,F,M⟩:=λa w ⟨G,S,h1,h2,h3⟩=>by
 obtain⟨ht,ie,z,hi,hz,hsz2,hbs,hzs,_⟩:=slS_ok hT hs;have e1:=h1.eval (evS_ok hx);have e2:=h1.eval (evS_ok hy);have hr:=Lib.run_append_nil_zeros (P:=prog) w t tn o.type e ie z K kn ht htn hi hz n h0 (by omega) (by omega) (by rw [hbs];exact hb)
 refine wpl_go (v:=.slice (some ⟨w.heap.size,0,none⟩) n (grownCap w n 0 e)) (oneS hg) (by unfold execOp;simp only [ho,resolve,invoke,builtin,aG,aI,aC,List.map_toArray,List.map_cons,List.map_nil,e1,e2];show((Builtin.append_ #[t,tn] o.type #[.slice none 0 0,.int K (n:Int)]).run prog w).andThen _=_;rw [hr];rfl) ?_
 rw [hd];have hge:=grownCap_ge w n 0 e;have hle:=grownCap_le_maxLen w n 0 e (by unfold maxLen;omega);generalize grownCap w n 0 e=c at *
 have hcs:(j1 z.cells n++j1 z.cells (c-n)).size=c*sz:=by simp only [Array.size_append,size_zeroCells,hzs,<-Nat.add_mul];rw [show n+(c-n)=c by omega]
 generalize j1 z.cells n++j1 z.cells (c-n)=cs at *
 have hown:(OwnS lo e sz fe (some ⟨w.heap.size,0,none⟩) c []).holds (w.drew.alloc (.cells cs e)) λj=>j=w.heap.size:=by
  have hb:Blk (w.drew.alloc (.cells cs e)) w.heap.size e cs:=Blk.new w.drew _ _;have hlo2:lo<=w.heap.size:=bM hlo h3.chg.size;have h5:cs.toList.take (0*sz)=[]:=by rw [Nat.zero_mul];rfl
  have h6:(flatF fe ([]:List α)).length=0*sz:=by rw [Nat.zero_mul];rfl
  exact⟨λ_ h=>(by cases h),⟨h6,.inr ⟨w.heap.size,c,cs,rfl,hlo2,hb,aL _,hle,hcs,h5⟩⟩,λj=>⟨λh=>(by rw [h];rfl),λh=>(bQ h).symm⟩⟩
 obtain⟨S',h4⟩:=h3.gain (((Below.refl w.heap.size w).drew).alloc (aF _) _) hown (λj hj=>kA hj.symm);exact hc _ _ hge _ _ ⟨G,S',h1.put hk _,h2.cons trivial,h4⟩
end
def run_cap{N:Nat}{E:SE}{o:Oper}{x:yo}{t:yn}{A:zt}{n c:Nat}(ho:o.op = .call { callee:=.builtin .cap,args:=#[x],argTypes:=#[t] })(ht:∃e,prog.underlying t=some (.slice e))(hx:evS E x=some (.v (.slice A n c))) :
  ∀(G:zk) (a:Act) (w:yp),Fr N (denE G E) a->(execOp a.eval o).run prog w = .ok (.value ((SV.v (.int .i64 (c:Int))).den G)) w:=λG a w ha=>by
 have h1:a.eval x = .slice A n c:=ha.eval (evS_ok hx);obtain⟨e,ht⟩:=ht
 unfold execOp
 simp only [ho];generalize a.eval=ρ at *
 show _=mQ (mB (.int .i64 (c:Int))) w
 simp [resolve,invoke,builtin,h1,aG,run_underlying ht,Builtin.cap_,goInt]
abbrev KX:=zt×Nat
def grow_S(n:Nat)(h0:0<n)(hn:n<=1000000):Spec 112 [.slice none 0 0,.int .i64 (n:Int)] [] (λ_=>True) { ret:=λx:KX=>.v (.slice x.1 0 x.2),own:=λx=>[OwnS 0 47 32 (eY 32) x.1 x.2 []] }:=by refine zQ [.c (.v (.slice none 0 0)),.c (.v (.int .i64 (n:Int)))] 27 func112 rfl (by rw [ntmps112];rfl) (two_ok trivial trivial) λb=>?_;refine zA rfl (zM λK1 hK1=>zA rfl ?_);refine zW ((n:Int)<0) rfl (λh=>absurd h (by omega)) (λ_=>?_);refine zO (hK1 _ (zM λK2 hK2=>zC rfl λK3 hK3=>l_op (.v (.int .i64 ((0:Nat):Int))) trivial rfl rfl rfl (run_cap rfl ⟨_,underlying38⟩ rfl) (zB rfl ?_)));refine l_num 1 (n:Int) rfl (wrapI (by show(n:Int)-IntKind.i64.wrap (0-0)=n;rw [wrapI (r:=0) (by decide) (by decide) (by decide)];omega) (by omega) (by omega)) ?_;refine zJ (hK3 _ (zA rfl ?_));refine zW ((n:Int)>0) rfl (λ_=>?_) (λh=>absurd h (by omega));refine s_lit (zB rfl (l_op (.v (.int .i64 ((0:Nat):Int))) trivial rfl rfl rfl (run_cap rfl ⟨_,underlying38⟩ rfl) (l_op (.v (.slice none 0 0)) trivial rfl rfl rfl (run_cutHi (A:=none) (n:=0) (c:=0) (j:=0) (sz:=32) rfl (aF _) (λ_=>rfl) rfl underlying38 rfl rfl) (zB rfl ?_))));refine l_growZ zY 0 n (eY 32) rfl rfl rfl rfl rfl underlying3 rfl rfl h0 (by decide) (by show n*32<=_;omega) (by omega) (aL _) λg c hc=>?_;refine zB rfl ?_;refine l_op (.v (.slice (some ⟨g,0,none⟩) 0 c)) trivial rfl rfl rfl (run_cutHi (A:=some ⟨g,0,none⟩) (n:=n) (c:=c) (j:=0) (sz:=32) rfl (aL _) (λh=>by cases h) rfl underlying38 rfl rfl) ?_;refine zB rfl (zJ (hK2 _ (zA rfl ?_)));exact zP (zG (some ⟨g,0,none⟩,c) rfl (λ_ _ _=>trivial) zU)
structure HSeg where
  A:zt
  c:Nat
  l:zy
def eHs(s:HSeg):SQ:=.c (.v (.slice s.A s.l.length s.c))
def HSeg.rd(s:HSeg)(w:yp):Prop:=Rd 32 (eY 32) s.A s.c s.l w
instance{s:HSeg}:Pst s.rd:=⟨λ_ _ h hb=>h.later hb⟩
def eHs_ok(s:HSeg):OkP (eHs s).parts1/\(eHs s).cl.length=1:=⟨λp hp=>by simp only [eHs,SQ.parts1,aD] at hp;subst hp;exact⟨trivial,rfl,rfl⟩,rfl⟩
abbrev flH(ss:List HSeg):zy:=(ss.map HSeg.l).flatten
def flH_next{ss:List HSeg}{i:Nat}{s:HSeg}(h:ss[i]?=some s):flH (ss.take (i+1))=flH (ss.take i)++s.l:=by unfold flH;rw [List.take_add_one,h];simp
def flH_le(ss:List HSeg)(i:Nat):(flH (ss.take i)).length<=(flH ss).length:=by
 have e:flH ss=flH (ss.take i)++flH (ss.drop i):=by unfold flH;rw [<-List.flatten_append,<-bX,List.take_append_drop]
 rw [e,aA];omega
def concat_S{A:zt}{c:Nat}(ss:List HSeg)(h0:0<(flH ss).length)(ht:(flH ss).length<=1000000):Spec 73 [.slice A ss.length c] [] (λw=>Rd 1 eHs A c ss w/\∀s∈ss,s.rd w)
  { ret:=λx:KX=>.v (.slice x.1 (flH ss).length x.2),own:=λx=>[OwnS 0 47 32 (eY 32) x.1 x.2 (flH ss)] }:=by
 refine zQ [.c (.v (.slice A ss.length c))] 36 func73 rfl (by rw [ntmps73];rfl) (one_ok trivial) λb=>?_;refine s_pure (ss.length<=9223372036854775807) (λw h _=>bM h.1.1 h.1.2.1) λhm=>?_;refine zA rfl (zA rfl (zM λK1 hK1=>zA rfl (zN ?_)))
 let F:Nat->Env:=λi=>⟨[(11,.v (.int .i64 (i:Int))),(10,.v (.int .i64 (ss.length:Int))),(9,.v (.slice A ss.length c)),(0,.v (.slice A ss.length c)),(3,.v (.int .i64 ((flH (ss.take i)).length:Int)))],[],[],λw=>Rd 1 eHs A c ss w/\∀s∈ss,s.rd w,λ_=>True⟩
 refine c_weak (e':=F 0) ⟨zE rfl, trivial, .refl _,λ_ h _=>h, zU⟩ (s_loop (λi=>ss.length-i) F (λi=>i<=ss.length) ?_ 0 (aL _))
 .intro i hi
  refine zA rfl (zM λK3 hK3=>?_);refine zW ((i:Int)<(ss.length:Int)) rfl (λhlt=>?_) (λhge=>?_)
  .have hlt:i<ss.length:=by omega
   obtain⟨s,hs⟩:∃s,ss[i]?=some s:=⟨_,aJ hlt⟩;have hn:=flH_next hs;have hle:=flH_le ss (i+1);have hnl:=congrArg lJ hn;rw [aA] at hnl;refine zO (hK3 _ (zM λK4 hK4=>zN (zC rfl λK5 hK5=>l_elem zY rfl rfl rfl i rfl hs rfl rfl (rd_fact λ_ h _=>h.1) (zB rfl (zJ (hK5 _ (zC rfl λK6 hK6=>?_)))))));refine l_num 3 ((flH (ss.take (i+1))).length:Int) rfl (wrapI (by omega) (by omega) (by omega)) ?_;refine zJ (hK6 _ (zA rfl ?_));refine zW (((flH (ss.take (i+1))).length:Int)<0) rfl (λh=>absurd h (by omega)) (λ_=>?_);refine zO (hK4 _ (zD rfl ?_));exact zX (i+1) hlt (by show _-(i+1)<_-i;omega) ⟨⟨congrArg some (congrArg SV.v (congrArg (cG .i64) (wrapI rfl (by omega) (by omega)))),rfl,rfl,rfl,rfl,trivial⟩,trivial,.refl _,λ_ h _=>h,λ_ h=>h⟩
  .obtain rfl:ss.length=i:=by omega
   refine s_exit (zS (zS (k_out (hK1 _ ?_))));rw [dA];refine zC rfl λK5 hK5=>?_;refine z6 [.slice none 0 0,.int .i64 ((flH ss).length:Int)] (λ_ _=>by go_simp) rfl (grow_S (flH ss).length h0 ht) (λ_ _ _=>trivial) λ⟨B,d⟩=>?_;refine l_R [OwnS 0 47 32 (eY 32) B d []] rfl (zB rfl (zJ (hK5 _ (zM λK7 hK7=>zA rfl (zN ?_)))));let F2:Nat×KX->Env:=λ⟨i,B,d⟩=>⟨[(27,.v (.int .i64 (i:Int))),(26,.v (.int .i64 (ss.length:Int))),(25,.v (.slice A ss.length c)),(6,.v (.slice B (flH (ss.take i)).length d))],[],[OwnS 0 47 32 (eY 32) B d (flH (ss.take i))],λw=>Rd 1 eHs A c ss w/\∀s∈ss,s.rd w,λ_=>True⟩;refine c_weak (e':=F2 (0,B,d)) ⟨zE rfl, trivial, .refl _,λ_ h _=>h.2, zU⟩ (s_loop (λx=>ss.length-x.1) F2 (λx=>x.1<=ss.length) ?_ (0,B,d) (aL _));rintro⟨i,B,d⟩ hi;dsimp only at hi;refine zA rfl (zM λK3 hK3=>?_);refine zW ((i:Int)<(ss.length:Int)) rfl (λhlt=>?_) (λhge=>?_)
   .have hlt:i<ss.length:=by omega
    obtain⟨s,hs⟩:∃s,ss[i]?=some s:=⟨_,aJ hlt⟩;have hn:=flH_next hs;have hle:=flH_le ss (i+1);have hnl:=congrArg lJ hn;rw [aA] at hnl;refine zO (hK3 _ (zM λK4 hK4=>zN (zC rfl λK5 hK5=>l_elem zY rfl rfl rfl i rfl hs rfl rfl (rd_fact λ_ h _=>h.1) (zB rfl (zJ (hK5 _ (s_lit (zB rfl ?_))))))));refine l_appY zY 0 s.l (fe:=eY 32) rfl rfl rfl rfl rfl rfl rfl rfl rfl (rd_fact λw h _=>h.2 s (aR hs)) (by decide) (by show(_+_)*32<=_;omega) (by omega) (aL _) λB' d'=>?_;rw [<-hn];refine zB rfl (zJ (hK4 _ (zD rfl ?_)));exact zX (i+1,B',d') hlt (by show _-(i+1)<_-i;omega) ⟨⟨congrArg some (congrArg SV.v (congrArg (cG .i64) (wrapI rfl (by omega) (by omega)))),rfl,rfl,rfl,trivial⟩,trivial,.refl _,λ_ h _=>h,λ_ h=>h⟩
   .obtain rfl:ss.length=i:=by omega
    refine s_exit (zS (zS (k_out (hK7 _ ?_))));rw [dA];refine zA rfl ?_;exact zP (zG (B,d) rfl (λ_ _ _=>trivial) zU)
noncomputable def nxE(ks:zy)(u:UV):Nat:=if signB u=true then(if u.ver=(ks.length:Int)+1 then 0 else 111) else 110
noncomputable def nxK(ks:zy)(u:UV):zy:=if nxE ks u=0 then ks++[u.key] else []
abbrev nxQ(l:zy)(e:Nat):Post KX:={ ret:=λx=>.t [.c (.v (.slice x.1 l.length x.2)),.c (.v (.int .i64 (e:Int)))],p:=λx=>Rd 32 (eY 32) x.1 x.2 l }
noncomputable abbrev nxP(ks:zy)(u:UV):Post KX:=nxQ (nxK ks u) (nxE ks u)
def hnext_S{A:zt}{c:Nat}(ks:zy){u:UV}(hu:u.Ok)(hl:ks.length<=1000):Spec 37 [.slice A ks.length c,(eU u).den] [] (λw=>Ta w/\Rd 32 (eY 32) A c ks w) (nxP ks u):=by
 refine zQ [.c (.v (.slice A ks.length c)),eU u] 21 func37 rfl (by rw [ntmps37];rfl) (two_ok trivial hu.parts_ok) λb=>?_;refine zA rfl (zM λK1 hK1=>zC rfl λK2 hK2=>?_);refine z6 [(eU u).den] (λ_ _=>by go_simp) rfl (hsigned_S hu) (λ_ h _=>h.1) λ_=>?_;refine zB rfl (zJ (hK2 _ ?_));obtain⟨sb,hsb⟩:∃sb,signB u=sb:=⟨_,rfl⟩;rw [hsb];refine s_if (!sb) rfl (λh=>?_) (λh=>?_)
 .have h1:nxE ks u=110:=by unfold nxE;rw [if_neg (by rw [hsb];simpa using h)]
  have h2:nxK ks u=[]:=by unfold nxK;rw [h1];rfl
  refine zA rfl ?_;exact zP (zR zY (none,0) rfl (by decide) rfl (by show RV.t [.c (.v (.slice none (nxK ks u).length 0)),.c (.v (.int .i64 (nxE ks u:Int)))]=_;rw [h1,h2];rfl) rfl (λw _ _=>by show Rd 32 (eY 32) none 0 (nxK ks u) w;rw [h2];exact Rd.nil _ _ _) zU)
 have hst:sb=true:=by simpa using h
 refine zO (hK1 _ (zM λK3 hK3=>zC rfl λK4 hK4=>zJ (hK4 _ ?_)));have hw:IntKind.i64.wrap ((ks.length:Int)+1)=(ks.length:Int)+1:=wrapI rfl (by omega) (by omega);refine zW (u.ver≠IntKind.i64.wrap ((ks.length:Int)+1)) rfl (λh=>?_) (λh=>?_)
 .have h1:nxE ks u=111:=by unfold nxE;rw [if_pos (by rw [hsb];exact hst),if_neg (by rw [hw] at h;exact h)]
  have h2:nxK ks u=[]:=by unfold nxK;rw [h1];rfl
  refine zA rfl ?_;exact zP (zR zY (none,0) rfl (by decide) rfl (by show RV.t [.c (.v (.slice none (nxK ks u).length 0)),.c (.v (.int .i64 (nxE ks u:Int)))]=_;rw [h1,h2];rfl) rfl (λw _ _=>by show Rd 32 (eY 32) none 0 (nxK ks u) w;rw [h2];exact Rd.nil _ _ _) zU)
 have h1:nxE ks u=0:=by unfold nxE;rw [if_pos (by rw [hsb];exact hst),if_pos (by rw [hw] at h;exact Decidable.of_not_not h)]
 have h2:nxK ks u=ks++[u.key]:=by unfold nxK;rw [h1];rfl
 refine zO (hK3 _ (zC rfl λK5 hK5=>?_));refine l_list zY 0 [u.key] (fe:=eY 32) rfl rfl rfl rfl rfl (λ_=>rfl) rfl (by decide) (by decide) (okF_Y λl hl=>by rw [aD.1 hl];exact hu.key) (aL _) λB=>?_;refine l_free 0 rfl ?_;refine l_list zY 0 [⟨A,c,ks⟩,⟨B,1,[u.key]⟩] (fe:=eHs) rfl rfl rfl rfl rfl (λ_=>rfl) rfl (by decide) (by decide) (λs _=>eHs_ok s) (aL _) λD=>?_;refine l_free 0 rfl ?_;have e0:flH [⟨A,c,ks⟩,⟨B,1,[u.key]⟩]=nxK ks u:=by rw [h2];simp [flH]
 have hcc:=concat_S (A:=D) (c:=2) [⟨A,c,ks⟩,⟨B,1,[u.key]⟩] (by rw [e0,h2];simp) (by rw [e0,h2];simp;omega);rw [e0] at hcc;refine z6 [.slice D 2 2] (λ_ _=>by go_simp) rfl hcc (λw h _=>⟨h.1,λs hs=>by
  rcases aH.1 hs with rfl|hs
  .exact h.2.2.2.2
  .rw [aD.1 hs];exact h.2.1⟩) λ⟨X,d⟩=>?_
 refine l_R [OwnS 0 47 32 (eY 32) X d (nxK ks u)] rfl (l_free 0 rfl (zB rfl (zJ (hK5 _ ?_))));exact zP (zR zY (X,d) rfl (by decide) rfl (by show RV.t [.c (.v (.slice X (nxK ks u).length d)),.c (.v (.int .i64 (nxE ks u:Int)))]=_;rw [h1];rfl) rfl (λw h _=>h.1) zU)
def hnext_Q{A:zt}{c:Nat}{ks l:zy}{u:UV}{e:Nat}(he:nxE ks u=e)(hk:nxK ks u=l)(hu:u.Ok)(hl:ks.length<=1000):Spec 37 [.slice A ks.length c,(eU u).den] [] (λw=>Ta w/\Rd 32 (eY 32) A c ks w) (nxQ l e):=by subst he hk;exact hnext_S ks hu hl
def rsame11_S{A A2:zt}{c c2:Nat}(ks:zy):Spec 18 [.slice A ks.length c,.slice A2 ks.length c2] [] (λw=>Rd 32 (eY 32) A c ks w/\Rd 32 (eY 32) A2 c2 ks w) (one (.v (.bool true))):=by
 refine zQ [.c (.v (.slice A ks.length c)),.c (.v (.slice A2 ks.length c2))] 26 func18 rfl (by rw [ntmps18];rfl) (two_ok trivial trivial) λb=>?_;refine s_pure ((∀x∈ks,x.length=32)/\ks.length<=9223372036854775807) (λw h _=>⟨λx hx=>eY_len (h.1.2.2.2.1 x hx).1,bM h.1.1 h.1.2.1⟩) λ⟨h32,hm⟩=>?_;refine zA rfl (zM λK1 hK1=>zC rfl λK2 hK2=>?_);refine l_is 10 false rfl (by simp) ?_;refine zJ (hK2 _ (s_no rfl (zO (hK1 _ (zM λK3 hK3=>zA rfl (zN ?_))))));let F:Nat->Env:=λi=>⟨[(13,.v (.int .i64 (i:Int))),(12,.v (.int .i64 (ks.length:Int))),(0,.v (.slice A ks.length c)),(1,.v (.slice A2 ks.length c2))],[],[],λw=>Rd 32 (eY 32) A c ks w/\Rd 32 (eY 32) A2 c2 ks w,λ_=>True⟩;refine c_weak (e':=F 0) ⟨zE rfl, trivial, .refl _,λ_ h _=>h, zU⟩ (s_loop (λi=>ks.length-i) F (λi=>i<=ks.length) ?_ 0 (aL _));intro i hi;refine zA rfl (zM λK4 hK4=>?_);refine zW ((i:Int)<(ks.length:Int)) rfl (λhlt=>?_) (λhge=>?_)
 .have hlt:i<ks.length:=by omega
  obtain⟨x,hx⟩:∃x,ks[i]?=some x:=⟨_,aJ hlt⟩;have hx2:=h32 x (aR hx);refine zO (hK4 _ (zM λK5 hK5=>zN (zA rfl ?_)));refine s_regD 9 (by decide) (by kernel_rfl) (by kernel_rfl) λK6 hK6 G S w0 hst=>?_;refine g_autoS zY hst rfl (g_elem zY hst rfl rfl rfl i rfl hx rfl rfl (rd_fact λw h _=>h.1) (g_autoS zY hst rfl (g_elem zY hst rfl rfl rfl i rfl hx rfl rfl (rd_fact λw h _=>h.2) ?_)));refine g_opS (.b (!decide (x=x))) trivial rfl rfl rfl (run_neqY rfl rfl rfl underlying47 (by kernel_rfl) hx2 hx2) ?_;refine g_endS hst ?_;refine l_is 24 false rfl (by simp) ?_;refine zJ (hK6 _ (s_no rfl (zO (hK5 _ (zD rfl ?_)))));exact zX (i+1) hlt (by show _-(i+1)<_-i;omega) ⟨⟨congrArg some (congrArg SV.v (congrArg (cG .i64) (wrapI rfl (by omega) (by omega)))),rfl,rfl,rfl,trivial⟩,trivial,.refl _,λ_ h _=>h,λ_ h=>h⟩
 .refine s_exit (zS (zS (k_out ?_)));refine hK3 _ (zA rfl ?_);exact zP (zG () rfl (λ_ _ _=>trivial) zU)
end Go.Proofs.Q
namespace Go.Proofs.Q
open Go.RowKit Go.IntWalk
structure MapT(κ ν:Type) where
  t:yn
  kt:yn
  vt:yn
  kv:κ->SQ
  vv:ν->SQ
structure MapT.Ok{κ ν:Type}(T:MapT κ ν)(ok:κ->Prop):Prop where
  und:prog.underlying T.t=some (.map T.kt T.vt)
  keyed:Maps.Keyed prog T.kt
  key:∀k,ok k->∃l,keyOf prog T.kt (T.kv k).den=some l
  inj:∀k k',(T.kv k).den=(T.kv k').den->k=k'
def MapT.K{κ ν:Type}(T:MapT κ ν)(k:κ):Value:=(T.kv k).den
def MapT.V{κ ν:Type}(T:MapT κ ν)(v:ν):Value:=(T.vv v).den
section
variable{κ ν:Type}{T:MapT κ ν}{ok:κ->Prop}
structure MapH(T:MapT κ ν)(ok:κ->Prop)(es:Array MapEntry)(clock n:Nat)(f:κ->Option ν):Prop where
  size:es.size=n
  of:∀e∈es.toList,∃k v,ok k/\f k=some v/\e.key=T.K k/\e.val=T.V v
  at_:∀k v,f k=some v->∃e∈es.toList,e.key=T.K k/\e.val=T.V v
  one:∀(i j:Nat) (e g:MapEntry),es[i]?=some e->es[j]?=some g->e.key=g.key->i=j
  born:∀e∈es.toList,e.born<clock
  stamp:(es.toList.map (·.born)).Nodup
def MapG(T:MapT κ ν)(ok:κ->Prop)(m n:Nat)(f:κ->Option ν):Res where
  holds w S:=(∃es clock,w.heap[m]?=some (.map es clock)/\MapH T ok es clock n f)/\∀k,S k↔k=m
  keep:=λ⟨⟨es,c,h1,h2⟩,h3⟩ hk=>⟨⟨es,c,(hk m ((h3 m).2 rfl)).trans h1,h2⟩,h3⟩
  lt:=λ⟨⟨es,c,h1,_⟩,h3⟩ k hk=>by rw [(h3 k).1 hk];exact(bD.1 h1).1
def MapA(T:MapT κ ν)(ok:κ->Prop)(m n:Nat)(f:κ->Option ν)(w:yp):Prop:=∃es clock,w.heap[m]?=some (.map es clock)/\MapH T ok es clock n f
instance{m n:Nat}{f:κ->Option ν}:Pst (MapA T ok m n f):=⟨λ_ _ ⟨es,c,h1,h2⟩ hb=>⟨es,c,(hb.block m (bD.1 h1).1).trans h1,h2⟩⟩
def map_own{m n:Nat}{f:κ->Option ν}{L:ze}{R:zd}{F M:zv}(i:Nat)(hi:R[i]?=some (MapG T ok m n f)):∀G S w,View G S L R F M w->MapA T ok m n f w:=λ_ _ _ h=>by obtain⟨_,_,⟨h1,_⟩,_⟩:=h.res.at hi;exact h1
def putF[DecidableEq κ](f:κ->Option ν)(k:κ)(v:ν):κ->Option ν:=λx=>if x=k then some v else f x
def MapH.keys(hT:T.Ok ok){es:Array MapEntry}{clock n:Nat}{f:κ->Option ν}(h:MapH T ok es clock n f):∀e∈es.toList,∃l,keyOf prog T.kt e.key=some l:=λe he=>by obtain⟨k,v,hk,_,e1,_⟩:=h.of e he;rw [e1];exact hT.key k hk
def born_modify{es:Array MapEntry}{j:Nat}{g:MapEntry->MapEntry}(hg:∀e,(g e).born=e.born):(es.modify j g).toList.map (·.born)=es.toList.map (·.born):=by
 apply List.ext_getElem?;intro i;rw [cE,cE,c9,c9,pB];split
 .cases es[i]?<;>simp [hg]
 .rfl
def mapG_look(hT:T.Ok ok){w:yp}{m n:Nat}{es:Array MapEntry}{clock:Nat}{f:κ->Option ν}{k:κ}{v:ν}(hb:w.heap[m]?=some (.map es clock))(h:MapH T ok es clock n f)(hk:ok k)(hv:f k=some v) :
  (iM T.t (.map (some m)) (T.K k) true).run prog w = .ok (.tuple #[T.V v,.bool true]) w/\(iM T.t (.map (some m)) (T.K k) false).run prog w = .ok (T.V v) w:=by
 obtain⟨kl,hkl⟩:=hT.key k hk;have hck:=hT.keyed.check w es.isEmpty hkl
 rcases hT.keyed.find w hkl es.toList (h.keys hT) with⟨f1,f2⟩|⟨j,e,f1,f2,f3⟩
 .obtain⟨e,he,e1,_⟩:=h.at_ k v hv;exact absurd e1 (f2 e he)
 .obtain⟨k',v',_,hf,e1,e2⟩:=h.of e (aR f2)
  obtain rfl:k'=k:=hT.inj _ _ (e1.symm.trans f3);rw [hv] at hf;injection hf with hf;subst hf;have f1':(mN T.kt (T.K k') es.toList).run prog w = .ok (some (j,T.V v)) w:=by rw [<-e2];exact f1
  have hck':(oB es.isEmpty 10000 T.kt (T.K k')).run prog w = .ok () w:=hck;constructor<;>simp [iM,run_underlying hT.und,gI hb,hck',f1',gL]
def mapG_put[DecidableEq κ](hT:T.Ok ok){w:yp}{m n:Nat}{es:Array MapEntry}{clock:Nat}{f:κ->Option ν}{k:κ}(v:ν)(hb:w.heap[m]?=some (.map es clock))(h:MapH T ok es clock n f)(hk:ok k) :
  ∃w' es' c',(rH T.t (.map (some m)) (T.K k) (T.V v)).run prog w = .ok () w'/\w'.heap[m]?=some (.map es' c')/\MapH T ok es' c' (if (f k).isSome then n else n+1) (putF f k v)/\w.grownBy w' (some m):=by
 obtain⟨kl,hkl⟩:=hT.key k hk;have hck:(oB false 10000 T.kt (T.K k)).run prog w = .ok () w:=hT.keyed.check w false hkl;have hst:(Instr.keyThatStays (T.K k) (T.K k)).run prog w = .ok (T.K k) w:=hT.keyed.stays w hkl;have hgr:∀es' c',w.grownBy (iG w m (.map es' c')) (some m):=λes' c'=>⟨rfl,rfl,rfl,by simp [iG],λi _ hi=>ChangeMaps.heap_setBlock_other hb _ (λe=>hi (by rw [e]))⟩
 rcases hT.keyed.find w hkl es.toList (h.keys hT) with⟨f1,f2⟩|⟨j,e,f1,f2,f3⟩
 .have hno:f k=none:=by
   cases hf:f k with
   | none=>rfl
   | some v0 =>
    obtain⟨x,hx,e1,_⟩:=h.at_ k v0 hf;exact absurd e1 (f2 x hx)
  have f1':(mN T.kt (T.K k) es.toList).run prog w = .ok none w:=f1;refine⟨_,es.push { key:=T.K k,val:=T.V v,born:=clock },clock+1,?_,pL hb _,⟨?_,?_,?_,?_,?_,?_⟩,hgr _ _⟩
  .simp [rH,run_underlying hT.und,gI hb,sS _ hb,hck,f1',gL];rfl
  .rw [Array.size_push,h.size,hno];rfl
  .intro x hx
   rw [mH] at hx;rcases bK.1 hx with hx|hx
   .obtain⟨k1,v1,o1,h1,e1,e2⟩:=h.of x hx;refine⟨k1,v1,o1,?_,e1,e2⟩;unfold putF;rw [if_neg (λe=>by rw [e,hno] at h1;cases h1),h1]
   .obtain rfl:x={ key:=T.K k,val:=T.V v,born:=clock }:=by simpa using hx
    exact⟨k,v,hk,if_pos rfl,rfl,rfl⟩
  .intro k1 v1 h1
   rw [mH];unfold putF at h1;split at h1
   .rename_i e;subst e;injection h1 with h1;subst h1;exact⟨_,lI _ (aD.2 rfl),rfl,rfl⟩
   .obtain⟨x,hx,e1⟩:=h.at_ k1 v1 h1;exact⟨x,jA _ hx,e1⟩
  .intro i i' x y hx hy hxy
   rw [Array.getElem?_push] at hx hy;split at hx<;>split at hy
   .omega
   .injection hx with hx;subst hx;exact absurd hxy.symm (f2 y (by simpa using kB hy))
   .injection hy with hy;subst hy;exact absurd hxy (f2 x (by simpa using kB hx))
   .exact h.one i i' x y hx hy hxy
  .intro x hx
   rw [mH] at hx;rcases bK.1 hx with hx|hx
   .have:=h.born x hx;omega
   .obtain rfl:x={ key:=T.K k,val:=T.V v,born:=clock }:=by simpa using hx
    exact Nat.lt_succ_self _
  .rw [mH,bX]
   refine sP.2 ⟨h.stamp,by simp,λa ha b hb e=>?_⟩;obtain⟨x,hx,rfl⟩:=aZ.1 ha;have h1:=h.born x hx;have h2:b=clock:=by simpa using hb
   omega
 .have f4:es[j]?=some e:=by simpa using f2
  obtain⟨k0,v0,_,h0,e0,_⟩:=h.of e (aR f2);obtain rfl:k0=k:=hT.inj _ _ (e0.symm.trans f3);have f1':(mN T.kt (T.K k0) es.toList).run prog w = .ok (some (j,e.val)) w:=f1;have f3':e.key=T.K k0:=f3;have hat:∀i,(es.modify j λe=>{ e with key:=T.K k0,val:=T.V v })[i]?=if j=i then(es[i]?).map λe=>{ e with key:=T.K k0,val:=T.V v } else es[i]?:=λi=>by rw [pB]
  refine⟨_,es.modify j λe=>{ e with key:=T.K k0,val:=T.V v },clock,?_,pL hb _,⟨?_,?_,?_,?_,?_,?_⟩,hgr _ _⟩
  .simp [rH,run_underlying hT.und,gI hb,sS _ hb,hck,f1',f4,f3',hst,gL];rfl
  .rw [Array.size_modify,h.size,h0];rfl
  .intro x hx
   obtain⟨i,hi⟩:=jB hx;rw [c9,hat] at hi;split at hi
   .rename_i hji;subst hji;rw [f4] at hi;injection hi with hi;subst hi;exact⟨k0,v,hk,if_pos rfl,rfl,rfl⟩
   .rename_i hji;obtain⟨k1,v1,o1,h1,e1,e2⟩:=h.of x (by simpa using kB hi);refine⟨k1,v1,o1,?_,e1,e2⟩;unfold putF;rw [if_neg (λe=>hji (h.one j i _ _ f4 hi (by rw [f3',e1,e]))),h1]
  .intro k1 v1 h1
   unfold putF at h1;split at h1
   .rename_i e9;subst e9;injection h1 with h1;subst h1;refine⟨{ e with key:=T.K k1,val:=T.V v },?_,rfl,rfl⟩;refine aR (i:=j) ?_;rw [c9,hat,if_pos rfl,f4];rfl
   .rename_i hne;obtain⟨x,hx,e1,e2⟩:=h.at_ k1 v1 h1;obtain⟨i,hi⟩:=jB hx;rw [c9] at hi;refine⟨x,aR (i:=i) ?_,e1,e2⟩;rw [c9,hat,if_neg,hi];rintro rfl;rw [f4] at hi;injection hi with hi;subst hi;exact hne (hT.inj _ _ (e1.symm.trans f3))
  .have hkey:∀(i:Nat) (x:MapEntry),(es.modify j λe=>{ e with key:=T.K k0,val:=T.V v })[i]?=some x->∃y,es[i]?=some y/\y.key=x.key:=λi x hx=>by
    rw [hat] at hx;split at hx
    .rename_i hji;subst hji;rw [f4] at hx;injection hx with hx;subst hx;exact⟨e,f4,f3⟩
    .exact⟨x,hx,rfl⟩
   intro i i' x y hx hy hxy;obtain⟨x',hx',ex⟩:=hkey i x hx;obtain⟨y',hy',ey⟩:=hkey i' y hy;exact h.one i i' x' y' hx' hy' (by rw [ex,ey,hxy])
  .intro x hx;have hm:x.born∈(es.modify j λe=>{ e with key:=T.K k0,val:=T.V v }).toList.map (·.born):=aZ.2 ⟨x,hx,rfl⟩;rw [born_modify (g:=λe=>{ e with key:=T.K k0,val:=T.V v }) λ_=>rfl] at hm;obtain⟨y,hy,e9⟩:=aZ.1 hm;rw [<-e9];exact h.born y hy
  .rw [born_modify (g:=λe=>{ e with key:=T.K k0,val:=T.V v }) λ_=>rfl];exact h.stamp
def mapG_none(hT:T.Ok ok){w:yp}{m n:Nat}{es:Array MapEntry}{clock:Nat}{f:κ->Option ν}{k:κ}{z:ν}(hz:(zeroValue T.vt).run prog w = .ok (T.V z) w)(hb:w.heap[m]?=some (.map es clock))(h:MapH T ok es clock n f)(hk:ok k)(hv:f k=none) :
  (iM T.t (.map (some m)) (T.K k) true).run prog w = .ok (.tuple #[T.V z,.bool false]) w/\(iM T.t (.map (some m)) (T.K k) false).run prog w = .ok (T.V z) w:=by
 obtain⟨kl,hkl⟩:=hT.key k hk;have hck:(oB es.isEmpty 10000 T.kt (T.K k)).run prog w = .ok () w:=hT.keyed.check w es.isEmpty hkl
 rcases hT.keyed.find w hkl es.toList (h.keys hT) with⟨f1,f2⟩|⟨j,e,f1,f2,f3⟩
 .have f1':(mN T.kt (T.K k) es.toList).run prog w = .ok none w:=f1;constructor<;>simp [iM,run_underlying hT.und,gI hb,hck,f1',hz,gL]
 .obtain⟨k',v',_,hf,e1,_⟩:=h.of e (aR f2);obtain rfl:k'=k:=hT.inj _ _ (e1.symm.trans f3);rw [hv] at hf;cases hf
end
section
variable{b:Base}{ops:zp}{Q:zx}{N:Nat}{E:SE}{L:ze}{R:zd}{F M:zv}{o:Oper}{rest:zo}{k m n:Nat}{x y z:yo}{κ ν:Type}{T:MapT κ ν}{ok:κ->Prop}{f:κ->Option ν}
def l_mkG(T:MapT κ ν)(ok:κ->Prop)(hg:o.guard=none)(hd:o.dst=some k)(hk:aU k N=true)(ho:o.op = .makeMap T.t none)
 (hn:∀m,lS prog b ops Q N rest ⟨(k,.v (.map (some m)))::E,L,MapG T ok m 0 (λ_=>none)::R,F,M⟩):lS prog b ops Q N (o::rest) ⟨E,L,R,F,M⟩:=λa w ⟨G,S,f1,f2,f3⟩=>by
 obtain⟨S',h⟩:=f3.gain (w':=w.alloc (.map #[] 0)) ((Below.refl _ w).alloc (aF _) _) (r:=MapG T ok w.heap.size 0 (λ_=>none)) (S':=λk=>k=w.heap.size) ⟨⟨#[],0,heap_alloc_new w _,⟨rfl,λ_ h=>(by simp at h),λ_ _ h=>(by cases h),λi j e f h _ _=>(by simp at h),λ_ h=>(by simp at h),by simp⟩⟩,λ_=>iE⟩ λk hk=>by omega
 refine wpl_go (v:=.map (some w.heap.size)) (w':=w.alloc (.map #[] 0)) (oneS hg) (by unfold execOp;simp only [ho,Option.map_none,aG,run_makeMap,aC,aI]) ?_
 rw [hd];exact hn _ _ _ ⟨G,S',f1.put hk _,f2.cons trivial,h⟩
def l_updG[DecidableEq κ](hT:T.Ok ok)(i:Nat)(hi:R[i]?=some (MapG T ok m n f))(q:κ)(v:ν)(hq:ok q)(hg:o.guard=none)(hd:o.dst=none)(ho:o.op = .mapUpdate T.t x y z)(hx:evS E x=some (.v (.map (some m))))(hy:evS E y=some (.q (T.kv q)))(hz:evS E z=some (.q (T.vv v)))
 (hn:lS prog b ops Q N rest ⟨E,L,R.set i (MapG T ok m (if (f q).isSome then n else n+1) (putF f q v)),F,M⟩):lS prog b ops Q N (o::rest) ⟨E,L,R,F,M⟩:=λa w ⟨G,S,f1,f2,f3⟩=>by
 obtain⟨S1,⟨⟨es,c,hb,hok⟩,hS1⟩,hput⟩:=f3.put hi;have e1:a.eval x = .map (some m):=f1.eval (evS_ok hx);have e2:a.eval y=T.K q:=f1.eval (evS_ok hy);have e3:a.eval z=T.V v:=f1.eval (evS_ok hz);obtain⟨w',es',c',hr,hb',hok',hgr⟩:=mapG_put hT v hb hok hq;obtain⟨S'',h6⟩:=hput (MapG T ok m (if (f q).isSome then n else n+1) (putF f q v)) w' S1 ((Chg.of_grown hgr).mono λk _ hk=>(hS1 k).2 (bQ hk).symm) ⟨⟨es',c',hb',hok'⟩,hS1⟩ (λk hk _=>hk)
 refine wpl_skip (w':=w') (oneS hg) (by unfold execOp;simp only [ho,e1,e2,e3,hr,aG,aI,aC]) ?_
 rw [hd];exact hn _ _ ⟨G,S'',f1,f2,h6⟩
def runO_lookA(hT:T.Ok ok)(h:∀G S w,View G S L R F M w->MapA T ok m n f w)(q:κ)(v:ν)(hq:ok q)(hv:f q=some v)(ho:o.op = .lookup T.t x y false)(hx:evS E x=some (.v (.map (some m))))(hy:evS E y=some (.q (T.kv q))) :
  ∀(G:zk) (S:zm) (a:Act) (w:yp),Fr N (denE G E) a->View G S L R F M w->(execOp a.eval o).run prog w = .ok (.value ((SV.q (T.vv v)).den G)) w:=λG S a w f1 hw=>by
 obtain⟨es,c,hb,hok⟩:=h G S w hw;have e1:a.eval x = .map (some m):=f1.eval (evS_ok hx);have e2:a.eval y=T.K q:=f1.eval (evS_ok hy);have e3:(SV.q (T.vv v)).den G=T.V v:=rfl
 unfold execOp
 simp only [ho,e1,e2,e3,(mapG_look hT hb hok hq hv).2,aG,aI,aC]
def runO_lookA2(hT:T.Ok ok)(h:∀G S w,View G S L R F M w->MapA T ok m n f w)(q:κ)(v:ν)(hq:ok q)(hv:f q=some v)(ho:o.op = .lookup T.t x y true)(hx:evS E x=some (.v (.map (some m))))(hy:evS E y=some (.q (T.kv q))) :
  ∀(G:zk) (S:zm) (a:Act) (w:yp),Fr N (denE G E) a->View G S L R F M w->(execOp a.eval o).run prog w = .ok (.value ((SV.t [T.vv v,.c (.v (.bool true))]).den G)) w:=λG S a w f1 hw=>by
 obtain⟨es,c,hb,hok⟩:=h G S w hw;have e1:a.eval x = .map (some m):=f1.eval (evS_ok hx);have e2:a.eval y=T.K q:=f1.eval (evS_ok hy)
 unfold execOp
 simp only [ho,e1,e2,(mapG_look hT hb hok hq hv).1,aG,aI,aC]
 rfl
def runO_noneA(hT:T.Ok ok)(h:∀G S w,View G S L R F M w->MapA T ok m n f w)(q:κ)(v:ν)(hq:ok q)(hv:f q=none)(hzero:∀w,(zeroValue T.vt).run prog w = .ok (T.V v) w)(ho:o.op = .lookup T.t x y false)(hx:evS E x=some (.v (.map (some m))))(hy:evS E y=some (.q (T.kv q))) :
  ∀(G:zk) (S:zm) (a:Act) (w:yp),Fr N (denE G E) a->View G S L R F M w->(execOp a.eval o).run prog w = .ok (.value ((SV.q (T.vv v)).den G)) w:=λG S a w f1 hw=>by
 obtain⟨es,c,hb,hok⟩:=h G S w hw;have e1:a.eval x = .map (some m):=f1.eval (evS_ok hx);have e2:a.eval y=T.K q:=f1.eval (evS_ok hy);have e3:(SV.q (T.vv v)).den G=T.V v:=rfl
 unfold execOp
 simp only [ho,e1,e2,e3,(mapG_none hT (hzero w) hb hok hq hv).2,aG,aI,aC]
def runO_noneA2(hT:T.Ok ok)(h:∀G S w,View G S L R F M w->MapA T ok m n f w)(q:κ)(v:ν)(hq:ok q)(hv:f q=none)(hzero:∀w,(zeroValue T.vt).run prog w = .ok (T.V v) w)(ho:o.op = .lookup T.t x y true)(hx:evS E x=some (.v (.map (some m))))(hy:evS E y=some (.q (T.kv q))) :
  ∀(G:zk) (S:zm) (a:Act) (w:yp),Fr N (denE G E) a->View G S L R F M w->(execOp a.eval o).run prog w = .ok (.value ((SV.t [T.vv v,.c (.v (.bool false))]).den G)) w:=λG S a w f1 hw=>by
 obtain⟨es,c,hb,hok⟩:=h G S w hw;have e1:a.eval x = .map (some m):=f1.eval (evS_ok hx);have e2:a.eval y=T.K q:=f1.eval (evS_ok hy)
 unfold execOp
 simp only [ho,e1,e2,(mapG_none hT (hzero w) hb hok hq hv).1,aG,aI,aC]
 rfl
def runO_noneN(hT:T.Ok ok)(q:κ)(v:ν)(hq:ok q)(hzero:∀w,(zeroValue T.vt).run prog w = .ok (T.V v) w)(ho:o.op = .lookup T.t x y false)(hx:evS E x=some (.v (.map none)))(hy:evS E y=some (.q (T.kv q))) :
  ∀(G:zk) (S:zm) (a:Act) (w:yp),Fr N (denE G E) a->View G S L R F M w->(execOp a.eval o).run prog w = .ok (.value ((SV.q (T.vv v)).den G)) w:=λG S a w f1 _=>by
 obtain⟨kl,hkl⟩:=hT.key q hq;have e1:a.eval x = .map none:=f1.eval (evS_ok hx);have e2:a.eval y=T.K q:=f1.eval (evS_ok hy);have e3:(SV.q (T.vv v)).den G=T.V v:=rfl;have hck:(oB true 10000 T.kt (T.K q)).run prog w = .ok () w:=hT.keyed.check w true hkl
 have hf:(mN T.kt (T.K q) []).run prog w = .ok none w:=by
  rcases hT.keyed.find w hkl [] (λ_ h=>by cases h) with⟨f1,_⟩|⟨j,e,_,f2,_⟩
  .exact f1
  .cases f2
 have hl:(iM T.t (.map none) (T.K q) false).run prog w = .ok (T.V v) w:=by simp [iM,run_underlying hT.und,hck,hf,hzero w,gL]
 unfold execOp
 simp only [ho,e1,e2,e3,hl,aG,aI,aC]
def runO_lenA(hT:T.Ok ok)(h:∀G S w,View G S L R F M w->MapA T ok m n f w)(ho:o.op = .call { callee:=.builtin .len,args:=#[x],argTypes:=#[T.t] })(hx:evS E x=some (.v (.map (some m)))) :
  ∀(G:zk) (S:zm) (a:Act) (w:yp),Fr N (denE G E) a->View G S L R F M w->(execOp a.eval o).run prog w = .ok (.value ((SV.v (.int .i64 (n:Int))).den G)) w:=λG S a w f1 hw=>by
 obtain⟨es,c,hb,hok⟩:=h G S w hw;have e1:a.eval x = .map (some m):=f1.eval (evS_ok hx)
 have hl:(nM #[T.t] o.type #[.map (some m)]).run prog w = .ok (.int .i64 (n:Int)) w:=by rw [<-hok.size];simp [nM,run_underlying hT.und,gI hb,goInt]
 unfold execOp
 simp only [ho];generalize a.eval=ρ at *
 show _=mQ (mB (.int .i64 (n:Int))) w
 go_simp
def runO_lenN(hT:T.Ok ok)(ho:o.op = .call { callee:=.builtin .len,args:=#[x],argTypes:=#[T.t] })(hx:evS E x=some (.v (.map none))) :
  ∀(G:zk) (S:zm) (a:Act) (w:yp),Fr N (denE G E) a->View G S L R F M w->(execOp a.eval o).run prog w = .ok (.value ((SV.v (.int .i64 ((0:Nat):Int))).den G)) w:=λG S a w f1 _=>by
 have e1:a.eval x = .map none:=f1.eval (evS_ok hx)
 have hl:(nM #[T.t] o.type #[.map none]).run prog w = .ok (.int .i64 ((0:Nat):Int)) w:=by simp [nM,run_underlying hT.und,goInt]
 unfold execOp
 simp only [ho];generalize a.eval=ρ at *
 show _=mQ (mB (.int .i64 ((0:Nat):Int))) w
 go_simp
end
def mapI_ok{K:IntKind}{ν:Type}{T:MapT Int ν}(hu:prog.underlying T.t=some (.map T.kt T.vt))(hk:prog.underlying T.kt=some (.int K))(hkv:T.kv=λn=>.c (.v (.int K n))):T.Ok λn=>(Lit.int K n).wf=true where
 und:=hu
 keyed:=Maps.int_keyed hk
 key k h:=by rw [hkv];exact⟨_,Maps.keyOf_int_mk hk h⟩
 inj k k' h:=by rw [hkv] at h;injection h
section
variable{κ ν:Type}{T:MapT κ ν}{ok:κ->Prop}{es:Array MapEntry}{clock n m r:Nat}{f:κ->Option ν}{seen:Array Nat}{done:List (κ×ν)}
structure DidM(T:MapT κ ν)(ok:κ->Prop)(es:Array MapEntry)(f:κ->Option ν)(seen:Array Nat)(done:List (κ×ν)):Prop where
  in_:∀d∈done,ok d.1/\f d.1=some d.2
  nodup:(done.map (·.1)).Nodup
  iff_:∀x∈es.toList,seen.contains x.born=true↔∃d∈done,x.key=T.K d.1
def DidM.nil:DidM T ok es f #[] []:=⟨λ_ h=>(by cases h),List.nodup_nil,λx _=>by simp⟩
theorem born_one{l:List MapEntry}(h:(l.map (·.born)).Nodup):∀{x y:MapEntry},x∈l->y∈l->x.born=y.born->x=y:=by
 induction l with
 | nil=>intro x _ hx;cases hx
 | cons a l ih =>
  intro x y hx hy e
  obtain⟨h1,h2⟩:=List.nodup_cons.1 h
  rcases aH.1 hx with e1|hx2<;>rcases aH.1 hy with e2|hy2
  .rw [e1,e2]
  .exact absurd (aZ.2 ⟨y,hy2,by rw [<-e,e1]⟩) h1
  .exact absurd (aZ.2 ⟨x,hx2,by rw [e,e2]⟩) h1
  .exact ih h2 hx2 hy2 e
def DidM.next(hH:MapH T ok es clock n f)(h:DidM T ok es f seen done){e:MapEntry}(he:e∈(leftOf es seen).toList):∃k v,ok k/\f k=some v/\e.key=T.K k/\e.val=T.V v/\(∀d∈done,d.1≠k)/\DidM T ok es f (seen.push e.born) (done++[(k,v)]):=by
 obtain⟨h1,h2⟩:=mem_left he;obtain⟨k,v,hk,hf,e1,e2⟩:=hH.of e h1;have hne:∀d∈done,d.1≠k:=λd hd hdk=>by have:=(h.iff_ e h1).2 ⟨d,hd,by rw [e1,hdk]⟩;rw [h2] at this;cases this
 refine⟨k,v,hk,hf,e1,e2,hne,⟨?_,?_,?_⟩⟩
 .intro d hd
  rcases bK.1 hd with hd|hd
  .exact h.in_ d hd
  .rw [aD.1 hd];exact⟨hk,hf⟩
 .rw [bX];refine sP.2 ⟨h.nodup,by simp,λa ha b hb e=>?_⟩;obtain⟨d,hd,rfl⟩:=aZ.1 ha;exact hne d hd (e.trans (by simpa using hb))
 .intro x hx
  rw [contains_push,Bool.or_eq_true,h.iff_ x hx];constructor
  .rintro(⟨d,hd,e3⟩|e3)
   .exact⟨d,jA _ hd,e3⟩
   .obtain rfl:=born_one hH.stamp hx h1 (by simpa using e3);exact⟨(k,v),lI _ (aD.2 rfl),e1⟩
  .rintro⟨d,hd,e3⟩
   rcases bK.1 hd with hd|hd
   .exact .inl ⟨d,hd,e3⟩
   .rw [aD.1 hd] at e3;obtain⟨i,hi⟩:=jB hx;obtain⟨j,hj⟩:=jB h1;have:=hH.one i j x e (by simpa using hi) (by simpa using hj) (by rw [e3,e1]);subst this;rw [hi] at hj;injection hj with hj;subst hj;exact .inr (by simp)
def DidM.all(hT:T.Ok ok)(hH:MapH T ok es clock n f)(h:DidM T ok es f seen done)(h0:(leftOf es seen).size=0){k:κ}{v:ν}(hv:f k=some v):(k,v)∈done:=by obtain⟨e,he,e1,_⟩:=hH.at_ k v hv;obtain⟨d,hd,e2⟩:=(h.iff_ e he).1 (all_seen es seen h0 e he);have e3:d.1=k:=hT.inj _ _ (e2.symm.trans e1);have e4:=(h.in_ d hd).2;rw [e3,hv] at e4;injection e4 with e4;obtain⟨a,b⟩:=d;simp only at e3 e4;rw [<-e3,e4];exact hd
def LastM(T:MapT κ ν)(es:Array MapEntry)(seen:Array Nat)(q:κ)(v:ν):Prop:=∃e∈es.toList,∃s0:Array Nat,seen=s0.push e.born/\e.key=T.K q/\e.val=T.V v
def MapB(m:Nat)(es:Array MapEntry)(clock:Nat):Res where
  holds w S:=w.heap[m]?=some (.map es clock)/\∀k,S k↔k=m
  keep:=λ⟨h1,h2⟩ hk=>⟨(hk m ((h2 m).2 rfl)).trans h1,h2⟩
  lt:=λ⟨h1,h2⟩ k hk=>by rw [(h2 k).1 hk];exact(bD.1 h1).1
def MapE(m:Nat)(es:Array MapEntry)(clock:Nat)(w:yp):Prop:=w.heap[m]?=some (.map es clock)
instance:Pst (MapE m es clock):=⟨λ_ _ h hb=>(hb.block m (bD.1 h).1).trans h⟩
def ItR(m:zh)(r clock:Nat)(seen:Array Nat):Res where
  holds w S:=w.heap[r]?=some (.mapIter m clock seen clock)/\∀k,S k↔k=r
  keep:=λ⟨h1,h2⟩ hk=>⟨(hk r ((h2 r).2 rfl)).trans h1,h2⟩
  lt:=λ⟨h1,h2⟩ k hk=>by rw [(h2 k).1 hk];exact(bD.1 h1).1
end
section
variable{κ ν:Type}{T:MapT κ ν}{ok:κ->Prop}{es:Array MapEntry}{clock n m r:Nat}{f:κ->Option ν}{seen:Array Nat}{done:List (κ×ν)}
variable{b:Base}{G:zk}{S:zm}{ops:zp}{Q:zx}{N:Nat}{E:SE}{L:ze}{R:zd}{F M:zv}{o:Oper}{rest l:zo}{k:Nat}{x:yo}{t kt e:yn}{w:yp}
def mapE_own(i:Nat)(hi:R[i]?=some (MapB m es clock)):∀G S w,View G S L R F M w->MapE m es clock w:=λ_ _ _ h=>by obtain⟨_,_,⟨h1,_⟩,_⟩:=h.res.at hi;exact h1
def StW.openG(h:StW b G S L R F M w){i:Nat}(hi:R[i]?=some (MapG T ok m n f)):∃es clock S',MapH T ok es clock n f/\StW b G S' L (R.set i (MapB m es clock)) F M w:=by obtain⟨S1,⟨⟨es,c,h1,h2⟩,h3⟩,h4⟩:=h.put hi;obtain⟨S'',h5⟩:=h4 (MapB m es c) w S1 (Chg.refl _ _) ⟨h1,h3⟩ λ_ hk _=>hk;exact⟨es,c,S'',h2,h5⟩
def StW.closeG(h:StW b G S L R F M w){i:Nat}(hi:R[i]?=some (MapB m es clock))(hH:MapH T ok es clock n f):∃S',StW b G S' L (R.set i (MapG T ok m n f)) F M w:=by obtain⟨S1,⟨h1,h3⟩,h4⟩:=h.put hi;exact h4 (MapG T ok m n f) w S1 (Chg.refl _ _) ⟨⟨es,clock,h1,hH⟩,h3⟩ λ_ hk _=>hk
def l_openG(i:Nat)(hi:R[i]?=some (MapG T ok m n f))(hn:∀es clock,MapH T ok es clock n f->lS prog b ops Q N l ⟨E,L,R.set i (MapB m es clock),F,M⟩):lS prog b ops Q N l ⟨E,L,R,F,M⟩:=λa w ⟨G,S,h1,h2,h3⟩=>by obtain⟨es,c,S',h4,h5⟩:=h3.openG hi;exact hn es c h4 a w ⟨G,S',h1,h2,h5⟩
def k_openG{K:zw}(i:Nat)(hi:R[i]?=some (MapG T ok m n f))(hn:∀es clock,MapH T ok es clock n f->kS b K N ⟨E,L,R.set i (MapB m es clock),F,M⟩):kS b K N ⟨E,L,R,F,M⟩:=λa w ⟨G,S,h1,h2,h3⟩=>by obtain⟨es,c,S',h4,h5⟩:=h3.openG hi;exact hn es c h4 a w ⟨G,S',h1,h2,h5⟩
def k_closeG{K:zw}(T:MapT κ ν)(i:Nat)(hi:R[i]?=some (MapB m es clock))(hH:MapH T ok es clock n f)(hn:kS b K N ⟨E,L,R.set i (MapG T ok m n f),F,M⟩):kS b K N ⟨E,L,R,F,M⟩:=λa w ⟨G,S,h1,h2,h3⟩=>by obtain⟨S',h5⟩:=h3.closeG hi hH;exact hn a w ⟨G,S',h1,h2,h5⟩
def StW.freeB(h:StW b G S L R F M w){i:Nat}(hi:R[i]?=some (MapB m es clock)):∃S',StW b G S' L (R.eraseIdx i) (λw=>MapE m es clock w/\F w) M w:=by
 obtain⟨S1,S2,h1,h2,h3,h4⟩:=h.let hi;refine⟨S2,h4.and λw' hw=>?_⟩;have hg:S1 m:=(h1.2 m).2 rfl;refine(hw.block m (bD.1 h1.1).1 ?_).trans h1.1;rintro(hx|hx|⟨j,hj,e⟩)
 .obtain⟨hx1,hx2⟩:=h.old m hx;exact hx2 (h.mine m (.inl ((h3 m).2 (.inl hg))) hx1)
 .exact h2 m hg hx
 .exact h.sep j hj (by rw [e];exact(h3 m).2 (.inl hg))
def k_freeB{K:zw}(i:Nat)(hi:R[i]?=some (MapB m es clock))(hn:kS b K N ⟨E,L,R.eraseIdx i,λw=>MapE m es clock w/\F w,M⟩):kS b K N ⟨E,L,R,F,M⟩:=λa w ⟨G,S,h1,h2,h3⟩=>by obtain⟨S',h4⟩:=h3.freeB hi;exact hn a w ⟨G,S',h1,h2,h4⟩
def l_rangeM(hg:o.guard=none)(hd:o.dst=some k)(hk:aU k N=true)(ho:o.op = .range t x)(hu:prog.underlying t=some (.map kt e))(hx:evS E x=some (.v (.map (some m))))(hv:∀G S w,View G S L R F M w->MapE m es clock w)
 (hn:∀r,lS prog b ops Q N rest ⟨(k,.v (.pointer (some ⟨r,0,none⟩)))::E,L,ItR (some m) r clock #[]::R,F,M⟩):lS prog b ops Q N (o::rest) ⟨E,L,R,F,M⟩:=λa w ⟨G,S,f1,f2,f3⟩=>by
 have e1:a.eval x = .map (some m):=f1.eval (evS_ok hx)
 obtain⟨S',h⟩:=f3.gain (w':=w.alloc (.mapIter (some m) clock #[] clock)) ((Below.refl _ w).alloc (aF _) _) (r:=ItR (some m) w.heap.size clock #[]) (S':=λk=>k=w.heap.size) ⟨heap_alloc_new w _,λ_=>iE⟩ λk hk=>by omega
 refine wpl_go (v:=.pointer (some ⟨w.heap.size,0,none⟩)) (w':=w.alloc (.mapIter (some m) clock #[] clock)) (oneS hg) (by unfold execOp;simp only [ho,e1,aG,run_range_map w t kt e m es clock hu (hv G S w f3.view),aC,aI]) ?_
 rw [hd];exact hn _ _ _ ⟨G,S',f1.put hk _,f2.cons trivial,h⟩
def l_rangeN(hg:o.guard=none)(hd:o.dst=some k)(hk:aU k N=true)(ho:o.op = .range t x)(hu:prog.underlying t=some (.map kt e))(hx:evS E x=some (.v (.map none)))
 (hn:∀r,lS prog b ops Q N rest ⟨(k,.v (.pointer (some ⟨r,0,none⟩)))::E,L,ItR none r 0 #[]::R,F,M⟩):lS prog b ops Q N (o::rest) ⟨E,L,R,F,M⟩:=λa w ⟨G,S,f1,f2,f3⟩=>by
 have e1:a.eval x = .map none:=f1.eval (evS_ok hx)
 obtain⟨S',h⟩:=f3.gain (w':=w.alloc (.mapIter none 0 #[] 0)) ((Below.refl _ w).alloc (aF _) _) (r:=ItR none w.heap.size 0 #[]) (S':=λk=>k=w.heap.size) ⟨heap_alloc_new w _,λ_=>iE⟩ λk hk=>by omega
 refine wpl_go (v:=.pointer (some ⟨w.heap.size,0,none⟩)) (w':=w.alloc (.mapIter none 0 #[] 0)) (oneS hg) (by unfold execOp;simp only [ho,e1,aG,run_range_nilMap w t kt e hu,aC,aI]) ?_
 rw [hd];exact hn _ _ _ ⟨G,S',f1.put hk _,f2.cons trivial,h⟩
def l_nextM(hH:MapH T ok es clock n f)(hD:DidM T ok es f seen done)(hko:∀q,ok q->(T.kv q).Ok)(hvo:∀v,(T.vv v).Ok)(i:Nat)(hi:R[i]?=some (ItR (some m) r clock seen))(hg:o.guard=none)(hd:o.dst=some k)(hk:aU k N=true)(ho:o.op = .next x false)(hx:evS E x=some (.v (.pointer (some ⟨r,0,none⟩))))(hv:∀G S w,View G S L R F M w->MapE m es clock w)
 (h0:(leftOf es seen).size=0->lS prog b ops Q N rest ⟨(k,.t [.c (.v (.bool false))])::E,L,R,F,M⟩)
 (h1:∀q v seen',ok q->f q=some v->(∀d∈done,d.1≠q)->(leftOf es seen').size<(leftOf es seen).size->LastM T es seen' q v->DidM T ok es f seen' (done++[(q,v)])->lS prog b ops Q N rest ⟨(k,.t [.c (.v (.bool true)),T.kv q,T.vv v])::E,L,R.set i (ItR (some m) r clock seen'),F,M⟩):lS prog b ops Q N (o::rest) ⟨E,L,R,F,M⟩:=λa w ⟨G,S,f1,f2,f3⟩=>by
 have e1:a.eval x = .pointer (some ⟨r,0,none⟩):=f1.eval (evS_ok hx);have hb:=hv G S w f3.view;obtain⟨S1,⟨hr,hS1⟩,hput⟩:=f3.put hi
 rcases run_next_at (P:=prog) w o.type r m clock clock seen es clock hr hb hH.born (aF _) with⟨h2,hrun⟩|⟨e,he,w1,hal,hrun⟩
 .refine wpl_go (v:=.tuple #[.bool false]) (w':=w) (oneS hg) (by
   unfold execOp;simp only [ho,e1,aG,hrun,aC,aI]) ?_
  rw [hd];exact h0 h2 _ _ ⟨G,S,f1.put hk _,f2.cons (one_ok trivial),f3⟩
 .obtain⟨q,v,hq,hf,ek,ev,hne,hD'⟩:=hD.next hH he
  have hr1:w1.heap[r]?=some (.mapIter (some m) clock seen clock):=by rcases hal with rfl|rfl<;>exact hr
  have hset:=MapKept.heap_set (o':=.mapIter (some m) clock (seen.push e.born) clock) hr1;have hgr:w.grownBy (iG w1 r (.mapIter (some m) clock (seen.push e.born) clock)) (some r):=by rcases hal with rfl|rfl<;>exact⟨rfl,rfl,rfl,by simp [iG],λi _ hi=>hset.2 i (λe=>hi (by rw [e]))⟩
  obtain⟨S'',h6⟩:=hput (ItR (some m) r clock (seen.push e.born)) _ S1 ((Chg.of_grown hgr).mono λk _ hk=>(hS1 k).2 (bQ hk).symm) ⟨hset.1,hS1⟩ λ_ hk _=>hk;refine wpl_go (v:=.tuple #[.bool true,e.key,e.val]) (w':=iG w1 r (.mapIter (some m) clock (seen.push e.born) clock)) (oneS hg) (by unfold execOp;simp only [ho,e1,aG,hrun,aC,aI]) ?_;rw [hd,ek,ev];exact h1 q v _ hq hf hne (left_shrinks es seen e he) ⟨e,(mem_left he).1,seen,rfl,ek,ev⟩ hD' _ _ ⟨G,S'',f1.put hk _,f2.cons (more_ok trivial (two_ok (hko q hq) (hvo v))),h6⟩
def l_nextN(i:Nat)(hi:R[i]?=some (ItR none r clock seen))(hg:o.guard=none)(hd:o.dst=some k)(hk:aU k N=true)(ho:o.op = .next x false)(hx:evS E x=some (.v (.pointer (some ⟨r,0,none⟩))))
 (h0:lS prog b ops Q N rest ⟨(k,.t [.c (.v (.bool false))])::E,L,R,F,M⟩):lS prog b ops Q N (o::rest) ⟨E,L,R,F,M⟩:=λa w ⟨G,S,f1,f2,f3⟩=>by
 have e1:a.eval x = .pointer (some ⟨r,0,none⟩):=f1.eval (evS_ok hx);obtain⟨S1,⟨hr,hS1⟩, -⟩:=f3.put hi
 have hrun:(Instr.next (.pointer (some ⟨r,0,none⟩)) false o.type).run prog w = .ok (.tuple #[.bool false]) w:=by simp [Instr.next,getObj,aG,Sem.run,hr,gL]
 refine wpl_go (v:=.tuple #[.bool false]) (w':=w) (oneS hg) (by unfold execOp;simp only [ho,e1,aG,hrun,aC,aI]) ?_
 rw [hd];exact h0 _ _ ⟨G,S,f1.put hk _,f2.cons (one_ok trivial),f3⟩
def runO_entry{q:κ}{v:ν}(hH:MapH T ok es clock n f)(i:Nat)(hi:R[i]?=some (ItR (some m) r clock seen))(hl:LastM T es seen q v)(hv:∀G S w,View G S L R F M w->MapE m es clock w)(ho:o.op = .entry x)(hx:evS E x=some (.v (.pointer (some ⟨r,0,none⟩)))) :
  ∀(G:zk) (S:zm) (a:Act) (w:yp),Fr N (denE G E) a->View G S L R F M w->(execOp a.eval o).run prog w = .ok (.value ((SV.t [T.kv q,T.vv v]).den G)) w:=λG S a w f1 hw=>by
 have e1:a.eval x = .pointer (some ⟨r,0,none⟩):=f1.eval (evS_ok hx);obtain⟨_,_,⟨hr,_⟩,_⟩:=hw.res.at hi;obtain⟨e,he,s0,rfl,ek,ev⟩:=hl;have hrun:=run_entry_at (P:=prog) w r m clock s0 es clock e hr (hv G S w hw) he hH.stamp
 unfold execOp
 simp only [ho,e1,hrun,ek,ev,aG,aI,aC]
 rfl
def l_mkGn{y:yo}{K:IntKind}{z:Int}(T:MapT κ ν)(ok:κ->Prop)(hT:T.Ok ok)(hg:o.guard=none)(hd:o.dst=some k)(hk:aU k N=true)(ho:o.op = .makeMap T.t (some y))(hy:evS E y=some (.v (.int K z)))
 (hn:∀m,lS prog b ops Q N rest ⟨(k,.v (.map (some m)))::E,L,MapG T ok m 0 (λ_=>none)::R,F,M⟩):lS prog b ops Q N (o::rest) ⟨E,L,R,F,M⟩:=λa w ⟨G,S,f1,f2,f3⟩=>by
 have e1:a.eval y = .int K z:=f1.eval (evS_ok hy)
 obtain⟨S',h⟩:=f3.gain (w':=w.alloc (.map #[] 0)) ((Below.refl _ w).alloc (aF _) _) (r:=MapG T ok w.heap.size 0 (λ_=>none)) (S':=λk=>k=w.heap.size) ⟨⟨#[],0,heap_alloc_new w _,⟨rfl,λ_ h=>(by simp at h),λ_ _ h=>(by cases h),λi j e f h _ _=>(by simp at h),λ_ h=>(by simp at h),by simp⟩⟩,λ_=>iE⟩ λk hk=>by omega
 have hrun:(Instr.makeMap T.t (some (.int K z))).run prog w = .ok (.map (some w.heap.size)) (w.alloc (.map #[] 0)):=by simp [Instr.makeMap,run_underlying hT.und,asInt,gL];rfl
 refine wpl_go (v:=.map (some w.heap.size)) (w':=w.alloc (.map #[] 0)) (oneS hg) (by unfold execOp;simp only [ho,Option.map_some,e1,aG,hrun,aC,aI]) ?_
 rw [hd];exact hn _ _ _ ⟨G,S',f1.put hk _,f2.cons trivial,h⟩
end
end Go.Proofs.Q
namespace Go.Proofs.Q
open Go.RowKit Go.IntWalk Nums
def nilH:HSeg:=⟨none,0,[]⟩
theorem keysD_mem:∀{l:zc} {id:zu},bO l id≠[]->(id,bO l id)∈l
 | [],_,h=>(h rfl).elim
 | e::l,id,h=>by
  rw [dL] at h ⊢;by_cases c:e.1=id
  .rw [if_pos c];rw [<-c];exact aM
  .rw [if_neg c] at h ⊢;exact aK _ (keysD_mem h)
def SmallD(l:zc):Prop:=∀e∈l,e.2.length<=64
def SmallD.keys{l:zc}(h:SmallD l)(id:zu):(bO l id).length<=64:=by
 by_cases c:bO l id=[]
 .rw [c];exact aL _
 .exact h _ (keysD_mem c)
def SmallD.put{l:zc}{id:zu}{ks:zy}(h:SmallD l)(hk:ks.length<=64):SmallD (j7 l id ks):=λe he=>by
 rcases lR he with rfl|he
 .exact hk
 .exact h e he
noncomputable def udH(u:UV):UD:=⟨u.id,u.ver,u.key,signB u⟩
def signB_ver{u:UV}(h:signB u=true):1<=u.ver/\u.ver<=64:=by unfold signB at h;rw [aN] at h;exact of_decide_eq_true h.1
def okD_iff{l:zc}{u:UV}:okD l (udH u)=true↔(signB u=true/\u.ver=((bO l u.id).length:Int)+1):=by unfold okD udH;rw [aN,decide_eq_true_eq]
def SmallD.step{l:zc}(h:SmallD l)(u:UV):SmallD (fR l (udH u)):=by
 unfold fR;split
 .rename_i hk;obtain⟨h1,h2⟩:=okD_iff.1 hk;have h3:=signB_ver h1;refine h.put ?_;show(bO l u.id++[u.key]).length<=64;rw [aA];show(bO l u.id).length+1<=64;omega
 .exact h
theorem putD_len:∀(l:zc) (id:zu) (ks:zy),(j7 l id ks).length<=l.length+1
 | [],_,_=>aF _
 | e::l,id,ks=>by
  unfold j7;split
  .exact Nat.succ_le_succ (putD_len l id ks)
  .split
   .exact qS _
   .exact aF _
def stepD_len(l:zc)(u:UD):(fR l u).length<=l.length+1:=by
 unfold fR;split
 .exact putD_len _ _ _
 .exact qS _
def Tells(h:zu->Option HSeg)(l:zc):Prop:=∀k,(∀s,h k=some s->s.l≠[]/\bO l k=s.l)/\(h k=none->bO l k=[])
def Tells.nil:Tells (λ_=>none) []:=λ_=>⟨λ_ h=>(by cases h),λ_=>rfl⟩
def Tells.put{h:zu->Option HSeg}{l:zc}(ht:Tells h l)(k:zu)(s:HSeg)(hs:s.l≠[]):Tells (putF h k s) (j7 l k s.l):=λx=>by
 unfold putF;rw [jP];by_cases c:x=k
 .rw [if_pos c,if_pos c];exact⟨λs' e=>by injection e with e;subst e;exact⟨hs,rfl⟩,λe=>by cases e⟩
 .rw [if_neg c,if_neg c];exact ht x
def overK(g:zu->Option HSeg)(l:zc)(k:zu):zy:=match g k with
  | some s=>if s.l=[] then bO l k else s.l
  | none=>bO l k
abbrev entD(d:zu×HSeg):EntD:=(d.1,d.2.l)
def buildD_one(l es:zc)(e:EntD):iP l (es++[e])=if e.2=[] then iP l es else j7 (iP l es) e.1 e.2:=by unfold iP;rw [List.foldl_append];rfl
theorem over_done{g:zu->Option HSeg}{l:zc}{done:List (zu×HSeg)}(hn:(done.map (·.1)).Nodup)(h1:∀d∈done,g d.1=some d.2)(h2:∀k s,g k=some s->(k,s)∈done)(k:zu):bO (iP l (done.map entD)) k=overK g l k:=by
 have hp:(done.map entD).Pairwise λa b=>a.1≠b.1:=by rw [sO];exact sO.1 hn
 rw [mY hp];unfold overK;cases hg:g k with
 | none =>
  rw [o8 λe he hk=>?_,if_pos rfl];obtain⟨d,hd,rfl⟩:=aZ.1 he;have:=h1 d hd;rw [show d.1=k from hk,hg] at this
  cases this
 | some s =>
  have:=mX hp (aZ.2 ⟨_,h2 k s hg,rfl⟩);rw [show bO (done.map entD) k=s.l from this]
def over_none{g:zu->Option HSeg}(h:∀k,g k=none)(l:zc)(k:zu):overK g l k=bO l k:=by unfold overK;rw [h k]
theorem MapH.zero{κ ν:Type}{T:MapT κ ν}{ok:κ->Prop}{es:Array MapEntry}{clock:Nat}{f:κ->Option ν}(h:MapH T ok es clock 0 f)(k:κ):f k=none:=by
 cases hf:f k with
 | none=>rfl
 | some v =>
  obtain⟨e,he,_⟩:=h.at_ k v hf;have:=h.size;have h0:es.toList=[]:=List.eq_nil_of_length_eq_zero (by simpa using this);rw [h0] at he
  cases he
end Go.Proofs.Q
namespace Go.Proofs.Q
open Go.RowKit Go.IntWalk
abbrev FW(ro:zh):Fence:={ nJ with round:=ro }
class NoOut (Q:zx):Prop where
  no:∀a w,¬Q .outgrown a w
instance{K:zw}{Q:zx}[h:NoOut Q]:NoOut (Exit.then K Q):=⟨λa w hq=>h.no a w hq⟩
instance{id:Nat}{Q:zx}[h:NoOut Q]:NoOut (k7 id Q):=⟨λa w hq=>h.no a w hq⟩
instance{Q:zx}[h:NoOut Q]:NoOut (NoPanic Q):=⟨λa w hq=>h.no a w hq⟩
def calls_in{ro:zh}{n:Nat}{P:Program}{f:FuncId}{args:zr}{w:yp}{R:Ending->zv}(h:Calls P f args w R):CallsIn (FW ro) n P f args w R:=(callsIn_wide (n:=n)).2 h
def rows_in{ro:zh}{n:Nat}{P:Program}{row:String}{args:zr}{w:yp}{R:Value->zv}(h:Rows P row args w R):RowsIn (FW ro) n P row args w R:=λc cs _=>by obtain⟨v,w',r,s⟩:=h c cs;exact⟨v,w',r,(stepsIn_wide (P:=P)).2 s⟩
section
variable{P:Program}{ro:zh}{n:Nat}{Q:zx}{ops:zp}
def op_in[hQ:NoOut Q]{o:Oper}{a:Act}{w:yp}{next:zw}(hd:∀c,o.op ≠ .defer c)(h:o.wp P a w next Q\/(o.asks P a w/\LetsOut Q)):o.wpIn (FW ro) n P a w next Q:=by
 rcases h with h|⟨_,a',w',h⟩
 .refine⟨λ_ _=>trivial,?_⟩
  rw [Oper.semAt_eq _ _ _ hd];unfold fT at h;generalize (execOp a.eval o).run P w=r at *;cases r with
  | ok x w' =>
   cases x with
   | enter f args=>exact⟨λe=>(by cases e),calls_in h⟩
   | row row args=>exact⟨λe=>(by cases e),rows_in h⟩
   | _=>first|exact h|exact h.elim
  | halt x w'=>cases x<;>exact h
 .exact absurd h (hQ.no a' w')
def noDef(l:zo):Bool:=l.all λo=>match o.op with | .defer _=>false|_=>true
def noDef_mem{l:zo}(h:noDef l=true){o:Oper}(ho:o∈l):∀c,o.op ≠ .defer c:=λc e=>by have:=b7.1 h o ho;rw [e] at this;cases this
theorem list_in[NoOut Q]:∀{l:zo} {a:Act} {w:yp},noDef l=true->wpList P ops Q l a w->wpListIn (FW ro) n P ops Q l a w
 | [],_,_,_,h=>h
 | o::l,a,w,hd,h=>by
  have hd':noDef l=true:=by unfold noDef at hd ⊢;rw [List.all_cons,aN] at hd;exact hd.2
  unfold wpList at h;unfold wpListIn;split
  .rename_i hw;rw [if_pos hw] at h;exact op_in (noDef_mem hd aM) (h.imp (Oper.wp_mono λa' w' h'=>list_in hd' h') id)
  .rename_i hw;rw [if_neg hw] at h;exact⟨λ_ _=>trivial,list_in hd' h⟩
end
def rS(ro:zh)(n:Nat)(b:Base)(c:Code)(Q:zx)(N:Nat)(e:Env):Prop:=∀a w,St b N e a w->c.wpIn (FW ro) n prog Q a w
section
variable{T:yw}{ro:zh}{n:Nat}{b:Base}{Q:zx}{N:Nat}{e e':Env}{E:SE}{L:ze}{R:zd}{F M:zv}{id:Nat}{l l':zo}{x y:Code}
def r_seq(h:∀K:zw,(∀e',rS ro n b y Q N e'->kS b K N e')->rS ro n b x (Exit.then K Q) N e):rS ro n b (.seq x y) Q N e:=λa w hs =>
 wpIn_seq_k λK hK=>h K (λ_ h' a' w' hs'=>hK _ _ (h' a' w' hs')) a w hs
def r_lit[NoOut Q](hd:noDef l=true)(h:lS prog b l.toArray Q N l e):rS ro n b (.region id l.toArray false) Q N e:=λa w hs=>wpIn_region_lit (list_in hd (h a w hs))
def r_auto{E':SE}{L':ze}[NoOut Q](hd:noDef l=true)(hT:OkT prog T)(h:autoS T l.toArray N l E L=([],E',L'))(hn:rS ro n b y Q N ⟨E',L',R,F,M⟩):rS ro n b (.seq (.region id l.toArray false) y) Q N ⟨E,L,R,F,M⟩ :=
 r_seq λ_ hK=>r_lit hd (l_autoS hT h (zJ (hK _ hn)))
def r_autoE{E':SE}{L':ze}[NoOut Q](hd:noDef l=true)(hT:OkT prog T)(h:autoS T l.toArray N l E L=([],E',L'))(hn:kS b (Q .normal) N ⟨E',L',R,F,M⟩):rS ro n b (.region id l.toArray false) Q N ⟨E,L,R,F,M⟩:=r_lit hd (l_autoS hT h (zJ hn))
def r_yes{c:yo}(hc:evS E c=some (.v (.bool true)))(h1:rS ro n b x Q N ⟨E,L,R,F,M⟩):rS ro n b (.cond c x y) Q N ⟨E,L,R,F,M⟩:=λa w hs=>by have hs':=hs;obtain⟨G,S,h3⟩:=hs;exact wpIn_cond_true (h3.fr.eval (evS_ok hc)) (h1 a w hs')
def r_no{c:yo}(hc:evS E c=some (.v (.bool false)))(h1:rS ro n b y Q N ⟨E,L,R,F,M⟩):rS ro n b (.cond c x y) Q N ⟨E,L,R,F,M⟩:=λa w hs=>by have hs':=hs;obtain⟨G,S,h3⟩:=hs;exact wpIn_cond_false (h3.fr.eval (evS_ok hc)) (h1 a w hs')
def r_block{c:Code}(h:rS ro n b c (k7 id Q) N e):rS ro n b (.block id c) Q N e:=λa w hs=>wpIn_block (h a w hs)
def r_skip(h:kS b (Q .normal) N e):rS ro n b .skip Q N e:=λa w hs=>wpIn_skip (h a w hs)
def r_ret(h:kS b (Q .ret) N e):rS ro n b .ret Q N e:=λa w hs=>wpIn_ret (h a w hs)
end
def YSpec(l:Nat)(args:zq)(Fy:zv)(r r1 r0:Res):Prop:=∀(w:yp) (S:zm),r.holds w S->Stb S Fy w->∀m,YieldAt nJ m prog l args.toArray w λe w'=>∃(t:Bool) (S':zm),e = .returned (.bool t)/\Chg S w w'/\(bif t then r1 else r0).holds w' S'/\∀k,S' k->k<w.heap.size->S k
def bpost(r1 r0:Res):Post Bool:={ ret:=λt=>.v (.bool t),own:=λt=>[bif t then r1 else r0] }
def star1{r:Res}{w:yp}{S:zm}:starL [r] w S↔r.holds w S:=by
 constructor
 .rintro⟨S1,S2,h1,h2,h3,_⟩
  have:S=S1:=funext λk=>propext ⟨λh=>((h3 k).1 h).resolve_right (h2 k),λh=>(h3 k).2 (.inl h)⟩
  rwa [this]
 .exact λh=>⟨S,λ_=>False,h,λ_ h=>h,λk=>⟨.inl,λh=>h.elim id qY⟩,λ_ _ h=>h⟩
def tS(ro:zh)(n:Nat)(b:Base)(ops:zp)(Q:zx)(N:Nat)(l:zo)(e:Env):Prop:=∀a w,St b N e a w->wpListIn (FW ro) n prog ops Q l a w
section
variable{ro:zh}{n:Nat}{b:Base}{ops:zp}{Q:zx}{N:Nat}{e:Env}{E:SE}{L L0:ze}{R R':zd}{F M:zv}{o:Oper}{rest l:zo}{k:Nat}{y:yo}{xs:zg}{ats:zf}{svs:yu}{Inv:zv}
def t_list[NoOut Q](hd:noDef l=true)(h:lS prog b ops Q N l e):tS ro n b ops Q N l e:=λa w hs=>list_in hd (h a w hs)
def t_yield{g:Nat}{r r1 r0:Res}{Fy:zv}(args:zq)(hg:o.guard=none)(hd:o.dst=some k)(hk:aU k N=true)(ho:o.op = .call { callee:=.value y,args:=xs,argTypes:=ats })(hy:evS E y=some (.v (.func (.yield g) #[] #[])))(hx:evSs E xs.toList=some svs)
 (ha:∀G:zk,svs.map (SV.den G)=args)(hs:YSpec g args Fy r r1 r0)(hF:∀w,F w->M w->Fy w)(hn:∀t:Bool,tS ro n b ops Q N rest ⟨(k,.v (.bool t))::E,L,(bif t then r1 else r0)::R',F,M⟩):tS ro n b ops Q N (o::rest) ⟨E,L,r::R',F,M⟩:=λa w ⟨G,S,h1,h2,h3⟩=>by
 have hv:a.eval y = .func (.yield g) #[] #[]:=h1.eval (evS_ok hy);have hm:=map_eval (args:=(svs.map (SV.den G)).toArray) (h1.evals _ _ (by rw [evSs_ok hx]));rw [ha G] at hm;obtain⟨S1,S2,k1,k2,kS,kd⟩:=StW.split (own:=[r]) h3;obtain⟨fn,tmps,assign,body,hyr,hR⟩:=hs w S1 (star1.1 k1) ((h3.all.imp λw hw=>hF w hw.1 hw.2).less λk _ hk=>.inr (.inl ((kS k).2 (.inl hk)))) (n-1)
 have hrun:(execOp a.eval o).run prog w = .ok (.round g fn tmps assign body) w:=by unfold execOp;simp only [ho,resolve,hv,hm,Deferred.ofValue,aG,aI,aC,invoke];simp [hyr]
 unfold wpListIn
 rw [if_pos (by simp [aQ,hg])];refine⟨λ_ _=>trivial,?_⟩;rw [Oper.semAt_eq _ _ _ (λc e=>by rw [ho] at e;cases e),hrun];refine⟨λe=>(by cases e),?_⟩;have hR':RoundIn (FW ro) (n-1) prog g fn tmps assign body w _:=hR;refine hR'.mono ?_
 rintro ex w' ⟨t,S',rfl,hc,hr',hS'⟩
 rw [hd];have h5:=h1.put hk (.bool t);exact hn t _ w' ⟨G,λk=>S' k\/S2 k,h5,h2.cons trivial,StW.lent (own:=[r]) (own':=[bif t then r1 else r0]) h3 k2 kS kd hc (star1.2 hr') hS'⟩
abbrev FinR(ro:zh)(n:Nat)(ops:zp)(Q:zx)(m:Nat):zn->zw:=λlisted a w=>wpAnyIn (FW ro) n prog .any ops Q m listed a w
def opIn_of[NoOut Q](hd:noDef ops.toList=true){i:Nat}{K K':zw}{a:Act}{w:yp}(hK:∀a w,K a w->K' a w)(h:wpOp prog ops Q i K a w):wpOpIn (FW ro) n prog ops Q i K' a w:=by
 unfold wpOp at h;unfold wpOpIn;split
 .rename_i hn;rw [hn] at h;exact hK _ _ h
 .rename_i o ho
  rw [ho] at h;dsimp only at h;split
  .rename_i hw;rw [if_pos hw] at h;exact op_in (noDef_mem hd (by simpa using kB ho)) (h.imp (Oper.wp_mono hK) id)
  .rename_i hw;rw [if_neg hw] at h;exact⟨λ_ _=>trivial,hK _ _ h⟩
theorem anyIn_of_P[NoOut Q](hd:noDef ops.toList=true){p:Nat->Bool}{m:Nat}:∀(fuel:Nat) (listed:zn) (a:Act) (w:yp),wpAnyP prog ops Q Inv p (FinR ro n ops Q m) fuel listed a w->wpAnyIn (FW ro) n prog .any ops Q (m+fuel) listed a w
 | 0,_,_,_,h=>h.2
 | fuel+1,_,_,_,h=>⟨λh0=>absurd h0 h.1,λi hi=>opIn_of hd (λa' w' h'=>anyIn_of_P hd fuel _ a' w' h'.2) (h.2 i hi)⟩
theorem wpAnyIn_forcedJ{l:zo}:∀(ks:zj) (listed:zn) (a:Act) (w:yp),(∀k∈ks,k<l.length)->forcedJ l.toArray ks listed=true ->
  wpListIn (FW ro) n prog l.toArray Q (opsJ l ks) a w->wpAnyIn (FW ro) n prog .any l.toArray Q ks.length listed a w
 | [],_,_,_,_,hB,h=>⟨by simpa [forcedJ] using hB,h⟩
 | k::ks,listed,a,w,hl,hB,h=>by
  obtain⟨o,ho⟩:∃o,l[k]?=some o:=⟨_,aJ (hl k aM)⟩;have h0:l.toArray[k]?=some o:=by simpa using ho
  simp only [forcedJ,aN,decide_eq_true_eq] at hB;obtain⟨hr,hB'⟩:=hB;unfold opsJ at h;rw [ho] at h;dsimp only at h;refine⟨λe=>(by rw [hr] at e;cases e),λi hi=>?_⟩;rw [hr,aD] at hi;subst hi;have hl':∀j∈ks,j<l.length:=λj hj=>hl j (aK _ hj);unfold wpOpIn;simp only [h0];unfold wpListIn at h;split
  .rename_i hw;simp only [hw,if_true] at h;exact Oper.wpIn_mono (λa' w' h'=>wpAnyIn_forcedJ ks _ a' w' hl' hB' h') h
  .rename_i hw;simp only [hw] at h;exact⟨λ_ _=>trivial,wpAnyIn_forcedJ ks _ _ _ hl' hB' (by simpa using h.2)⟩
def p_tailR{ks:zj}{listed:zn}(js:zj){l l':zo}(hB:((Region.ready .any l.toArray listed).all (λj=>ks.all λi=>waitsT .any l.toArray l.toArray.size j i)&&js.all (λk=>decide (k<l.length))&&forcedJ l.toArray js listed)=true)(hl:opsJ l js=l')(h:tS ro n b l.toArray (NoPanic Q) N l' e) :
  pS prog b Q N l.toArray Inv (memJ ks) (FinR ro n l.toArray (NoPanic Q) js.length) 0 listed e:=λ_ a w hst _=>by
 subst hl;simp only [aN,b7,decide_eq_true_eq] at hB;refine⟨λj hj i hi=>?_,wpAnyIn_forcedJ js listed a w hB.1.2 hB.2 (h a w hst)⟩;obtain⟨k,hk,e⟩:=List.any_eq_true.1 hi;obtain rfl:=Nat.eq_of_beq_eq_true e;exact hB.1.1 j hj k hk
def r_anyP[NoOut Q]{l:zo}{id:Nat}(ks:zj)(f m:Nat)(Inv:zv)(hm:prog.follows .mixedOrders=true)(hn:m+f=l.length)(hd:noDef l=true)(h0:∀a w,St b N e a w->Inv w)(h:pS prog b Q N l.toArray Inv (memJ ks) (FinR ro n l.toArray (NoPanic Q) m) f (Array.replicate l.toArray.size false) e):rS ro n b (.region id l.toArray true) Q N e:=λa w hst=>by
 refine wpIn_mono (Q:=NoPanic Q) (wpIn_region_any hm ?_) λe a w h=>NoPanic.imp e a w h;obtain⟨G,S,h1,h2,h3⟩:=hst;have hs:St b N e a w.drew:=⟨G,S,h1,h2,h3.drew⟩;have h4:=anyIn_of_P (by simpa using hd) f _ a w.drew (h (Closed.none _) a w.drew hs (h0 a _ hs));have e1:m+f=l.toArray.size:=by simpa using hn
 rw [e1] at h4;exact h4
instance{fn:Func}{b:Base}{α:Type}{post:Post α}:NoOut (bodyPost prog fn (endS b post)):=⟨λa w hq=>by obtain⟨_,_,h,_⟩:=hq;cases h⟩
def s_of_r{c:Code}(h:rS none 0 b c Q N e):cS prog b c Q N e:=λa w hs=>(wpIn_wide (n:=0)).1 (h a w hs)
end
def withD(ds:List Deferred)(a:Act):Act:={ a with defers:=a.defers++ds }
def put_withD(ds:List Deferred)(a:Act)(d:Option Tmp)(v:Value):(withD ds a).put d v=withD ds (a.put d v):=by cases d<;>rfl
def Qd(ds:List Deferred)(Q:zx):zx:=λe a w=>Q e (withD ds a) w
def dS(ds:List Deferred)(b:Base)(c:Code)(Q:zx)(N:Nat)(e:Env):Prop:=∀a w,St b N e a w->c.wp prog Q (withD ds a) w
def kD(ds:List Deferred)(b:Base)(K:zw)(N:Nat)(e:Env):Prop:=∀a w,St b N e a w->K (withD ds a) w
section
variable{P:Program}{ds:List Deferred}{Q:zx}{ops:zp}
def op_withD{o:Oper}{a:Act}{w:yp}{next next':zw}(hn:∀a w,next a w->next' (withD ds a) w)(h:o.wp P a w next (Qd ds Q)\/(o.asks P a w/\LetsOut (Qd ds Q))):o.wp P (withD ds a) w next' Q\/(o.asks P (withD ds a) w/\LetsOut Q):=by
 rcases h with h|⟨h1,a',w',h2⟩
 .refine .inl ?_
  unfold fT at h ⊢;have e:(withD ds a).eval=a.eval:=rfl;rw [e];generalize (execOp a.eval o).run P w=r at *;cases r with
  | ok x w' =>
   cases x with
   | value v =>
    show next' ((withD ds a).put o.dst v) w'
    rw [put_withD];exact hn _ _ h
   | skip =>
    show next' ((withD ds a).put o.dst undef) w'
    rw [put_withD];exact hn _ _ h
   | defer d =>
    have h':next (({ a with defers:=d::a.defers }:Act).put o.dst undef) w':=h;have h2:=hn _ _ h';rw [<-put_withD] at h2;exact h2
   | enter f args =>
    have h':Calls P f args w' _:=h;refine h'.mono λe w'' he=>?_
    cases e with
    | returned v =>
     show next' ((withD ds a).put o.dst v) w''
     rw [put_withD];exact hn _ _ he
    | panicked c=>exact he
    | outgrown =>
     obtain⟨a1,w1,h1⟩:=he;exact⟨_,w1,h1⟩
   | row row args =>
    have h':Rows P row args w' _:=h;refine h'.mono λv w'' he=>?_
    show next' ((withD ds a).put o.dst v) w''
    rw [put_withD];exact hn _ _ he
   | _=>exact h.elim
  | halt x w'=>cases x<;>exact h
 .exact .inr ⟨h1,_,w',h2⟩
theorem list_withD:∀{l:zo} {a:Act} {w:yp},wpList P ops (Qd ds Q) l a w->wpList P ops Q l (withD ds a) w
 | [],_,_,h=>h
 | o::l,a,w,h=>by
  unfold wpList at h ⊢;have e:(withD ds a).tmps=a.tmps:=rfl;rw [e];split
  .rename_i hw;rw [if_pos hw] at h;exact op_withD (λa' w' h'=>list_withD h') h
  .rename_i hw;rw [if_neg hw] at h;rw [put_withD];exact list_withD h
end
section
variable{T:yw}{ds:List Deferred}{b:Base}{Q:zx}{N:Nat}{e e':Env}{E:SE}{L:ze}{R:zd}{F M:zv}{id:Nat}{l l':zo}{x y:Code}
def d_weak{c:Code}(hw:Weak e e')(h:dS ds b c Q N e'):dS ds b c Q N e:=λa w hs=>h a w (hs.weak hw)
def d_seq(h:∀K:zw,(∀e',dS ds b y Q N e'->kD ds b K N e')->dS ds b x (Exit.then K Q) N e):dS ds b (.seq x y) Q N e:=λa w hs =>
 wp_seq_k λK hK=>h K (λ_ h' a' w' hs'=>hK _ _ (h' a' w' hs')) a w hs
def d_lit(h:lS prog b l.toArray (Qd ds Q) N l e):dS ds b (.region id l.toArray false) Q N e:=λa w hs=>wp_region_lit (list_withD (h a w hs))
def d_auto{E':SE}{L':ze}(hT:OkT prog T)(h:autoS T l.toArray N l E L=([],E',L'))(hn:dS ds b y Q N ⟨E',L',R,F,M⟩):dS ds b (.seq (.region id l.toArray false) y) Q N ⟨E,L,R,F,M⟩ :=
 d_seq λ_ hK=>d_lit (l_autoS hT h (zJ (hK _ hn)))
def d_regA{E':SE}{L':ze}(hT:OkT prog T)(h:autoS T l.toArray N l E L=(l',E',L'))(hn:∀K:zw,(∀e',dS ds b y Q N e'->kD ds b K N e')->lS prog b l.toArray (Qd ds (Exit.then K Q)) N l' ⟨E',L',R,F,M⟩):dS ds b (.seq (.region id l.toArray false) y) Q N ⟨E,L,R,F,M⟩ :=
 d_seq λK hK=>d_lit (l_autoS hT h (hn K hK))
def d_end{ops:zp}{K:zw}(h:kD ds b K N e):lS prog b ops (Qd ds (Exit.then K Q)) N [] e:=λa w hs=>h a w hs
def d_block{c:Code}(h:dS ds b c (k7 id Q) N e):dS ds b (.block id c) Q N e:=λa w hs=>wp_block (h a w hs)
def d_ret(h:kD ds b (Q .ret) N e):dS ds b .ret Q N e:=λa w hs=>wp_ret (h a w hs)
end
def DefR(D:Nat):Res where
  holds w S:=w.heap[D]?=some (.deferred (some []))/\∀k,S k↔k=D
  keep:=λ⟨h1,h2⟩ hk=>⟨(hk D ((h2 D).2 rfl)).trans h1,h2⟩
  lt:=λ⟨h1,h2⟩ k hk=>by rw [(h2 k).1 hk];exact(bD.1 h1).1
abbrev dD(D:Nat):Deferred:={ target:=.collected D,args:=#[] }
abbrev bodyM(fn:Func)(R:Ending->zv):zx:=bodyPostM nJ 0 prog fn R
def chg_putObj(w:yp)(l:Nat)(o:Obj):Chg (λk=>k=l) w (w.putObj l o):=⟨rfl,rfl,rfl,by simp,λk _ hn=>World.putObj_heap_other hn⟩
def StW.drop{b:Base}{G:zk}{S:zm}{L:ze}{r:Res}{R:zd}{F M:zv}{w w':yp}{D:Nat}(h:StW b G S L (r::R) F M w)(hr:∀S1,r.holds w S1->S1 D)(hc:Chg (λk=>k=D) w w'):∃S2,StW b G S2 L R F M w':=by
 obtain⟨S1,S2,h1,h2,h3,h4⟩:=h.res;have hD:∀k,k=D->S1 k:=λk hk=>by rw [hk];exact hr S1 h1
 have:=h.chgd (R':=R) (S1:=S1) (S2:=S2) (S':=λ_=>False) h3 (hc.mono λk _ hk=>hD k hk) ((h2.keep λk hk=>hc.block k (h2.lt k hk) λe=>h4 k (hD k e) hk).same λk=>⟨.inr,λh=>h.elim qY id⟩) λ_ h _=>h.elim;exact⟨_,this⟩
theorem k_retM{b:Base}{fn:Func}{N:Nat}{E:SE}{L:ze}{R:zd}{F M:zv}{α:Type}{post:Post α}:∀(Ds:zj),kS b (bodyPost prog fn (endS b post) .ret) N ⟨E,L,R,F,M⟩->kD (Ds.map dD) b (bodyM fn (endS b post) .ret) N ⟨E,L,Ds.map DefR++R,F,M⟩
 | [],h=>λa w hs=>by
  have h1:=(h a w hs).2;have e:(withD ([].map dD) a).defers=[]:=by obtain⟨G,S,h3⟩:=hs;show a.defers++[]=[];rw [bC];exact h3.fr.defers
  show LeavesInM nJ 0 prog fn a.tmps (endS b post) (withD ([].map dD) a).defers .returning w;rw [e];exact h1
 | D::Ds,h=>λa w ⟨G,S,h1,h2,h3⟩=>by obtain⟨S1,S2,k1,_⟩:=h3.res;obtain⟨S3,h4⟩:=StW.drop (D:=D) h3 (λS1 hS=>(hS.2 D).2 rfl) (chg_putObj w D (.deferred none));have h5:=k_retM Ds h a _ ⟨G,S3,h1,h2,h4⟩;have e0:a.defers=[]:=h1.defers;show LeavesInM nJ 0 prog fn a.tmps (endS b post) (a.defers++dD D::Ds.map dD) .returning w;have h6:LeavesInM nJ 0 prog fn a.tmps (endS b post) (a.defers++Ds.map dD) .returning (w.putObj D (.deferred none)):=h5;rw [e0] at h6 ⊢;exact⟨λe=>(by cases e),.inl ⟨D,_,rfl,run_takeDeferred k1.1,h6⟩⟩
def spec_D{f:FuncId}{fn:Func}{c:Code}{own:zd}{F:zv}{α:Type}{post:Post α}(vs:yq)(N:Nat)(hf:prog.funcs[f]?=some fn)(hb:fn.body=some c)(hn:vs.length+(fn.ntmps-vs.length)=N)(hv:∀v∈vs,v.Ok)
 (h:∀b:Base,dS [] b c (bodyM fn (endS b post)) N ⟨argS 0 vs,[],own,F,λ_=>True⟩):Spec f (vs.map SQ.den) own F post:=λw S X hS hX hF=>by
 refine(callsIn_wide (n:=0)).1 (callsIn_of_wp_marks hf hb trivial ((wpIn_wide (n:=0)).2 ?_) rfl)
 have key:∀a,Fr N (denE (λ_=>0) (argS 0 vs)) a->c.wp prog (bodyM fn (endS ⟨X,w,S⟩ post)) a w:=λa ha=>by
  have h1:=h ⟨X,w,S⟩ a w ⟨λ_=>0,S,ha,argS_ok hv,λx hx=>(by cases hx),pJ,hS,λx hx=>(by cases hx),?_,λ_ _=>trivial,Chg.refl _ _,λk hk _=>?_,hX⟩
  .have:withD [] a=a:=by
    unfold withD;rw [bC]
   rwa [this] at h1
  .exact hF.less λk _ hk=>hk.imp id λhk=>hk.elim id λ⟨j,hj,_⟩=>by cases hj
  .exact hk.elim id λ⟨j,hj,_⟩=>by cases hj
 exact key _ (Fr.start (by simpa using hn) _ λk v hk=>by rw [argS_den] at hk;have:=(argE_look (vs.map SQ.den) 0 k v hk).2;simpa using this)
end Go.Proofs.Q
namespace Go.Proofs.Q
open Go.RowKit Go.IntWalk Nums
def row_at{n:Nat}{l:zu}{j:Nat}(hj:j<l.length):(catP [.agg n (By l).toArray])[0+1*j]?=some (.int .u8 ((l[j]!).toNat:Int)):=by rw [aY,Nat.one_mul];show(By l).toArray[j]?=_;exact By_get hj
def eP(p:PairT):SQ:=.p [.agg 32 (By p.1).toArray,.agg 32 (By p.2).toArray]
def OkT2(p:PairT):Prop:=p.1.length=32/\p.2.length=32
def eP_ok{p:PairT}(h:OkT2 p):OkP (eP p).parts1/\(eP p).cl.length=64:=by
 have h1:(By p.1).toArray.size=32:=by rw [aW,By_len,h.1]
 have h2:(By p.2).toArray.size=32:=by rw [aW,By_len,h.2]
 refine⟨λq hq=>?_,?_⟩
 .rcases aH.1 hq with rfl|hq
  .exact⟨h1,By_one p.1⟩
  .rw [aD.1 hq];exact⟨h2,By_one p.2⟩
 .rw [SQ.cl,Array.length_toList];show(catP [Pt.agg 32 (By p.1).toArray,.agg 32 (By p.2).toArray]).size=64;rw [catP_cons,Array.size_append];simp [Pt.cells,catP,By_len,h.1,h.2]
abbrev PX:=zt×Nat
theorem rootT_len:∀(r:Nat) (l:za),(fS r l).length=32
 | r,[]=>by rw [o5];rfl
 | r,[p]=>by rw [nC];exact digest256_len _
 | 0,_::_::_=>rfl
 | r+1,p::q::l=>by rw [nR (by simp)];exact digest256_len _
def runO_allQ{P:Program}{N:Nat}{E:SE}{o:Oper}{x:yo}{t e:yn}{g off n sz:Nat}(ho:o.op = .slice t x none none none)(ht:P.underlying t=some (.array n e))(he:(P.info? e).map (·.size)=some sz)(hx:evS E x=some (.v (.pointer (some ⟨g,off,none⟩)))) :
  ∀(G:zk) (a:Act) (w:yp),Fr N (denE G E) a->(execOp a.eval o).run P w = .ok (.value ((SV.v (.slice (some ⟨g,off,none⟩) n n)).den G)) w:=λG a w ha=>by
 have h1:a.eval x = .pointer (some ⟨g,off,none⟩):=ha.eval (evS_ok hx);have h5:=run_sizeOf he w
 unfold execOp
 simp only [ho];generalize a.eval=ρ at *;simp only [Option.map,h1]
 show _=mQ (mB (.slice (some ⟨g,off,none⟩) n n)) w
 simp [Instr.sliceAt,Instr.sureAddr,run_underlying ht,Instr.sliceBounds,h5,aG,cQ]
def eP_cl(p:PairT):(eP p).cl=By p.1++By p.2:=by show(catP [Pt.agg 32 (By p.1).toArray,.agg 32 (By p.2).toArray]).toList=_;rw [catP_cons];simp [Pt.cells,catP]
def rd_pair{g o c i:Nat}{l:za}{p:PairT}{w:yp}(h:Rd 64 eP (some ⟨g,o,none⟩) c l w)(hi:l[i]?=some p)(hp:OkT2 p) :
  SB w (.slice (some ⟨g,o+64*i,none⟩) 32 32) p.1/\SB w (.slice (some ⟨g,o+64*i+32,none⟩) 32 32) p.2:=by
 obtain⟨_,_,_,_,h5⟩:=h;obtain⟨b',o',e,hb,hr⟩:=h5 (dC (aL _) (aP.1 hi).1)
 injection e with e
 injection e with e1 e2
 subst e1;subst e2;have hr:=hr i p hi;rw [eP_cl] at hr
 have hl1:(By p.1).length=32:=by rw [By_len];exact hp.1
 refine⟨⟨_,_,by rw [hp.1],by rw [hp.1];exact aF _,by decide,λh=>(by cases h),λ_=>⟨_,rfl,aL _,hb,λj x hx=>?_⟩⟩,⟨_,_,by rw [hp.2],by rw [hp.2];exact aF _,by decide,λh=>(by cases h),λ_=>⟨_,rfl,aL _,hb,λj x hx=>?_⟩⟩⟩
 .have hj:j<32:=by rw [<-hp.1];exact(aP.1 hx).1
  rw [cQ];refine hr j _ ?_;rw [cW (by omega)];simp [By,hx]
 .rw [cQ,bZ (o+64*i)];refine hr (32+j) _ ?_;rw [bN (by omega),hl1,fM];simp [By,hx]
inductive TA where
  | nil
  | leaf (g h:Nat) (p:PairT)
  | node (g:Nat) (a b:TA)
namespace TA
def ptr:TA->zh
  | nil=>none
  | leaf g _ _=>some g
  | node g _ _=>some g
def root:TA->zu
  | nil=>eC
  | leaf _ _ p=>jX p
  | node _ a b=>gN a.root b.root
def len:TA->Nat
  | nil=>0
  | leaf _ _ _=>1
  | node _ a b=>a.len+b.len
def val(t:TA):Value:=.pointer (t.ptr.map λg=>⟨g,0,none⟩)
def all:TA->za
  | nil=>[]
  | leaf _ _ p=>[p]
  | node _ a b=>a.all++b.all
end TA
def prPs(p:PairT):zb:=[.agg 32 (By p.1).toArray,.agg 32 (By p.2).toArray]
def lfPs(h:Nat)(p:PairT):zb:=[.agg 32 (By (jX p)).toArray,.one (.v (.int .i64 1)),.one (.v (.pointer (some ⟨h,0,none⟩))),.agg 2 #[.pointer none,.pointer none]]
def ndPs(a b:TA):zb:=[.agg 32 (By (gN a.root b.root)).toArray,.one (.v (.int .i64 ((a.len+b.len:Nat):Int))),.one (.v (.pointer none)),.agg 2 #[a.val,b.val]]
def TF:TA->zv
  | .nil,_=>True
  | .leaf g h p,w=>ObjF g 235 (lfPs h p) w/\ObjF h 218 (prPs p) w
  | .node g a b,w=>ObjF g 235 (ndPs a b) w/\TF a w/\TF b w
theorem TF.later:∀{t:TA} {w w':yp},TF t w->Below w.heap.size w w'->TF t w'
 | .nil,_,_,_,_=>trivial
 | .leaf _ _ _,_,_,h,k=>⟨⟨h.1.1.later k,h.1.2⟩,⟨h.2.1.later k,h.2.2⟩⟩
 | .node _ _ _,_,_,h,k=>⟨⟨h.1.1.later k,h.1.2⟩,h.2.1.later k,h.2.2.later k⟩
instance{t:TA}:Pst (TF t):=⟨λ_ _ h k=>h.later k⟩
theorem TA.root_len:∀t:TA,t.root.length=32
 | .nil=>rfl
 | .leaf _ _ _=>digest256_len _
 | .node _ _ _=>digest256_len _
def TOk:Nat->za->TA->Prop
  | _,l,.nil=>l=[]
  | _,l,.leaf _ _ p=>l=[p]
  | 0,_,.node _ _ _=>False
  | r+1,l,.node _ a b=>2<=l.length/\TOk r (cJ (255-r) l) a/\TOk r (bU (255-r) l) b
theorem TOk.root:∀{r:Nat} {l:za} {t:TA},TOk r l t->t.root=fS r l
 | r,l,.nil,h=>by
  have h:l=[]:=by cases r<;>exact h
  subst h;exact(o5 r).symm
 | r,l,.leaf _ _ p,h=>by
  have h:l=[p]:=by cases r<;>exact h
  subst h;exact(nC r p).symm
 | 0,_,.node _ _ _,h=>h.elim
 | r+1,l,.node _ a b,h=>by obtain⟨h1,h2,h3⟩:=h;rw [nR h1,<-h2.root,<-h3.root];rfl
theorem sides_len(d:Nat)(l:za):(cJ d l).length+(bU d l).length=l.length:=by
 unfold cJ bU;induction l with
 | nil=>rfl
 | cons x l ih =>
  by_cases h:cL x.1 d=0
  .simp [h] at ih ⊢;omega
  .simp [h] at ih ⊢;omega
theorem TOk.len:∀{r:Nat} {l:za} {t:TA},TOk r l t->t.len=l.length
 | r,l,.nil,h=>by
  have h:l=[]:=by cases r<;>exact h
  subst h;rfl
 | r,l,.leaf _ _ p,h=>by
  have h:l=[p]:=by cases r<;>exact h
  subst h;rfl
 | 0,_,.node _ _ _,h=>h.elim
 | r+1,l,.node _ a b,h=>by obtain⟨h1,h2,h3⟩:=h;have:=sides_len (255-r) l;show a.len+b.len=_;rw [h2.len,h3.len,this]
def low1T(m:Nat)(h:m<256):bits .and .u8 (m:Int) 1=((m%2:Nat):Int):=by
 have key:∀m:Nat,m<256->bits .and .u8 (m:Int) 1=((m%2:Nat):Int):=by decide +kernel
 exact key m h
def run_shr8{N:Nat}{E:SE}{o:Oper}{x y:yo}{t':yn}{m n:Nat}(hn:n<=8)(ho:o.op = .binOp .shr 5 x y t')(hx:evS E x=some (.v (.int .u8 (m:Int))))(hy:evS E y=some (.v (.int .u8 (n:Int)))) :
  ∀(G:zk) (a:Act) (w:yp),Fr N (denE G E) a->(execOp a.eval o).run prog w = .ok (.value ((SV.v (.int .u8 ((m/2^n:Nat):Int))).den G)) w:=λG a w ha=>by
 have h1:a.eval x = .int .u8 (m:Int):=ha.eval (evS_ok hx);have h2:a.eval y = .int .u8 (n:Int):=ha.eval (evS_ok hy)
 have h3:(n:Int)<=8:=by omega
 unfold execOp
 simp only [ho,h1,h2]
 go_simp
 rfl
def run_and8{N:Nat}{E:SE}{o:Oper}{x y:yo}{t':yn}{m n:Int}(ho:o.op = .binOp .and 5 x y t')(hx:evS E x=some (.v (.int .u8 m)))(hy:evS E y=some (.v (.int .u8 n))) :
  ∀(G:zk) (a:Act) (w:yp),Fr N (denE G E) a->(execOp a.eval o).run prog w = .ok (.value ((SV.v (.int .u8 (bits .and .u8 m n))).den G)) w:=λG a w ha=>by
 have h1:a.eval x = .int .u8 m:=ha.eval (evS_ok hx);have h2:a.eval y = .int .u8 n:=ha.eval (evS_ok hy)
 unfold execOp
 simp only [ho,h1,h2]
 go_simp
 rfl
def wrapB{m r:Int}(h:m=r)(h1:0<=r)(h2:r<256):IntKind.u8.wrap m=r:=by subst h;unfold uR;simp [qI,oQ];omega
def own_tbit:Own 150:=λ_ _=>by go_simp
def tbit_S{k:zu}(hk:k.length=32)(n:Nat)(hn:n<256):Spec 150 [(eY 32 k).den,.int .u8 (n:Int)] [] (λ_=>True) (one (.v (.int .u8 ((cL k n:Nat):Int)))):=by refine zQ [eY 32 k,.c (.v (.int .u8 (n:Int)))] 14 func150 rfl (by rw [ntmps150];rfl) (two_ok (eY_ok hk).1 trivial) λb=>?_;refine zA rfl (zC rfl λK hK=>?_);refine l_num 6 ((n/8:Nat):Int) rfl (wrapB (by rw [Int.tdiv_eq_ediv_of_nonneg (by omega)];omega) (by omega) (by omega)) ?_;refine l_op (.a 2 (0+1*(n/8))) trivial rfl rfl rfl (runO_ixA (n/8) rfl underlying47 rfl rfl rfl (by omega)) ?_;refine l_opV (.v (.int .u8 ((k[n/8]!).toNat:Int))) trivial rfl rfl rfl (runO_ldA _ rfl rfl rfl (row_at (by omega)) underlying5 rfl) ?_;have hlt:=(k[n/8]!).toNat_lt;have hb:cL k n=(k[n/8]!).toNat/2^(7-n%8)%2:=rfl;generalize (k[n/8]!).toNat=v at *;refine zB rfl ?_;refine l_num 11 ((7-n%8:Nat):Int) rfl (wrapB (by rw [Int.tmod_eq_emod_of_nonneg (by omega)];omega) (by omega) (by omega)) ?_;refine l_op (.v (.int .u8 ((v/2^(7-n%8):Nat):Int))) trivial rfl rfl rfl (run_shr8 (by omega) rfl rfl rfl) ?_;have h2:v/2^(7-n%8)<256:=dC (gM _ _) hlt;generalize v/2^(7-n%8)=z at *;refine l_op (.v (.int .u8 (bits .and .u8 (z:Int) 1))) trivial rfl rfl rfl (run_and8 rfl rfl rfl) (l_num 13 ((z%2:Nat):Int) rfl (low1T z h2) (zB rfl (zJ (hK _ ?_))));exact zP (zR zY () rfl (by decide) rfl (congrArg (λx:Nat=>RV.v (.int .u8 (x:Int))) hb) rfl (λ_ _ _=>trivial) zU)
theorem tsize_S(t:TA):Spec 147 [t.val] [] (TF t) (one (.v (.int .i64 (t.len:Int)))):=by
 refine zQ [.c (.v t.val)] 9 func147 rfl (by rw [ntmps147];rfl) (one_ok trivial) λb=>?_;refine zA rfl (zM λK hK=>?_);cases t with
 | nil =>
  refine zA rfl (s_yes rfl (zA rfl ?_));exact zP (zG () rfl (λ_ _ _=>trivial) zU)
 | leaf g h p =>
  refine zA rfl (s_no rfl (zO (hK _ (zC rfl λK2 hK2=>zZ rfl (obj_fact λ_ h _=>h.1) (zB rfl (zJ (hK2 _ ?_)))))));exact zP (zG () rfl (λ_ _ _=>trivial) zU)
 | node g x y =>
  refine zA rfl (s_no rfl (zO (hK _ (zC rfl λK2 hK2=>zZ rfl (obj_fact λ_ h _=>h.1) (zB rfl (zJ (hK2 _ ?_)))))));exact zP (zG () rfl (λ_ _ _=>trivial) zU)
theorem thash_S(t:TA):Spec 90 [t.val] [] (TF t) (one (.q (eY 32 t.root))):=by
 refine zQ [.c (.v t.val)] 10 func90 rfl (by rw [ntmps90];rfl) (one_ok trivial) λb=>?_;refine zA rfl (zM λK hK=>?_);cases t with
 | nil =>
  refine zA rfl (s_yes rfl (zA rfl ?_));exact zP (zG () rfl (λ_ _ _=>trivial) zU)
 | leaf g h p =>
  refine zA rfl (s_no rfl (zO (hK _ (zC rfl λK2 hK2=>zZ rfl (obj_fact λ_ h _=>h.1) (zB rfl (zJ (hK2 _ ?_)))))));exact zP (zG () rfl (λ_ _ _=>trivial) zU)
 | node g x y =>
  refine zA rfl (s_no rfl (zO (hK _ (zC rfl λK2 hK2=>zZ rfl (obj_fact λ_ h _=>h.1) (zB rfl (zJ (hK2 _ ?_)))))));exact zP (zG () rfl (λ_ _ _=>trivial) zU)
end Go.Proofs.Q
namespace Go.Proofs.Q
open Go.RowKit Go.IntWalk Nums
section
variable{P:Program}{b:Base}{ops:zp}{Q:zx}{N:Nat}{E E':SE}{L:ze}{R:zd}{F M:zv}{g:Nat}{t:yn}{ps:zb}
def StW.objOut{G:zk}{S:zm}{w:yp}(h:StW b G S L R F M w){i:Nat}(hi:R[i]?=some (ObjS g t ps)):∃S',StW b G S' L (R.eraseIdx i) (λw=>ObjF g t ps w/\F w) M w:=by
 obtain⟨S1,S2,h1,h2,h3,h4⟩:=h.let hi;refine⟨S2,h4.and λw' hw=>⟨?_,h1.1.2⟩⟩;have hg:S1 g:=(h1.2 g).2 rfl;have hlt:=h1.1.1.lt;have hnot:¬Dof b.X S2 G L g:=by
  rintro(hx|hx|⟨j,hj,e⟩)
  .obtain⟨hx1,hx2⟩:=h.old g hx;exact hx2 (h.mine g (.inl ((h3 g).2 (.inl hg))) hx1)
  .exact h2 g hg hx
  .exact h.sep j hj (by rw [e];exact(h3 g).2 (.inl hg))
 exact(hw.block g hlt hnot).trans h1.1.1
def k_objOut{K:zw}(i:Nat)(hi:R[i]?=some (ObjS g t ps))(h:kS b K N ⟨E,L,R.eraseIdx i,λw=>ObjF g t ps w/\F w,M⟩):kS b K N ⟨E,L,R,F,M⟩:=λa w ⟨G,S,h1,h2,h3⟩=>by obtain⟨S',h4⟩:=h3.objOut hi;exact h a w ⟨G,S',h1,h2,h4⟩
def l_objOut{l:zo}(i:Nat)(hi:R[i]?=some (ObjS g t ps))(h:lS P b ops Q N l ⟨E,L,R.eraseIdx i,λw=>ObjF g t ps w/\F w,M⟩):lS P b ops Q N l ⟨E,L,R,F,M⟩:=λa w ⟨G,S,h1,h2,h3⟩=>by obtain⟨S',h4⟩:=h3.objOut hi;exact h a w ⟨G,S',h1,h2,h4⟩
def l_give{l:zo}{y:LV}(i:Nat)(hx:lookS E i=some (.a y.j 0))(hs:SubS E' E)(h:∀g,lS P b ops Q N l ⟨(i,.v (.pointer (some ⟨g,0,none⟩)))::E',L,ObjS g y.t y.ps::R,F,M⟩):lS P b ops Q N l ⟨E,y::L,R,F,M⟩:=k_give (K:=λa w=>wpList P ops Q l a w) i hx hs h
end
instance:Pst Tsh:=⟨λ_ _ h hb=>h.below hb⟩
def own_tsum:Own 114:=λ_ _=>by go_simp
def own_tinner:Own 151:=λ_ _=>by go_simp
def prPs_ok{p:PairT}(h:OkP (prPs p)):OkT2 p:=by have h1:=(h (.agg 32 (By p.1).toArray) (by simp [prPs])).1;have h2:=(h (.agg 32 (By p.2).toArray) (by simp [prPs])).1;rw [aW,By_len] at h1 h2;exact⟨h1,h2⟩
def obj_pair{h:Nat}{t:yn}{p:PairT}{w:yp}(hF:ObjF h t (prPs p) w):Rd 64 eP (some ⟨h,0,none⟩) 1 [p] w:=by
 refine⟨aF _,by decide,λe=>(by cases e),λx hx=>?_,λ_=>⟨h,0,rfl,hF.1.lt,λi x hx=>?_⟩⟩
 .rw [aD.1 hx];exact eP_ok (prPs_ok hF.2)
 .cases i with
  | zero =>
   simp only [List.getElem?_cons_zero,a8] at hx;subst hx;exact range_of (A:=[]) (Z:=[]) hF.1 (by simp [SQ.cl,SQ.den,eP,Value.cells,prPs])
  | succ i=>simp at hx
def tleaf_S(h:Nat)(p:PairT):Spec 149 [.pointer (some ⟨h,0,none⟩)] [] (λw=>ObjF h 218 (prPs p) w/\Tsh w) { ret:=λg:Nat=>.v (.pointer (some ⟨g,0,none⟩)),own:=λ_=>[],p:=λg=>TF (.leaf g h p) }:=by
 refine zQ [.c (.v (.pointer (some ⟨h,0,none⟩)))] 17 func149 rfl (by rw [ntmps149];rfl) (one_ok trivial) λb=>?_;refine s_pure (OkT2 p) (λw hw _=>prPs_ok hw.1.2) λhp=>?_;refine zA rfl ?_;refine s_regH 13 (by decide) (by kernel_rfl) (by kernel_rfl) λK hK G S w0 hst=>?_;refine h_lit zY [(0:UInt8)] rfl rfl rfl rfl rfl rfl (λ_=>rfl) rfl (by decide) (by decide) λB=>?_;refine zV hst rfl (h_op hst (.v (.slice (some ⟨h,0+64*0,none⟩) 32 32)) trivial rfl rfl rfl rfl (runO_allQ rfl underlying47 rfl rfl) (zV hst rfl (h_op hst (.v (.slice (some ⟨h,0+64*0+32,none⟩) 32 32)) trivial rfl rfl rfl rfl (runO_allQ rfl underlying47 rfl rfl) ?_)));refine h_parts [.slice (some ⟨B,0,none⟩) 1 1,.slice (some ⟨h,0+64*0,none⟩) 32 32,.slice (some ⟨h,0+64*0+32,none⟩) 32 32] [[0],p.1,p.2] hst rfl rfl rfl rfl rfl rfl rfl (by decide) (by decide) (λw hw hu=>?_) λA=>?_
 .have h1:=rd_pair (i:=0) (obj_pair hw.fact.1) rfl hp;have h2:Rd 1 eB (some ⟨B,0,none⟩) 1 [0] w:=hu 0 _ rfl (by kernel_rfl);exact⟨h2.sb,h1.1,h1.2,trivial⟩
 refine h_call (r:=.q (eY 32 (jX p))) hst [.slice (some ⟨A,0,none⟩) 3 3] rfl rfl rfl rfl own_tsum rfl rfl (λ_=>rfl) (eY_ok (n:=32) (digest256_len _)).1 (λw hw hu=>?_) ?_
 .have hA:PT w (some ⟨A,0,none⟩) [[0],p.1,p.2]:=hu 9 _ rfl (by kernel_rfl)
  have hr2:=sum256_f (some ⟨A,0,none⟩) [[0],p.1,p.2] 3 w hw.fact.2 hA (by simp) (by simp);have e:jX p=dJ dK [[0],p.1,p.2].flatten:=by simp [jX]
  show Calls prog _ _ w λe w'=>e = .returned (.agg (By (jX p)).toArray)/\_;rw [e];exact hr2
 refine zV hst rfl (h_end hst (zB rfl (zJ (hK _ (zP (k_give 2 rfl (E':=[]) trivial λg=>k_objOut 0 rfl ?_))))));exact zG g rfl (λ_ hw _=>⟨hw.1,hw.2.1⟩) zU
def sdPs(a b:TA):zb:=[.agg 2 #[a.val,b.val]]
def val_one(t:TA):t.val.oneCell'=true:=by cases t<;>rfl
def sdPs_ok(a b:TA):OkP (sdPs a b):=λp hp=>by
 rw [aD.1 hp];refine⟨rfl,λv hv=>?_⟩;rcases aH.1 hv with rfl|hv
 .exact val_one a
 .rw [aD.1 hv];exact val_one b
def tinner_S(x y:TA)(hl:x.len+y.len<=1000000):Spec 151 [.agg #[x.val,y.val]] [] (λw=>TF x w/\TF y w/\Tsh w) { ret:=λg:Nat=>.v (.pointer (some ⟨g,0,none⟩)),own:=λ_=>[],p:=λg=>TF (.node g x y) }:=by
 refine zQ [.p (sdPs x y)] 26 func151 rfl (by rw [ntmps151];rfl) (one_ok (sdPs_ok x y)) λb=>?_;refine zA rfl ?_;refine s_new 6 [⟨3,47,(By eC).toArray⟩,⟨4,47,(By eC).toArray⟩] (by decide) rfl ⟨⟨rfl,rfl,rfl,rfl,rfl⟩,⟨rfl,rfl,rfl,rfl,rfl⟩,trivial⟩ (by kernel_rfl) (by kernel_rfl) (by kernel_rfl) λK hK G S w0 hst=>?_;refine n_op hst (.a 1 (0+1*0)) trivial rfl rfl rfl (runO_ixA 0 rfl underlying233 rfl rfl rfl (by decide)) ?_;refine n_opV hst (.v x.val) trivial rfl rfl rfl (runO_ldA _ rfl rfl rfl rfl underlying29 rfl) ?_;refine n_callS (F':=TF x) hst [x.val] rfl rfl rfl (λ_ _=>by go_simp) rfl rfl (λ_=>rfl) (thash_S x) (eY_ok x.root_len).1 (λ_ _ _ hv=>hv.fact.1) ?_;refine n_op hst (.a 1 (0+1*1)) trivial rfl rfl rfl (runO_ixA 1 rfl underlying233 rfl rfl rfl (by decide)) ?_;refine n_opV hst (.v y.val) trivial rfl rfl rfl (runO_ldA _ rfl rfl rfl rfl underlying29 rfl) ?_;refine n_callS (F':=TF y) hst [y.val] rfl rfl rfl (λ_ _=>by go_simp) rfl rfl (λ_=>rfl) (thash_S y) (eY_ok y.root_len).1 (λ_ _ _ hv=>hv.fact.2.1) ?_;have hx32:=x.root_len;have hy32:=y.root_len;have sz:∀l:zu,l.length=32->(By l).toArray.size=32:=λl h=>by rw [aW,By_len,h]
 refine n_new hst [⟨3,none,47,[.agg 32 (By x.root).toArray]⟩,⟨4,none,47,[.agg 32 (By y.root).toArray]⟩] [(By eC).toArray,(By eC).toArray] [.tmp 7,.tmp 10] rfl rfl rfl (λu hu=>?_) ⟨rfl,rfl,trivial⟩ rfl ⟨⟨rfl,rfl,rfl⟩,⟨rfl,rfl,rfl⟩,rfl⟩ ⟨⟨rfl,?_,?_,By_one _⟩,⟨rfl,?_,?_,By_one _⟩,trivial⟩ ?_
 .rcases aH.1 hu with rfl|hu
  .exact(eY_ok hx32).1
  .rw [aD.1 hu];exact(eY_ok hy32).1
 .exact(sz eC rfl).trans (sz _ hx32).symm
 .show _=some (By x.root).toArray.size;rw [sz _ hx32];rfl
 .exact(sz eC rfl).trans (sz _ hy32).symm
 .show _=some (By y.root).toArray.size;rw [sz _ hy32];rfl
 refine zJ (hK _ (s_keep [1,2,3,4] [1,3,4] rfl rfl ?_));refine s_regH 13 (by decide) (by kernel_rfl) (by kernel_rfl) λK hK G S w0 hst=>?_;refine h_lit zY [(1:UInt8)] rfl rfl rfl rfl rfl rfl (λ_=>rfl) rfl (by decide) (by decide) λB=>?_;refine h_op hst (.s 3 0 32 32) trivial rfl rfl rfl rfl (runO_all rfl underlying47 rfl rfl) (h_op hst (.s 4 0 32 32) trivial rfl rfl rfl rfl (runO_all rfl underlying47 rfl rfl) ?_);refine h_parts [.slice (some ⟨B,0,none⟩) 1 1,(SV.s 3 0 32 32).den G,(SV.s 4 0 32 32).den G] [[1],x.root,y.root] hst rfl rfl rfl rfl rfl rfl rfl (by decide) (by decide) (λw hw hu=>?_) λA=>?_
 .have h2:Rd 1 eB (some ⟨B,0,none⟩) 1 [1] w:=hu 0 _ rfl (by kernel_rfl);exact⟨h2.sb,sb_var (j:=3) rfl hx32 (by decide) G S w hw,sb_var (j:=4) rfl hy32 (by decide) G S w hw,trivial⟩
 refine h_call (r:=.q (eY 32 (gN x.root y.root))) hst [.slice (some ⟨A,0,none⟩) 3 3] rfl rfl rfl rfl own_tsum rfl rfl (λ_=>rfl) (eY_ok (n:=32) (digest256_len _)).1 (λw hw hu=>?_) ?_
 .have hA:PT w (some ⟨A,0,none⟩) [[1],x.root,y.root]:=hu 3 _ rfl (by kernel_rfl)
  have hr2:=sum256_f (some ⟨A,0,none⟩) [[1],x.root,y.root] 3 w hw.fact.2.2 hA (by simp) (by simp);have e:gN x.root y.root=dJ dK [[1],x.root,y.root].flatten:=by simp [gN]
  show Calls prog _ _ w λe w'=>e = .returned (.agg (By (gN x.root y.root)).toArray)/\_;rw [e];exact hr2
 refine h_op hst (.a 1 (0+1*0)) trivial rfl rfl rfl rfl (runO_ixA 0 rfl underlying233 rfl rfl rfl (by decide)) ?_;refine h_opV hst (.v x.val) trivial rfl rfl rfl rfl (runO_ldA _ rfl rfl rfl rfl underlying29 rfl) ?_;refine h_callS (F':=TF x) (r:=.v (.int .i64 (x.len:Int))) hst [x.val] rfl rfl rfl rfl (λ_ _=>by go_simp) rfl rfl (λ_=>rfl) trivial (tsize_S x) (λ_ _ _ hv=>hv.fact.1) ?_;refine h_op hst (.a 1 (0+1*1)) trivial rfl rfl rfl rfl (runO_ixA 1 rfl underlying233 rfl rfl rfl (by decide)) ?_;refine h_opV hst (.v y.val) trivial rfl rfl rfl rfl (runO_ldA _ rfl rfl rfl rfl underlying29 rfl) ?_;refine h_callS (F':=TF y) (r:=.v (.int .i64 (y.len:Int))) hst [y.val] rfl rfl rfl rfl (λ_ _=>by go_simp) rfl rfl (λ_=>rfl) trivial (tsize_S y) (λ_ _ _ hv=>hv.fact.2.1) ?_;refine zV hst rfl ?_;refine h_num 22 ((x.len+y.len:Nat):Int) rfl (wrapI (by omega) (by omega) (by omega)) ?_;refine zV hst rfl (h_end hst (zB rfl (zJ (hK _ (zP (k_give 2 rfl (E':=[]) trivial λg=>k_objOut 0 rfl ?_))))));exact zG g rfl (λ_ hw _=>⟨hw.1,hw.2.1,hw.2.2.1⟩) zU
def own_tput:Own 113:=λ_ _=>by go_simp
theorem putT_len:∀(l:za) (p:PairT),l.length<=(dQ l p).length/\(dQ l p).length<=l.length+1
 | [],_=>⟨aL _,aF _⟩
 | q::l,p=>by
  have:=putT_len l p;unfold dQ;split
  .simp only [List.length_cons];omega
  .split
   .simp
   .simp
def wrapB2{d e r:Nat}(h:d=255-r/\r<=255)(he:(256-r)%256=e):IntKind.u8.wrap ((d:Int)+1)=(e:Int):=by unfold uR;simp [qI,oQ];omega
def val_cells(t:TA):t.val.cells = #[t.val]:=by cases t<;>rfl
def leftT_one{d:Nat}{q:PairT}(h:cL q.1 d=0):cJ d [q]=[q]/\bU d [q]=[]:=by simp [cJ,bU,h]
def rightT_one{d:Nat}{q:PairT}(h:cL q.1 d≠0):cJ d [q]=[]/\bU d [q]=[q]:=by simp [cJ,bU,h]
def TOk.nil{r:Nat}{l:za}(h:l=[]):TOk r l .nil:=by cases r<;>exact h
def TOk.leaf{r:Nat}{l:za}{g h:Nat}{p:PairT}(e:l=[p]):TOk r l (.leaf g h p):=by cases r<;>exact e
def TOk.nil_inv{r:Nat}{l:za}(h:TOk r l .nil):l=[]:=by cases r<;>exact h
def TOk.leaf_inv{r:Nat}{l:za}{g h:Nat}{p:PairT}(e:TOk r l (.leaf g h p)):l=[p]:=by cases r<;>exact e
theorem tput_S:∀(r:Nat) (l:za) (t:TA) (h:Nat) (p:PairT),r<=256->TOk r l t->SortT l->gX l->dY (256-r) (p::l)->l.length+1<=1000000 ->
  Spec 113 [t.val,.pointer (some ⟨h,0,none⟩),.int .u8 (((256-r)%256:Nat):Int)] [] (λw=>TF t w/\ObjF h 218 (prPs p) w/\Tsh w) { ret:=λx:{ t':TA // TOk r (dQ l p) t' }=>.v x.1.val,own:=λ_=>[],p:=λx=>TF x.1 }:=by
 intro r
 induction r using Nat.strongRecOn with
 | ind r ih =>
 intro l t h p hr ht hs hk hsh hl
 obtain⟨D,hD⟩:∃D,(256-r)%256=D:=⟨_,rfl⟩;rw [hD];refine zQ [.c (.v t.val),.c (.v (.pointer (some ⟨h,0,none⟩))),.c (.v (.int .u8 (D:Int)))] 71 func113 rfl (by rw [ntmps113];rfl) (more_ok trivial (two_ok trivial trivial)) λb=>?_;refine s_pure (OkT2 p) (λw hw _=>prPs_ok hw.2.1.2) λhp2=>?_;refine zA rfl (zM λK hK=>?_)
 cases t with
 | nil =>
  obtain rfl:=ht.nil_inv;refine s_regD 23 (by decide) (by kernel_rfl) (by kernel_rfl) λK1 hK1 G S w0 hst=>?_;refine g_autoS zY hst rfl ?_;refine g_skips rfl ?_;refine g_autoS zY hst rfl ?_;refine g_endS hst ?_;refine zJ (hK1 _ ?_);refine s_yes rfl ?_;refine zC rfl λK2 hK2=>?_;refine z6 [.pointer (some ⟨h,0,none⟩)] (λ_ _=>by go_simp) rfl (tleaf_S h p) (λ_ hw _=>⟨hw.2.1,hw.2.2⟩) λg=>?_;refine zB rfl (zJ (hK2 _ ?_));exact zP (zG ⟨.leaf g h p,TOk.leaf rfl⟩ rfl (λ_ hw _=>hw.1) zU)
 | leaf g0 h0 q =>
  obtain rfl:=ht.leaf_inv;have hq:=hk q aM;refine s_regD 23 (by decide) (by kernel_rfl) (by kernel_rfl) λK1 hK1 G S w0 hst=>?_;refine g_autoS zY hst rfl ?_;refine g_ldO zY hst rfl rfl rfl rfl rfl rfl (obj_fact λ_ h _=>h.1.1) ?_;refine g_autoS zY hst rfl ?_;refine g_ldO zY hst rfl rfl rfl rfl rfl rfl (obj_fact λ_ h _=>h.1.1) ?_;refine g_autoS zY hst rfl ?_;refine g_ldO zY hst rfl rfl rfl rfl rfl rfl (obj_fact λ_ h _=>h.1.2) ?_;refine g_autoS zY hst rfl ?_;refine g_ldO zY hst rfl rfl rfl rfl rfl rfl (obj_fact λ_ h _=>h.2.1) ?_;refine g_autoS zY hst rfl ?_;refine g_opS (.b (decide (q.1=p.1))) trivial rfl rfl rfl (run_eqY rfl rfl rfl underlying47 (by kernel_rfl) hq hp2.1) ?_
  by_cases he:q.1=p.1
  .refine g_is 29 true rfl (by simp [he]) ?_
   refine g_autoS zY hst rfl ?_;refine g_endS hst ?_;refine zJ (hK1 _ ?_);refine s_yes rfl ?_;refine zC rfl λK2 hK2=>?_;refine z6 [.pointer (some ⟨h,0,none⟩)] (λ_ _=>by go_simp) rfl (tleaf_S h p) (λ_ hw _=>⟨hw.2.1,hw.2.2⟩) λg=>?_;refine zB rfl (zJ (hK2 _ ?_));have e2:dQ [q] p=[p]:=by simp [dQ,he,cY]
   exact zP (zG ⟨.leaf g h p,TOk.leaf e2⟩ rfl (λ_ hw _=>hw.1) zU)
  refine g_is 29 false rfl (by simp [he]) ?_;refine g_autoS zY hst rfl ?_;refine g_endS hst ?_;refine zJ (hK1 _ ?_);refine s_no rfl ?_;refine zO (hK _ ?_)
  obtain⟨r,rfl⟩:∃q,r=q+1:=⟨r-1,by
   by_cases e:r=0
   .subst e;exact absurd (mA.all hq hp2.1 (hsh q (by simp) p (by simp))) he
   .omega⟩
  obtain rfl:255-r=D:=by omega
  clear hst hK1;rw [show 256-(r+1)=255-r by omega] at hsh;obtain⟨d,hdr⟩:∃d,255-r=d:=⟨_,rfl⟩;obtain⟨e8,he8⟩:∃e,(256-r)%256=e:=⟨_,rfl⟩;have ih2:=λl t h p ht hs hk=>ih r (by omega) l t h p (by omega) ht hs hk;simp only [he8] at ih2;clear ih
  have hd:d<256:=by omega
  rw [hdr] at hsh ⊢
  have h2:2<=(dQ [q] p).length:=by
   by_cases h3:dG q.1 p.1=true
   .simp [dQ,h3]
   .simp [dQ,h3,he]
  refine s_keep [0,1,2] [] rfl rfl ?_;refine zC rfl λK1 hK1=>?_;refine zZ rfl (obj_fact λ_ h _=>h.1.1) ?_;refine zB rfl (zJ (hK1 _ ?_));refine zM λK2 hK2=>?_;refine zC rfl λK6 hK6=>?_;refine zZ rfl (obj_fact λ_ h _=>h.1.1) ?_;refine zB rfl (zJ (hK6 _ ?_));refine s_yes rfl ?_
  have hrest:∀x y:TA,TOk r (cJ d [q]) x->TOk r (bU d [q]) y->∀en,Weak en ⟨[(1,.v (.pointer (some ⟨h,0,none⟩))),(2,.v (.int .u8 (d:Int))),(7,.a 7 0)],[⟨7,none,233,sdPs x y⟩],[],λw=>TF x w/\TF y w/\ObjF h 218 (prPs p) w/\Tsh w,λ_=>True⟩->kS b K2 71 en:=by
   intro x y hx hy en hw;refine k_weak hw (hK2 _ ?_);have hb2:=gE p.1 d;refine zC rfl λK3 hK3=>?_;refine zZ rfl (obj_fact λ_ h _=>h.2.2.1) ?_;refine zB rfl ?_;refine z6 [.agg (By p.1).toArray,.int .u8 (d:Int)] own_tbit rfl (tbit_S hp2.1 d hd) (λ_ _ _=>trivial) λ_=>?_;refine zB rfl ?_;have hlen:∀t':TA,TOk (r+1) (dQ [q] p) t'->t'.len<=1000000:=λt' ht'=>by rw [ht'.len];exact bM (putT_len [q] p).2 hl
   by_cases hbit:cL p.1 d=0
   .refine l_num 8 0 rfl (by rw [hbit];rfl) ?_
    refine zJ (hK3 _ ?_);refine s_keep [1,2,7,8] [7] rfl rfl ?_;refine zC rfl λK4 hK4=>?_;refine l_op (.a 7 (0+1*0)) trivial rfl rfl rfl (runO_ixA 0 rfl underlying233 rfl rfl rfl (by decide)) ?_;refine l_opV (.v x.val) trivial rfl rfl rfl (runO_ldA _ rfl rfl rfl rfl underlying29 rfl) ?_;refine zB rfl ?_;refine l_num 66 (e8:Int) rfl (wrapB2 ⟨hdr.symm,by omega⟩ he8) ?_;have eL:cJ d (dQ [q] p)=dQ (cJ d [q]) p:=by rw [kO hs hk hp2.1,if_pos hbit]
    have eR:bU d (dQ [q] p)=bU d [q]:=by rw [jN hs hk hp2.1,if_pos hbit]
    have hsh2:dY (256-r) (p::cJ d [q]):=by have:=hsh.left;rw [show cJ d (p::[q])=p::cJ d [q] by simp [cJ,hbit],show d+1=256-r by omega] at this;exact this
    refine z6 [x.val,.pointer (some ⟨h,0,none⟩),.int .u8 (e8:Int)] own_tput rfl (ih2 (cJ d [q]) x h p hx (hs.filter _) (hk.filter _) hsh2 (bM (k9 (kG _ _) 1) hl)) (λ_ h _=>⟨h.2.1,h.2.2.2.1,h.2.2.2.2⟩) λx'=>?_;refine zB rfl ?_;refine l_op (.a 7 (0+1*0)) trivial rfl rfl rfl (runO_ixA 0 rfl underlying233 rfl rfl rfl (by decide)) ?_;refine l_stA (sdPs x'.1 y) rfl rfl rfl rfl rfl rfl rfl (val_cells _) (val_one _) (show _<2 by decide) (sdPs_ok _ _) rfl ?_;refine zJ (hK4 _ ?_);have hT:∀g,TOk (r+1) (dQ [q] p) (.node g x'.1 y):=λg=>⟨h2,by show TOk r (cJ (255-r) (dQ [q] p)) x'.1;rw [hdr,eL];exact x'.2,by show TOk r (bU (255-r) (dQ [q] p)) y;rw [hdr,eR];exact hy⟩;refine s_keep [7] [7] rfl rfl ?_;refine zC rfl λK5 hK5=>?_;refine z6 [.agg #[x'.1.val,y.val]] own_tinner rfl (tinner_S x'.1 y (hlen _ (hT 0))) (λ_ h _=>⟨h.1,h.2.2.2.1,h.2.2.2.2.2⟩) λg=>?_;refine zB rfl (zJ (hK5 _ ?_));exact zP (zG ⟨.node g x'.1 y,hT g⟩ rfl (λ_ hw _=>hw.1) zU)
   .refine l_num 8 1 rfl (by rw [show cL p.1 d=1 by omega];rfl) ?_
    refine zJ (hK3 _ ?_);refine s_keep [1,2,7,8] [7] rfl rfl ?_;refine zC rfl λK4 hK4=>?_;refine l_op (.a 7 (0+1*1)) trivial rfl rfl rfl (runO_ixA 1 rfl underlying233 rfl rfl rfl (by decide)) ?_;refine l_opV (.v y.val) trivial rfl rfl rfl (runO_ldA _ rfl rfl rfl rfl underlying29 rfl) ?_;refine zB rfl ?_;refine l_num 66 (e8:Int) rfl (wrapB2 ⟨hdr.symm,by omega⟩ he8) ?_;have eL:cJ d (dQ [q] p)=cJ d [q]:=by rw [kO hs hk hp2.1,if_neg hbit]
    have eR:bU d (dQ [q] p)=dQ (bU d [q]) p:=by rw [jN hs hk hp2.1,if_neg hbit]
    have hsh2:dY (256-r) (p::bU d [q]):=by have:=hsh.right;rw [show bU d (p::[q])=p::bU d [q] by simp [bU,hbit],show d+1=256-r by omega] at this;exact this
    refine z6 [y.val,.pointer (some ⟨h,0,none⟩),.int .u8 (e8:Int)] own_tput rfl (ih2 (bU d [q]) y h p hy (hs.filter _) (hk.filter _) hsh2 (bM (k9 (kG _ _) 1) hl)) (λ_ h _=>⟨h.2.2.1,h.2.2.2.1,h.2.2.2.2⟩) λy'=>?_;refine zB rfl ?_;refine l_op (.a 7 (0+1*1)) trivial rfl rfl rfl (runO_ixA 1 rfl underlying233 rfl rfl rfl (by decide)) ?_;refine l_stA (sdPs x y'.1) rfl rfl rfl rfl rfl rfl rfl (val_cells _) (val_one _) (show _<2 by decide) (sdPs_ok _ _) rfl ?_;refine zJ (hK4 _ ?_);have hT:∀g,TOk (r+1) (dQ [q] p) (.node g x y'.1):=λg=>⟨h2,by show TOk r (cJ (255-r) (dQ [q] p)) x;rw [hdr,eL];exact hx,by show TOk r (bU (255-r) (dQ [q] p)) y'.1;rw [hdr,eR];exact y'.2⟩;refine s_keep [7] [7] rfl rfl ?_;refine zC rfl λK5 hK5=>?_;refine z6 [.agg #[x.val,y'.1.val]] own_tinner rfl (tinner_S x y'.1 (hlen _ (hT 0))) (λ_ h _=>⟨h.2.2.1,h.1,h.2.2.2.2.2⟩) λg=>?_;refine zB rfl (zJ (hK5 _ ?_));exact zP (zG ⟨.node g x y'.1,hT g⟩ rfl (λ_ hw _=>hw.1) zU)
  have hb3:=gE q.1 d;refine s_lit (zB rfl ?_);refine zZ rfl (obj_fact λ_ h _=>h.1.1) ?_;refine zB rfl ?_;refine zZ rfl (obj_fact λ_ h _=>h.1.2) ?_;refine zB rfl ?_;refine z6 [.agg (By q.1).toArray,.int .u8 (d:Int)] own_tbit rfl (tbit_S hq d hd) (λ_ _ _=>trivial) λ_=>?_;refine zB rfl ?_
  by_cases hqb:cL q.1 d=0
  .obtain⟨e1,e2⟩:=leftT_one hqb;refine l_num 51 0 rfl (by rw [hqb];rfl) ?_;refine l_op (.a 7 (0+1*0)) trivial rfl rfl rfl (runO_ixA 0 rfl underlying233 rfl rfl rfl (by decide)) ?_;refine l_stA (sdPs (.leaf g0 h0 q) .nil) rfl rfl rfl rfl rfl rfl rfl (val_cells (.leaf g0 h0 q)) (val_one (.leaf g0 h0 q)) (show _<2 by decide) (sdPs_ok _ _) rfl ?_;exact zJ (hrest (.leaf g0 h0 q) .nil (TOk.leaf e1) (TOk.nil e2) _ ⟨zE rfl, zL rfl rfl, .refl _,λ_ h _=>⟨h.2.1,trivial,h.2.2.1,h.2.2.2⟩, zU⟩)
  .obtain⟨e1,e2⟩:=rightT_one hqb;refine l_num 51 1 rfl (by rw [show cL q.1 d=1 by omega];rfl) ?_;refine l_op (.a 7 (0+1*1)) trivial rfl rfl rfl (runO_ixA 1 rfl underlying233 rfl rfl rfl (by decide)) ?_;refine l_stA (sdPs .nil (.leaf g0 h0 q)) rfl rfl rfl rfl rfl rfl rfl (val_cells (.leaf g0 h0 q)) (val_one (.leaf g0 h0 q)) (show _<2 by decide) (sdPs_ok _ _) rfl ?_;exact zJ (hrest .nil (.leaf g0 h0 q) (TOk.nil e1) (TOk.leaf e2) _ ⟨zE rfl, zL rfl rfl, .refl _,λ_ h _=>⟨trivial,h.2.1,h.2.2.1,h.2.2.2⟩, zU⟩)
 | node g0 x0 y0 =>
  obtain⟨r,rfl⟩:∃q,r=q+1:=⟨r-1,by
   cases r with
   | zero=>exact ht.elim
   | succ r=>rfl⟩
  obtain rfl:255-r=D:=by omega
  rw [show 256-(r+1)=255-r by omega] at hsh;obtain⟨d,hdr⟩:∃d,255-r=d:=⟨_,rfl⟩;obtain⟨e8,he8⟩:∃e,(256-r)%256=e:=⟨_,rfl⟩;have ih2:=λl t h p ht hs hk=>ih r (by omega) l t h p (by omega) ht hs hk;simp only [he8] at ih2;clear ih
  have hd:d<256:=by omega
  rw [hdr] at hsh ⊢;obtain⟨hl2,hx0,hy0⟩:=ht;rw [hdr] at hx0 hy0;have h2:2<=(dQ l p).length:=bM hl2 (putT_len l p).1;refine s_regD 23 (by decide) (by kernel_rfl) (by kernel_rfl) λK1 hK1 G S w0 hst=>?_;refine g_autoS zY hst rfl ?_;refine g_ldO zY hst rfl rfl rfl rfl rfl rfl (obj_fact λ_ h _=>h.1.1) ?_;refine g_autoS zY hst rfl ?_;refine g_endS hst ?_;refine zJ (hK1 _ ?_);refine s_no rfl ?_;refine zO (hK _ ?_);clear hst hK1;refine s_keep [0,1,2] [] rfl rfl ?_;refine zC rfl λK1 hK1=>?_;refine zZ rfl (obj_fact λ_ h _=>h.1.1) ?_;refine zB rfl (zJ (hK1 _ ?_));refine zM λK2 hK2=>?_;refine zC rfl λK6 hK6=>?_;refine zZ rfl (obj_fact λ_ h _=>h.1.1) ?_;refine zB rfl (zJ (hK6 _ ?_));refine s_no rfl ?_
  have hrest:∀x y:TA,TOk r (cJ d l) x->TOk r (bU d l) y->∀en,Weak en ⟨[(1,.v (.pointer (some ⟨h,0,none⟩))),(2,.v (.int .u8 (d:Int))),(7,.a 7 0)],[⟨7,none,233,sdPs x y⟩],[],λw=>TF x w/\TF y w/\ObjF h 218 (prPs p) w/\Tsh w,λ_=>True⟩->kS b K2 71 en:=by
   intro x y hx hy en hw;refine k_weak hw (hK2 _ ?_);have hb2:=gE p.1 d;refine zC rfl λK3 hK3=>?_;refine zZ rfl (obj_fact λ_ h _=>h.2.2.1) ?_;refine zB rfl ?_;refine z6 [.agg (By p.1).toArray,.int .u8 (d:Int)] own_tbit rfl (tbit_S hp2.1 d hd) (λ_ _ _=>trivial) λ_=>?_;refine zB rfl ?_;have hlen:∀t':TA,TOk (r+1) (dQ l p) t'->t'.len<=1000000:=λt' ht'=>by rw [ht'.len];exact bM (putT_len l p).2 hl
   by_cases hbit:cL p.1 d=0
   .refine l_num 8 0 rfl (by rw [hbit];rfl) ?_
    refine zJ (hK3 _ ?_);refine s_keep [1,2,7,8] [7] rfl rfl ?_;refine zC rfl λK4 hK4=>?_;refine l_op (.a 7 (0+1*0)) trivial rfl rfl rfl (runO_ixA 0 rfl underlying233 rfl rfl rfl (by decide)) ?_;refine l_opV (.v x.val) trivial rfl rfl rfl (runO_ldA _ rfl rfl rfl rfl underlying29 rfl) ?_;refine zB rfl ?_;refine l_num 66 (e8:Int) rfl (wrapB2 ⟨hdr.symm,by omega⟩ he8) ?_;have eL:cJ d (dQ l p)=dQ (cJ d l) p:=by rw [kO hs hk hp2.1,if_pos hbit]
    have eR:bU d (dQ l p)=bU d l:=by rw [jN hs hk hp2.1,if_pos hbit]
    have hsh2:dY (256-r) (p::cJ d l):=by have:=hsh.left;rw [show cJ d (p::l)=p::cJ d l by simp [cJ,hbit],show d+1=256-r by omega] at this;exact this
    refine z6 [x.val,.pointer (some ⟨h,0,none⟩),.int .u8 (e8:Int)] own_tput rfl (ih2 (cJ d l) x h p hx (hs.filter _) (hk.filter _) hsh2 (bM (k9 (kG _ _) 1) hl)) (λ_ h _=>⟨h.2.1,h.2.2.2.1,h.2.2.2.2⟩) λx'=>?_;refine zB rfl ?_;refine l_op (.a 7 (0+1*0)) trivial rfl rfl rfl (runO_ixA 0 rfl underlying233 rfl rfl rfl (by decide)) ?_;refine l_stA (sdPs x'.1 y) rfl rfl rfl rfl rfl rfl rfl (val_cells _) (val_one _) (show _<2 by decide) (sdPs_ok _ _) rfl ?_;refine zJ (hK4 _ ?_);have hT:∀g,TOk (r+1) (dQ l p) (.node g x'.1 y):=λg=>⟨h2,by show TOk r (cJ (255-r) (dQ l p)) x'.1;rw [hdr,eL];exact x'.2,by show TOk r (bU (255-r) (dQ l p)) y;rw [hdr,eR];exact hy⟩;refine s_keep [7] [7] rfl rfl ?_;refine zC rfl λK5 hK5=>?_;refine z6 [.agg #[x'.1.val,y.val]] own_tinner rfl (tinner_S x'.1 y (hlen _ (hT 0))) (λ_ h _=>⟨h.1,h.2.2.2.1,h.2.2.2.2.2⟩) λg=>?_;refine zB rfl (zJ (hK5 _ ?_));exact zP (zG ⟨.node g x'.1 y,hT g⟩ rfl (λ_ hw _=>hw.1) zU)
   .refine l_num 8 1 rfl (by rw [show cL p.1 d=1 by omega];rfl) ?_
    refine zJ (hK3 _ ?_);refine s_keep [1,2,7,8] [7] rfl rfl ?_;refine zC rfl λK4 hK4=>?_;refine l_op (.a 7 (0+1*1)) trivial rfl rfl rfl (runO_ixA 1 rfl underlying233 rfl rfl rfl (by decide)) ?_;refine l_opV (.v y.val) trivial rfl rfl rfl (runO_ldA _ rfl rfl rfl rfl underlying29 rfl) ?_;refine zB rfl ?_;refine l_num 66 (e8:Int) rfl (wrapB2 ⟨hdr.symm,by omega⟩ he8) ?_;have eL:cJ d (dQ l p)=cJ d l:=by rw [kO hs hk hp2.1,if_neg hbit]
    have eR:bU d (dQ l p)=dQ (bU d l) p:=by rw [jN hs hk hp2.1,if_neg hbit]
    have hsh2:dY (256-r) (p::bU d l):=by have:=hsh.right;rw [show bU d (p::l)=p::bU d l by simp [bU,hbit],show d+1=256-r by omega] at this;exact this
    refine z6 [y.val,.pointer (some ⟨h,0,none⟩),.int .u8 (e8:Int)] own_tput rfl (ih2 (bU d l) y h p hy (hs.filter _) (hk.filter _) hsh2 (bM (k9 (kG _ _) 1) hl)) (λ_ h _=>⟨h.2.2.1,h.2.2.2.1,h.2.2.2.2⟩) λy'=>?_;refine zB rfl ?_;refine l_op (.a 7 (0+1*1)) trivial rfl rfl rfl (runO_ixA 1 rfl underlying233 rfl rfl rfl (by decide)) ?_;refine l_stA (sdPs x y'.1) rfl rfl rfl rfl rfl rfl rfl (val_cells _) (val_one _) (show _<2 by decide) (sdPs_ok _ _) rfl ?_;refine zJ (hK4 _ ?_);have hT:∀g,TOk (r+1) (dQ l p) (.node g x y'.1):=λg=>⟨h2,by show TOk r (cJ (255-r) (dQ l p)) x;rw [hdr,eL];exact hx,by show TOk r (bU (255-r) (dQ l p)) y'.1;rw [hdr,eR];exact y'.2⟩;refine s_keep [7] [7] rfl rfl ?_;refine zC rfl λK5 hK5=>?_;refine z6 [.agg #[x.val,y'.1.val]] own_tinner rfl (tinner_S x y'.1 (hlen _ (hT 0))) (λ_ h _=>⟨h.2.2.1,h.1,h.2.2.2.2.2⟩) λg=>?_;refine zB rfl (zJ (hK5 _ ?_));exact zP (zG ⟨.node g x y'.1,hT g⟩ rfl (λ_ hw _=>hw.1) zU)
  exact zO (hrest x0 y0 hx0 hy0 _ ⟨zE rfl, zL rfl rfl, .refl _,λ_ h _=>⟨h.1.2.1,h.1.2.2,h.2.1,h.2.2⟩, zU⟩)
def runO_ldB{L:ze}{R:zd}{F M:zv}{N:Nat}{E:SE}{o:Oper}{t:yn}{x:yo}{g off ty:Nat}{ps:zb}{d:TypeDesc}(v:Value)(ho:o.op = .load t x)(hx:evS E x=some (.v (.pointer (some ⟨g,off,none⟩))))(hv:(catP ps)[off]?=some v)(hu:prog.underlying t=some d)(hr:d.isRow=false)(h:∀G S w,View G S L R F M w->ObjF g ty ps w) :
  ∀(G:zk) (S:zm) (a:Act) (w:yp),Fr N (denE G E) a->View G S L R F M w->(execOp a.eval o).run prog w = .ok (.value ((SV.v v).den G)) w:=λG S a w ha hw=>by
 have h1:a.eval x = .pointer (some ⟨g,off,none⟩):=ha.eval (evS_ok hx);have h2:=(h G S w hw).1.cell off;rw [hv] at h2;have h3:=run_load_cell hu hr h2
 unfold execOp
 simp only [ho,h1,aG,h3,aC,aI]
 rfl
instance:Pst (λ_:yp=>True):=⟨λ_ _ _ _=>trivial⟩
def nd_at(a b:TA):(catP (ndPs a b))[34]?=some a.val/\(catP (ndPs a b))[35]?=some b.val:=by
 have h:(By (gN a.root b.root)).length=32:=by rw [By_len];exact digest256_len _
 have e:(catP (ndPs a b)).toList=By (gN a.root b.root)++[.int .i64 ((a.len+b.len:Nat):Int),.pointer none,a.val,b.val]:=by simp [ndPs,catP,Pt.cells,SC.den]
 rw [<-c9,<-c9,e,bN (by omega),bN (by omega),h];exact⟨rfl,rfl⟩
def FndW:Option (Nat×PairT)->zv
  | none,_=>True
  | some x,w=>ObjF x.1 218 (prPs x.2) w
instance{x:Option (Nat×PairT)}:Pst (FndW x):=⟨λw w' h hb=>by
  cases x with
  | none=>trivial
  | some x=>exact⟨h.1.later hb,h.2⟩⟩
def own_tRoot:Own 43:=λ_ _=>by go_simp
def trPs(t:TA)(d:Nat):zb:=[.one (.v t.val),.one (.v (.int .u8 (d:Int)))]
def eTr(t:TA)(d:Nat):SQ:=.p (trPs t d)
def val_cells1(t:TA):t.val.cells = #[t.val]:=by cases t<;>rfl
def trPs_ok(t:TA)(d:Nat):OkP (trPs t d):=λp hp=>by
 rcases aH.1 hp with rfl|hp
 .exact⟨trivial,val_one t,val_cells1 t⟩
 .rw [aD.1 hp];exact⟨trivial,rfl,rfl⟩
def tRoot_S(t:TA)(d:Nat):Spec 43 [(eTr t d).den] [] (TF t) (one (.q (eY 32 t.root))):=by refine zQ [eTr t d] 6 func43 rfl (by rw [ntmps43];rfl) (one_ok (trPs_ok t d)) λb=>?_;refine zA rfl (zC rfl λK hK=>?_);refine z6 [t.val] (λ_ _=>by go_simp) rfl (thash_S t) (λ_ h _=>h) λ_=>?_;refine zB rfl (zJ (hK _ ?_));exact zP (zG () rfl (λ_ _ _=>trivial) zU)
def tLen_S(t:TA)(d:Nat):Spec 108 [(eTr t d).den] [] (TF t) (one (.v (.int .i64 (t.len:Int)))):=by refine zQ [eTr t d] 6 func108 rfl (by rw [ntmps108];rfl) (one_ok (trPs_ok t d)) λb=>?_;refine zA rfl (zC rfl λK hK=>?_);refine z6 [t.val] (λ_ _=>by go_simp) rfl (tsize_S t) (λ_ h _=>h) λ_=>?_;refine zB rfl (zJ (hK _ ?_));exact zP (zG () rfl (λ_ _ _=>trivial) zU)
def retL:TA->RV
  | .leaf _ _ p=>.t [eY 32 p.1,eY 32 p.2,.c (.v (.bool true))]
  | _=>.t [eY 32 eC,eY 32 eC,.c (.v (.bool false))]
def retSd(d:Nat):TA->RV
  | .node _ a b=>.t [eTr a d,eTr b d,.c (.v (.bool true))]
  | _=>.t [eTr .nil 0,eTr .nil 0,.c (.v (.bool false))]
theorem tLeaf_S(t:TA)(d:Nat):Spec 109 [(eTr t d).den] [] (TF t) { ret:=λ_:Unit=>retL t,own:=λ_=>[] }:=by
 refine zQ [eTr t d] 34 func109 rfl (by rw [ntmps109];rfl) (one_ok (trPs_ok t d)) λb=>?_;refine zA rfl (zM λK hK=>?_);cases t with
 | nil =>
  refine zA rfl (s_yes rfl (zA rfl ?_));exact zP (zG () rfl (λ_ _ _=>trivial) zU)
 | leaf g h p =>
  refine zC rfl λK2 hK2=>zZ rfl (obj_fact λ_ h _=>h.1) (zB rfl (zJ (hK2 _ (s_no rfl (zO (hK _ ?_))))));refine s_pure (OkP (lfPs h p)/\OkP (prPs p)) (λw hw _=>⟨hw.1.2,hw.2.2⟩) λ⟨ho1,ho2⟩=>?_;refine s_locs λG=>?_
  have hsub:∀x∈[(⟨1,some (G 1),31,trPs (.leaf g h p) d⟩:LV)],x∈withG G [⟨3,none,47,[.agg 32 (By eC).toArray]⟩,⟨2,none,47,[.agg 32 (By eC).toArray]⟩,⟨1,none,31,trPs (.leaf g h p) d⟩]/\x.g.isSome=true:=λx hx=>by rw [aD.1 hx];exact⟨aK _ (aK _ aM),rfl⟩
  refine zM λK3 hK3=>?_;refine s_anyP [0,1,2,3,4,5,6,7,8,9,10,11,12,13,14,15] 17 2 (λw=>InvL [⟨1,some (G 1),31,trPs (.leaf g h p) d⟩] w/\TF (.leaf g h p) w) (by kernel_rfl) rfl (inv_two hsub λ_ h _=>h) ?_;refine z7 0 (by kernel_rfl) rfl (λx hx=>(hsub x hx).1) (λ_ h=>h.1) ?_;refine z7 1 (by kernel_rfl) rfl (λx hx=>(hsub x hx).1) (λ_ h=>h.1) ?_;refine z7 2 (by kernel_rfl) rfl (λx hx=>(hsub x hx).1) (λ_ h=>h.1) ?_;refine z7 3 (by kernel_rfl) rfl (λx hx=>(hsub x hx).1) (λ_ h=>h.1) ?_;refine p_ldO zY 4 (by kernel_rfl) rfl rfl rfl rfl rfl rfl rfl ho1 (λ_ h=>h.2.1) ?_;refine z7 5 (by kernel_rfl) rfl (λx hx=>(hsub x hx).1) (λ_ h=>h.1) ?_;refine z7 6 (by kernel_rfl) rfl (λx hx=>(hsub x hx).1) (λ_ h=>h.1) ?_;refine p_ldO zY 7 (by kernel_rfl) rfl rfl rfl rfl rfl rfl rfl ho2 (λ_ h=>h.2.2) ?_;refine z7 8 (by kernel_rfl) rfl (λx hx=>(hsub x hx).1) (λ_ h=>h.1) ?_;refine z7 9 (by kernel_rfl) rfl (λx hx=>(hsub x hx).1) (λ_ h=>h.1) ?_;refine z7 10 (by kernel_rfl) rfl (λx hx=>(hsub x hx).1) (λ_ h=>h.1) ?_;refine z7 11 (by kernel_rfl) rfl (λx hx=>(hsub x hx).1) (λ_ h=>h.1) ?_;refine p_ldO zY 12 (by kernel_rfl) rfl rfl rfl rfl rfl rfl rfl ho1 (λ_ h=>h.2.1) ?_;refine z7 13 (by kernel_rfl) rfl (λx hx=>(hsub x hx).1) (λ_ h=>h.1) ?_;refine z7 14 (by kernel_rfl) rfl (λx hx=>(hsub x hx).1) (λ_ h=>h.1) ?_;refine p_ldO zY 15 (by kernel_rfl) rfl rfl rfl rfl rfl rfl rfl ho2 (λ_ h=>h.2.2) ?_;refine p_step 16 (by kernel_rfl) rfl λK4 hK4=>?_;refine zB rfl ?_
  refine zJ (hK4 _ (inv_two (λx hx=>by rw [aD.1 hx];exact⟨aK _ (aK _ aM),rfl⟩) λ_ h _=>h) ?_)
  refine p_tail [17,18] (by kernel_rfl) rfl ?_;refine zB rfl (zJ (hK3 _ ?_));exact zP (zG () rfl (λ_ _ _=>trivial) zU)
 | node g x y =>
  refine zC rfl λK2 hK2=>zZ rfl (obj_fact λ_ h _=>h.1) (zB rfl (zJ (hK2 _ (s_yes rfl (zA rfl ?_)))));exact zP (zG () rfl (λ_ _ _=>trivial) zU)
theorem tSides_S(t:TA)(d d':Nat)(hd:IntKind.u8.wrap ((d:Int)+1)=(d':Int)):Spec 110 [(eTr t d).den] [] (TF t) { ret:=λ_:Unit=>retSd d' t,own:=λ_=>[] }:=by
 refine zQ [eTr t d] 36 func110 rfl (by rw [ntmps110];rfl) (one_ok (trPs_ok t d)) λb=>?_;refine zA rfl (zM λK hK=>?_);cases t with
 | nil =>
  refine zA rfl (s_yes rfl (zA rfl ?_));exact zP (zG () rfl (λ_ _ _=>trivial) zU)
 | leaf g h p =>
  refine zC rfl λK2 hK2=>zZ rfl (obj_fact λ_ h _=>h.1) (zB rfl (zJ (hK2 _ (s_yes rfl (zA rfl ?_)))));exact zP (zG () rfl (λ_ _ _=>trivial) zU)
 | node g x y =>
  refine zC rfl λK2 hK2=>zZ rfl (obj_fact λ_ h _=>h.1) (zB rfl (zJ (hK2 _ (s_no rfl (zO (hK _ (zC rfl λK4 hK4=>zZ rfl (obj_fact λ_ h _=>h.1) (zB rfl (zJ (hK4 _ ?_))))))))));refine s_locs λG=>?_
  have hsub:∀u∈([⟨5,some (G 5),233,sdPs x y⟩,⟨1,some (G 1),31,trPs (.node g x y) d⟩]:ze),u∈withG G [⟨5,none,233,sdPs x y⟩,⟨3,none,31,trPs .nil 0⟩,⟨2,none,31,trPs .nil 0⟩,⟨1,none,31,trPs (.node g x y) d⟩]/\u.g.isSome=true:=λu hu=>by
   rcases aH.1 hu with rfl|hu
   .exact⟨aM,rfl⟩
   .rw [aD.1 hu];exact⟨aK _ (aK _ (aK _ aM)),rfl⟩
  refine zM λK3 hK3=>?_;refine s_anyP [0,1,2,3,4,5,6,7,8,9,10,11] 13 2 (InvL [⟨5,some (G 5),233,sdPs x y⟩,⟨1,some (G 1),31,trPs (.node g x y) d⟩]) (by kernel_rfl) rfl (inv_of hsub) ?_;refine p_frontO (.a 5 (0+1*0)) trivial 0 (by kernel_rfl) rfl rfl rfl rfl rfl (runO_ixA 0 rfl underlying233 rfl rfl rfl (by decide)) ?_;refine p_frontA (.v x.val) trivial 1 (by kernel_rfl) rfl rfl rfl rfl rfl (λx hx=>(hsub x hx).1) (λ_ h=>h) (runO_ldL _ rfl rfl rfl rfl underlying29 rfl) ?_;refine z7 2 (by kernel_rfl) rfl (λx hx=>(hsub x hx).1) (λ_ h=>h) ?_;refine z7 3 (by kernel_rfl) rfl (λx hx=>(hsub x hx).1) (λ_ h=>h) ?_;refine z7 4 (by kernel_rfl) rfl (λx hx=>(hsub x hx).1) (λ_ h=>h) ?_;refine z7 5 (by kernel_rfl) rfl (λx hx=>(hsub x hx).1) (λ_ h=>h) ?_;refine p_frontO (.a 5 (0+1*1)) trivial 6 (by kernel_rfl) rfl rfl rfl rfl rfl (runO_ixA 1 rfl underlying233 rfl rfl rfl (by decide)) ?_;refine p_frontA (.v y.val) trivial 7 (by kernel_rfl) rfl rfl rfl rfl rfl (λx hx=>(hsub x hx).1) (λ_ h=>h) (runO_ldL _ rfl rfl rfl rfl underlying29 rfl) ?_;refine z7 8 (by kernel_rfl) rfl (λx hx=>(hsub x hx).1) (λ_ h=>h) ?_;refine z7 9 (by kernel_rfl) rfl (λx hx=>(hsub x hx).1) (λ_ h=>h) ?_;refine z7 10 (by kernel_rfl) rfl (λx hx=>(hsub x hx).1) (λ_ h=>h) ?_;refine z7 11 (by kernel_rfl) rfl (λx hx=>(hsub x hx).1) (λ_ h=>h) ?_;refine p_step 12 (by kernel_rfl) rfl λK5 hK5=>?_;refine zB rfl ?_
  refine zJ (hK5 _ (inv_of λu hu=>by
   rcases aH.1 hu with rfl|hu
   .exact⟨aM,rfl⟩
   .rw [aD.1 hu];exact⟨aK _ (aK _ (aK _ aM)),rfl⟩) ?_)
  refine p_tail [13,14] (by kernel_rfl) rfl ?_;refine zB rfl (zJ (hK3 _ ?_));exact zP (zR zY () rfl (by decide) rfl (congrArg (λz:Int=>RV.t [.p [.one (.v x.val),.one (.v (.int .u8 z))],.p [.one (.v y.val),.one (.v (.int .u8 z))],.c (.v (.bool true))]) hd.symm) rfl (λ_ _ _=>trivial) zU)
def tPut_S(r:Nat)(l:za)(t:TA)(p:PairT)(hp:OkT2 p)(hr:r<=256)(ht:TOk r l t)(hs:SortT l)(hk:gX l)(hsh:dY (256-r) (p::l))(hl:l.length+1<=1000000) :
  Spec 75 [(eTr t ((256-r)%256)).den,(eY 32 p.1).den,(eY 32 p.2).den] [] (λw=>TF t w/\Tsh w) { ret:=λx:{ t':TA // TOk r (dQ l p) t' }=>.q (eTr x.1 ((256-r)%256)),own:=λ_=>[],p:=λx=>TF x.1 }:=by
 have hput:=λh=>tput_S r l t h p hr ht hs hk hsh hl;obtain⟨D,hD⟩:∃D,(256-r)%256=D:=⟨_,rfl⟩;rw [hD] at hput ⊢;refine zQ [eTr t D,eY 32 p.1,eY 32 p.2] 19 func75 rfl (by rw [ntmps75];rfl) (more_ok (trPs_ok t _) (two_ok (eY_ok hp.1).1 (eY_ok hp.2).1)) λb=>?_;refine zA rfl ?_;refine s_locs λG=>?_
 have hsub:∀u∈([⟨5,some (G 5),47,[.agg 32 (By p.2).toArray]⟩,⟨4,some (G 4),47,[.agg 32 (By p.1).toArray]⟩,⟨3,some (G 3),31,trPs t D⟩]:ze),u∈withG G [⟨6,none,31,trPs .nil 0⟩,⟨5,none,47,[.agg 32 (By p.2).toArray]⟩,⟨4,none,47,[.agg 32 (By p.1).toArray]⟩,⟨3,none,31,trPs t D⟩]/\u.g.isSome=true:=λu hu=>by
  rcases aH.1 hu with rfl|hu
  .exact⟨aK _ aM,rfl⟩
  rcases aH.1 hu with rfl|hu
  .exact⟨aK _ (aK _ aM),rfl⟩
  rw [aD.1 hu];exact⟨aK _ (aK _ (aK _ aM)),rfl⟩
 refine zM λK3 hK3=>?_;refine s_anyP [0,1,2,3,4,6,7,9,10] 11 2 (InvL [⟨5,some (G 5),47,[.agg 32 (By p.2).toArray]⟩,⟨4,some (G 4),47,[.agg 32 (By p.1).toArray]⟩,⟨3,some (G 3),31,trPs t D⟩]) (by kernel_rfl) rfl (inv_of hsub) ?_;refine z7 0 (by kernel_rfl) rfl (λx hx=>(hsub x hx).1) (λ_ h=>h) ?_;refine z7 1 (by kernel_rfl) rfl (λx hx=>(hsub x hx).1) (λ_ h=>h) ?_;refine z7 2 (by kernel_rfl) rfl (λx hx=>(hsub x hx).1) (λ_ h=>h) ?_;refine z7 3 (by kernel_rfl) rfl (λx hx=>(hsub x hx).1) (λ_ h=>h) ?_;refine z7 4 (by kernel_rfl) rfl (λx hx=>(hsub x hx).1) (λ_ h=>h) ?_;refine z7 6 (by kernel_rfl) rfl (λx hx=>(hsub x hx).1) (λ_ h=>h) ?_;refine z7 7 (by kernel_rfl) rfl (λx hx=>(hsub x hx).1) (λ_ h=>h) ?_;refine z7 9 (by kernel_rfl) rfl (λx hx=>(hsub x hx).1) (λ_ h=>h) ?_;refine z7 10 (by kernel_rfl) rfl (λx hx=>(hsub x hx).1) (λ_ h=>h) ?_;refine p_step 5 (by kernel_rfl) rfl λK5 hK5=>?_;refine zB rfl (l_give 12 (E':=[(8,.v t.val),(14,.v (.int .u8 (D:Int))),(17,.v (.int .u8 (D:Int))),(6,.a 6 0)]) rfl ⟨rfl,rfl,rfl,rfl,trivial⟩ λh=>l_objOut 0 rfl (zJ (hK5 _ (inv_of hsub) ?_)));refine p_step 8 (by kernel_rfl) rfl λK6 hK6=>?_;refine z6 [t.val,.pointer (some ⟨h,0,none⟩),.int .u8 (D:Int)] own_tput rfl (hput h) (λ_ h _=>⟨h.2.1,h.1,h.2.2⟩) λx=>zJ (hK6 _ (inv_of hsub) ?_);refine p_tail [11,12] (by kernel_rfl) rfl ?_;refine zB rfl (zJ (hK3 _ ?_));exact zP (zG x rfl (λ_ h _=>h.1) zU)
def own_tAll11:Own 129:=λ_ _=>by go_simp
theorem TOk.all_eq:∀{r:Nat} {l:za} {t:TA},TOk r l t->SortT l->gX l->dY (256-r) l->r<=256->t.all=l
 | _,_,.nil,h,_,_,_,_=>h.nil_inv.symm
 | _,_,.leaf _ _ _,h,_,_,_,_=>h.leaf_inv.symm
 | 0,_,.node _ _ _,h,_,_,_,_=>h.elim
 | r+1,l,.node _ a b,h,hs,hk,hsh,hr=>by
  obtain⟨_,h2,h3⟩:=h;have e:256-(r+1)=255-r:=by omega
  rw [e] at hsh;have e2:255-r+1=256-r:=by omega
  have hl:=hsh.left;have hr':=hsh.right;rw [e2] at hl hr';show a.all++b.all=l;rw [h2.all_eq (hs.filter _) (hk.filter _) hl (by omega),h3.all_eq (hs.filter _) (hk.filter _) hr' (by omega)];exact uE (by omega) hs hk hsh
theorem twalk_S{f:FuncId}(hf:Own f)(caps:zq)(Fc:zv)(JR:Nat->Res)(JX:Res):∀(t:TA) (i:Nat),
  (∀(j:Nat) (p:PairT) (h:Nat),t.all[j]?=some p->Spec f (.pointer (some ⟨h,0,none⟩)::caps) [JR (i+j)] (λw=>ObjF h 218 (prPs p) w/\Fc w) (bpost (JR (i+j+1)) JX)) ->
  Spec 168 [t.val,.func (.func f) #[] caps.toArray] [JR i] (λw=>TF t w/\Fc w) (bpost (JR (i+t.all.length)) JX):=by
 intro t
 induction t with
 | nil =>
  intro i _
  refine zQ [.c (.v TA.nil.val),.c (.v (.func (.func f) #[] caps.toArray))] 34 func168 rfl (by rw [ntmps168];rfl) (two_ok trivial trivial) λb=>?_;refine zA rfl (zM λK hK=>zA rfl (s_yes rfl (zA rfl ?_)));exact zP (zG true rfl (λ_ _ _=>trivial) zU)
 | leaf g h p =>
  intro i ht
  have htell:=ht 0 p h rfl;refine zQ [.c (.v (TA.leaf g h p).val),.c (.v (.func (.func f) #[] caps.toArray))] 34 func168 rfl (by rw [ntmps168];rfl) (two_ok trivial trivial) λb=>?_;refine zA rfl (zM λK hK=>zA rfl (s_no rfl (zO (hK _ (zM λK2 hK2=>zC rfl λK3 hK3=>zZ rfl (obj_fact λ_ h _=>h.1.1) (zB rfl (zJ (hK3 _ (s_yes rfl (zC rfl λK4 hK4=>zZ rfl (obj_fact λ_ h _=>h.1.1) (l_callV (own:=[JR (i+0)]) (R':=[]) (.pointer (some ⟨h,0,none⟩)::caps) rfl rfl rfl hf rfl rfl rfl (λ_ _=>rfl) htell (λ_ h _=>⟨h.1.2,h.2⟩) λt=>zB rfl (zJ (hK4 _ ?_)))))))))))));exact zP (zG t rfl (λ_ _ _=>trivial) zU)
 | node g x y ihx ihy =>
  intro i ht
  have hx:=ihx i λj p h hj=>ht j p h (by show(x.all++y.all)[j]?=_;rw [cW (aP.1 hj).1];exact hj)
  have hy:=ihy (i+x.all.length) λj p h hj=>by
   have:=ht (x.all.length+j) p h (by show(x.all++y.all)[_]?=_;rw [bN (by omega),fM];exact hj)
   rwa [<-bZ] at this
  have hlen:(TA.node g x y).all.length=x.all.length+y.all.length:=aA;rw [hlen];clear ihx ihy ht hlen;refine zQ [.c (.v (TA.node g x y).val),.c (.v (.func (.func f) #[] caps.toArray))] 34 func168 rfl (by rw [ntmps168];rfl) (two_ok trivial trivial) λb=>?_;refine zA rfl (zM λK hK=>zA rfl (s_no rfl (zO (hK _ (zM λK2 hK2=>zC rfl λK3 hK3=>zZ rfl (obj_fact λ_ h _=>h.1.1) (zB rfl (zJ (hK3 _ (s_no rfl (zO (hK2 _ (zC rfl λK4 hK4=>?_))))))))))));refine l_op (.v (.pointer (some ⟨g,34+1*0,none⟩))) trivial rfl rfl rfl (runO_ixP 0 rfl underlying233 rfl rfl rfl (by decide)) ?_;refine l_opV (.v x.val) trivial rfl rfl rfl (runO_ldB x.val rfl rfl (nd_at x y).1 underlying29 rfl (obj_fact λ_ h _=>h.1.1)) (zB rfl ?_);refine zI (own:=[JR i]) (R':=[]) [x.val,.func (.func f) #[] caps.toArray] (λ_ _=>by go_simp) rfl hx (λ_ h _=>⟨h.1.2.1,h.2⟩) λt=>?_
  cases t with
  | false =>
   refine zB rfl (zJ (hK4 _ ?_));exact zP (zG false rfl (λ_ _ _=>trivial) zU)
  | true =>
   refine zB rfl ?_;refine l_op (.v (.pointer (some ⟨g,34+1*1,none⟩))) trivial rfl rfl rfl (runO_ixP 1 rfl underlying233 rfl rfl rfl (by decide)) ?_;refine zB rfl (l_opV (.v y.val) trivial rfl rfl rfl (runO_ldB y.val rfl rfl (nd_at x y).2 underlying29 rfl (obj_fact λ_ h _=>h.2.1.1)) (zB rfl ?_));refine zI (own:=[JR (i+x.all.length)]) (R':=[]) [y.val,.func (.func f) #[] caps.toArray] (λ_ _=>by go_simp) rfl hy (λ_ h _=>⟨h.2.1.2.2,h.2.2⟩) λt=>?_;refine zB rfl (zJ (hK4 _ (zP ?_)));rw [<-bZ];exact zG t rfl (λ_ _ _=>trivial) zU
def telA(p:PairT):zq:=[(eY 32 p.1).den,(eY 32 p.2).den]
def ylPs(l:Nat):zb:=[.one (.v (.func (.yield l) #[] #[]))]
def ttell_S{l g h:Nat}{p:PairT}{r r1 r0:Res}{Fy:zv}(hy:YSpec l (telA p) Fy r r1 r0):Spec 129 [.pointer (some ⟨h,0,none⟩),.pointer (some ⟨g,0,none⟩)] [r] (λw=>ObjF h 218 (prPs p) w/\ObjF g 119 (ylPs l) w/\Fy w) (bpost r1 r0):=by refine zQ [.c (.v (.pointer (some ⟨h,0,none⟩))),.c (.v (.pointer (some ⟨g,0,none⟩)))] 14 func129 rfl (by rw [ntmps129];rfl) (two_ok trivial trivial) λb=>?_;refine s_pure (OkT2 p/\OkP (prPs p)) (λw hw _=>⟨prPs_ok hw.1.2,hw.1.2⟩) λ⟨hp,hop⟩=>?_;refine s_of_r (r_auto rfl zY rfl (r_seq λK hK=>?_));refine r_anyP [0,1,2,3,4,5,6,7,8] 9 2 (λw=>InvL [] w/\ObjF h 218 (prPs p) w/\ObjF g 119 (ylPs l) w) (by kernel_rfl) rfl rfl (inv_two (λ_ h=>by cases h) λ_ h _=>⟨h.1,h.2.1⟩) ?_;refine p_frontI (.v (.func (.yield l) #[] #[])) trivial 0 (by kernel_rfl) rfl rfl rfl rfl rfl (λG a w ha hw=>runO_ldB (L:=[]) (R:=[]) (F:=λw=>ObjF g 119 (ylPs l) w) (M:=λ_=>True) _ rfl rfl rfl underlying119 rfl (obj_fact λ_ h _=>h) G (λ_=>False) a w ha ⟨λ_ h=>(by cases h),λ_ h=>h,hw.2.2,trivial⟩) ?_;refine z7 1 (by kernel_rfl) rfl (λ_ h=>by cases h) (λ_ h=>h.1) ?_;refine z7 2 (by kernel_rfl) rfl (λ_ h=>by cases h) (λ_ h=>h.1) ?_;refine z7 3 (by kernel_rfl) rfl (λ_ h=>by cases h) (λ_ h=>h.1) ?_;refine p_ldO zY 4 (by kernel_rfl) rfl rfl rfl rfl rfl rfl rfl hop (λ_ h=>h.2.1) ?_;refine z7 5 (by kernel_rfl) rfl (λ_ h=>by cases h) (λ_ h=>h.1) ?_;refine z7 6 (by kernel_rfl) rfl (λ_ h=>by cases h) (λ_ h=>h.1) ?_;refine z7 7 (by kernel_rfl) rfl (λ_ h=>by cases h) (λ_ h=>h.1) ?_;refine p_ldO zY 8 (by kernel_rfl) rfl rfl rfl rfl rfl rfl rfl hop (λ_ h=>h.2.1) ?_;refine p_tailR [9,10] (by kernel_rfl) rfl ?_;refine t_yield (telA p) rfl rfl rfl rfl rfl rfl (λ_=>rfl) hy (λ_ h _=>h.2.2) λt=>t_list rfl (zB rfl (zJ (hK _ ?_)));exact r_ret (zG t rfl (λ_ _ _=>trivial) zU)
def epost(r1 r0:Res):Post Bool:={ ret:=λ_=>.t [],own:=λt=>[bif t then r1 else r0] }
def teach_S{f:FuncId}(hf:Own f)(caps:zq)(Fc:zv)(JR:Nat->Res)(JX:Res)(t:TA)
 (ht:∀(j:Nat) (p:PairT) (h:Nat),t.all[j]?=some p->Spec f (.pointer (some ⟨h,0,none⟩)::caps) [JR j] (λw=>ObjF h 218 (prPs p) w/\Fc w) (bpost (JR (j+1)) JX)) :
  Spec 128 [(eTr t 0).den,.func (.func f) #[] caps.toArray] [JR 0] (λw=>TF t w/\Fc w) (epost (JR t.all.length) JX):=by
 have hw:=twalk_S hf caps Fc JR JX t 0 (by simpa using ht);rw [aY] at hw;refine zQ [eTr t 0,.c (.v (.func (.func f) #[] caps.toArray))] 34 func128 rfl (by rw [ntmps128];rfl) (two_ok (trPs_ok t 0) trivial) λb=>?_;refine zA rfl (zM λK hK=>zA rfl ?_);refine zW (((0:Nat):Int)=0) rfl (λ_=>?_) (λh=>absurd rfl h);refine zC rfl λK2 hK2=>?_;refine zI (own:=[JR 0]) (R':=[]) [t.val,.func (.func f) #[] caps.toArray] (λ_ _=>by go_simp) rfl hw (λ_ h _=>h) λx=>?_;exact zJ (hK2 _ (zP (zG x rfl (λ_ _ _=>trivial) zU)))
def tAll1_S(l gb:Nat)(Fy:zv)(JR:Nat->Res)(JX:Res)(t:TA)(hy:∀(j:Nat) (p:PairT),t.all[j]?=some p->YSpec l (telA p) Fy (JR j) (JR (j+1)) JX) :
  Spec 127 [.func (.yield l) #[] #[],.pointer (some ⟨gb,0,none⟩)] [JR 0] (λw=>(ObjF gb 31 (trPs t 0) w/\TF t w)/\Fy w) (epost (JR t.all.length) JX):=by
 refine zQ [.c (.v (.func (.yield l) #[] #[])),.c (.v (.pointer (some ⟨gb,0,none⟩)))] 6 func127 rfl (by rw [ntmps127];rfl) (two_ok trivial trivial) λb=>?_;refine zC rfl λK hK=>l_give 2 (E':=[(1,.v (.pointer (some ⟨gb,0,none⟩)))]) rfl ⟨rfl,trivial⟩ λg2=>l_objOut 0 rfl (zJ (hK _ (s_lit (zZ rfl (obj_fact λ_ h _=>h.2.1.1) (l_op (.v (.func (.func 129) #[] #[.pointer (some ⟨g2,0,none⟩)])) trivial rfl rfl rfl (run_makeF rfl rfl (λ_=>rfl)) ?_)))));refine zI (own:=[JR 0]) (R':=[]) [(eTr t 0).den,.func (.func 129) #[] #[.pointer (some ⟨g2,0,none⟩)]] (λ_ _=>by go_simp) rfl (teach_S own_tAll11 [.pointer (some ⟨g2,0,none⟩)] (λw=>ObjF g2 119 (ylPs l) w/\Fy w) JR JX t λj p h hj=>ttell_S (hy j p hj)) (λ_ h _=>⟨h.2.1.2,h.1,h.2.2⟩) λx=>?_;refine zJ ?_;exact zG x rfl (λ_ _ _=>trivial) zU
def tAll_S(t:TA)(d:Nat):Spec 98 [(eTr t d).den] [] (λ_=>True) { ret:=λg:Nat=>.v (.func (.func 127) #[] #[.pointer (some ⟨g,0,none⟩)]),own:=λ_=>[],p:=λg=>ObjF g 31 (trPs t d) }:=by refine zQ [eTr t d] 4 func98 rfl (by rw [ntmps98];rfl) (one_ok (trPs_ok t d)) λb=>?_;refine zC rfl λK hK=>l_give 1 (E':=[]) rfl trivial λg=>l_objOut 0 rfl (zJ (hK _ (zC rfl λK2 hK2=>l_op (.v (.func (.func 127) #[] #[.pointer (some ⟨g,0,none⟩)])) trivial rfl rfl rfl (run_makeF rfl rfl (λ_=>rfl)) (zB rfl (zJ (hK2 _ ?_))))));exact zP (zG g rfl (λ_ h _=>h.1) zU)
end Go.Proofs.Q
namespace Go.Proofs.Q
open Go.RowKit Go.IntWalk
def LoopR(l:Nat)(o:Loop):Res where
  holds w S:=w.heap[l]?=some (.loop o)/\∀k,S k↔k=l
  keep:=λ⟨h1,h2⟩ hk=>⟨(hk l ((h2 l).2 rfl)).trans h1,h2⟩
  lt:=λ⟨h1,h2⟩ k hk=>by rw [(h2 k).1 hk];exact(bD.1 h1).1
def VRes(G:zk)(L:ze)(R:zd):Res where
  holds w S:=∃S0,(∀x∈L,Blk w (G x.j) x.t (catP x.ps)/\OkP x.ps)/\(namesL L).Pairwise (λi j=>G i≠G j)/\starL R w S0/\(∀j∈namesL L,¬S0 (G j))/\∀k,S k↔Mine S0 G L k
  keep:=λ⟨S0,h1,h2,h3,h4,h5⟩ hk=>⟨S0,λx hx=>⟨(hk _ ((h5 _).2 (.inr ⟨x.j,aZ.2 ⟨x,hx,rfl⟩,rfl⟩))).trans (h1 x hx).1,(h1 x hx).2⟩,h2,h3.keep λk hs=>hk k ((h5 k).2 (.inl hs)),h4,h5⟩
  lt:=λ⟨S0,h1,_,h3,_,h5⟩ k hk=>by
    rcases(h5 k).1 hk with hk|⟨j,hj,rfl⟩
    . exact h3.lt k hk
    . obtain⟨x,hx,rfl⟩:=aZ.1 hj
      exact(h1 x hx).1.lt
def noneL:ze->Bool
  | []=>true
  | x::L=>x.g.isNone&&noneL L
theorem noneL_ok:∀{L:ze},noneL L=true->∀x∈L,x.g=none
 | y::L,h,x,hx=>by
  unfold noneL at h;rw [aN] at h;rcases aH.1 hx with rfl|hx
  .exact Option.isNone_iff_eq_none.1 h.1
  .exact noneL_ok h.2 x hx
section
variable{b:Base}{G G':zk}{S:zm}{L L':ze}{R R':zd}{F M:zv}{w w':yp}
def StW.toV(h:StW b G S L R F M w):(VRes G L R).holds w (Mine S G L):=⟨S,λx hx=>⟨(h.var x hx).1,(h.var x hx).2.1⟩,h.apart,h.res,h.sep,λ_=>iE⟩
theorem mem_withG{G:zk}:∀{L:ze} {x:LV},x∈L->{ x with g:=some (G x.j) }∈withG G L
 | y::L,x,h=>by
  rcases aH.1 h with rfl|h
  .exact aM
  .exact aK _ (mem_withG h)
def StW.at_withG(h:StW b G' S (withG G L) R F M w):∀j∈namesL L,G' j=G j:=λj hj=>by obtain⟨x,hx,rfl⟩:=aZ.1 hj;exact(h.var _ (mem_withG hx)).2.2 _ rfl
def StW.toVG(h:StW b G' S (withG G L) R F M w):(VRes G L R).holds w (Mine S G L)/\∀k,Mine S G L k↔Mine S G' (withG G L) k:=by
 have hg:=h.at_withG;refine⟨⟨S,λx hx=>?_,?_,h.res,λj hj=>?_,λ_=>iE⟩,λk=>?_⟩
 .have h1:=h.var _ (mem_withG hx);have h2:=hg x.j (aZ.2 ⟨x,hx,rfl⟩);rw [<-h2];exact⟨h1.1,h1.2.1⟩
 .have h1:=h.apart;rw [withG_names] at h1;exact h1.imp_of_mem λhi hj hne=>by rwa [<-hg _ hi,<-hg _ hj]
 .rw [<-hg j hj];exact h.sep j (by rw [withG_names];exact hj)
 .unfold Mine;rw [withG_names];exact or_congr iE ⟨λ⟨j,hj,e⟩=>⟨j,hj,(hg j hj).trans e⟩,λ⟨j,hj,e⟩=>⟨j,hj,(hg j hj).symm.trans e⟩⟩
def StW.ofV{S1:zm}(h:(VRes G L R).holds w S1)(hF:Stb S1 F w):∃S0,StW ⟨λ_=>False,w,S1⟩ G S0 (withG G L) R F (λ_=>True) w:=by
 obtain⟨S0,h1,h2,h3,h4,h5⟩:=h;have hM:∀k,Mine S0 G (withG G L) k↔S1 k:=λk=>by rw [h5 k];unfold Mine;rw [withG_names]
 refine⟨S0,λx hx=>?_,by rw [withG_names];exact h2,h3,by rw [withG_names];exact h4,hF.less λk _ hk=>hk.elim qY (hM k).1,λ_ _=>trivial,Chg.refl _ _,λk hk _=>(hM k).1 hk,λ_ h=>h.elim⟩;obtain⟨y,hy,rfl⟩:=withG_mem hx;exact⟨(h1 y hy).1,(h1 y hy).2,λg hg=>bQ hg⟩
def StW.back{T:zm}(h:StW b G S L R F M w)(hg:noneL L'=true)(hc:Chg (Mine S G L) w w')(hv:(VRes G L' R').holds w' T)(hT:∀k,T k->k<w.heap.size->Mine S G L k):∃S',StW b G S' L' R' F M w':=by
 obtain⟨S0,h1,h2,h3,h4,h5⟩:=hv;have hm:∀k,Mine S0 G L' k->k<w.heap.size->Mine S G L k:=λk hk=>hT k ((h5 k).2 hk);refine⟨S0,λx hx=>⟨(h1 x hx).1,(h1 x hx).2,λg e=>?_⟩,h2,h3,h4,?_,?_,h.chg.step hc λi hi hs=>h.mine i hs hi,λk hk hlt=>h.mine k (hm k hk (b9 hlt h.chg.size)) hlt,h.old⟩
 .rw [noneL_ok hg x hx] at e;cases e
 .exact h.fact.past (D':=Dof b.X S0 G L') (hc.mono (D':=Dof b.X S G L) λi _ hs=>.inr hs) λi hi hd=>hd.imp id λhd=>hm i hd hi
 .exact h.fresh.past (D':=Nof b S0 G L') (hc.mono (D':=Nof b S G L) λi _ hs=>.inr hs) λi hi hd=>hd.imp id λhd=>hm i hd hi
def StW.mark{l:Nat}{o:Loop}(o':Loop)(h:StW b G S L (LoopR l o::R) F M w):∃S',StW b G S' L (LoopR l o'::R) F M (w.putObj l (.loop o')):=by obtain⟨S1,h1,h2⟩:=h.put (i:=0) rfl;refine h2 (LoopR l o') _ (λk=>k=l) ((chg_putObj w l _).mono λk _ hk=>(h1.2 k).2 hk) ⟨World.putObj_heap_same (bD.1 h1.1).1,λ_=>iE⟩ λk hk _=>(h1.2 k).2 hk
def StW.recd{l:Nat}{o:Loop}(h:StW b G S L (LoopR l o::R) F M w):w.heap[l]?=some (.loop o):=by obtain⟨S1,h1,_⟩:=h.put (i:=0) rfl;exact h1.1
end
def jumpX:zh->Exit
  | none=>.ret
  | some id=>.exit id
def jumpC:zh->Code
  | none=>.ret
  | some id=>.exit id
def AnyR{σ:Type}(p:σ->Prop)(r:σ->Res):Res where
  holds w S:=∃s,p s/\(r s).holds w S
  keep:=λ⟨s,hp,h⟩ hk=>⟨s,hp,(r s).keep h hk⟩
  lt:=λ⟨s,_,h⟩=>(r s).lt h
def StarR(R:zd):Res where
  holds w S:=starL R w S
  keep:=λh hk=>h.keep hk
  lt:=λh=>h.lt
def starR{R R':zd}{w:yp}{S:zm}:starL (StarR R::R') w S↔starL (R++R') w S:=by rw [starL.app];rfl
def VRes.more{G:zk}{L:ze}{R O:zd}{w:yp}{S1 S2:zm}(h:(VRes G L R).holds w S1)(h2:starL O w S2)(hd:∀k,S2 k->¬S1 k):(VRes G L (O++R)).holds w λk=>S2 k\/S1 k:=by
 obtain⟨S0,h3,h4,h5,h6,h7⟩:=h;refine⟨λk=>S2 k\/S0 k,h3,h4,starL.app.2 ⟨S2,S0,h2,h5,λ_=>iE,λk hk h0=>hd k hk ((h7 k).2 (.inl h0))⟩,λj hj hk=>?_,λk=>?_⟩
 .rcases hk with hk|hk
  .exact hd _ hk ((h7 _).2 (.inr ⟨j,hj,rfl⟩))
  .exact h6 j hj hk
 .show S2 k\/S1 k↔(S2 k\/S0 k)\/_
  rw [h7 k];constructor
  .rintro(h|h|h)
   .exact .inl (.inl h)
   .exact .inl (.inr h)
   .exact .inr h
  .rintro((h|h)|h)
   .exact .inl h
   .exact .inr (.inl h)
   .exact .inr (.inr h)
def YSpec.bare{l:Nat}{args:zq}{Fy:zv}{r r1 r0:Res}(h:YSpec l args Fy (StarR [r]) r1 r0):YSpec l args Fy r r1 r0:=λw S hr hF m=>h w S (star1.2 hr) hF m
section
variable{ds:List Deferred}{b:Base}{Q:zx}{N:Nat}{E:SE}{F M:zv}{g:yo}{k1 k2:Tmp}{assign body:Code}{gf:FuncId}{lb:zq}{α β σ:Type}
def roundE(b1:Base)(N:Nat)(G:zk)(busy:Res)(Rd:Res)(I:σ->Prop)(Ix:zh->σ->Prop)(Lf:σ->ze)(Rf:σ->zd):zx
  | .normal,a,w=>∃s,I s/\St b1 N ⟨[],withG G (Lf s),busy::Rd::Rf s,λ_=>True,λ_=>True⟩ a w
  | .ret,a,w=>∃s,Ix none s/\St b1 N ⟨[],withG G (Lf s),busy::Rd::Rf s,λ_=>True,λ_=>True⟩ a w
  | .exit id,a,w=>∃s,Ix (some id) s/\St b1 N ⟨[],withG G (Lf s),busy::Rd::Rf s,λ_=>True,λ_=>True⟩ a w
  | _,_,_=>False
instance{b1:Base}{G:zk}{busy Rd:Res}{I:σ->Prop}{Ix:zh->σ->Prop}{Lf:σ->ze}{Rf:σ->zd}:NoOut (roundE b1 N G busy Rd I Ix Lf Rf):=⟨λ_ _ h=>h⟩
def k_rnd{b1:Base}{G:zk}{busy Rd:Res}{I:σ->Prop}{Ix:zh->σ->Prop}{Lf:σ->ze}{Rf:σ->zd}{e:Env}(s:σ)(hI:I s)(hw:Weak e ⟨[],withG G (Lf s),busy::Rd::Rf s,λ_=>True,λ_=>True⟩):kS b1 (roundE b1 N G busy Rd I Ix Lf Rf .normal) N e:=λ_ _ hs=>⟨s,hI,hs.weak hw⟩
def k_jump{b1:Base}{G:zk}{busy Rd:Res}{I:σ->Prop}{Ix:zh->σ->Prop}{Lf:σ->ze}{Rf:σ->zd}{e:Env}(c:zh)(s:σ)(hI:Ix c s)(hw:Weak e ⟨[],withG G (Lf s),busy::Rd::Rf s,λ_=>True,λ_=>True⟩):kS b1 (roundE b1 N G busy Rd I Ix Lf Rf (jumpX c)) N e:=λ_ _ hs=>by cases c<;>exact⟨s,hI,hs.weak hw⟩
theorem d_rangeG{τ:Type}(ps:Array Tmp)(args:β->zq)(En:β->SE)(Ov:β->zd)(nx:τ->β->τ->Prop)(dn:τ->Prop)(t0:τ)(Lf:σ->ze)(Rf:σ->zd)(I:τ->σ->Prop)(Ix:zh->σ->Prop)(s0:σ)(Fi:zv)
 (hg:evS E g=some (.v (.func (.func gf) #[] lb.toArray)))(hf:Own gf)(hnone:∀s,noneL (Lf s)=true)(hok:∀t y t',nx t y t'->OkE E->OkE (En y++E))(hsz:∀y,(args y).toArray.size=ps.size)
 (hput:∀y (G:zk) (a:Act),Fr N (denE G E) a->Fr N (denE G (En y++E)) { tmps:=(ps.zip (args y).toArray).foldl (λtm (t,v)=>tm.setIfInBounds t v) a.tmps,defers:=[] })
 (hFi:∀w,F w->M w->Fi w)
 (hseq:∀(l:Nat) (Fy:zv) (JR:τ->Res) (JX:Res),(∀t y t',nx t y t'->YSpec l (args y) Fy (StarR (Ov y++[JR t])) (JR t') JX)->Spec gf (.func (.yield l) #[] #[]::lb) [JR t0] (λw=>Fi w/\Fy w) (epost (AnyR dn JR) JX))
 (h0:I t0 s0)
 (hround:∀(G:zk) (l D m:Nat) (ready busy:Loop) (b1:Base) (t:τ) (s:σ) (y:β) (t':τ),b.B.heap.size<=b1.B.heap.size->I t s->nx t y t'->∀K:zw,
   (∀E' L' R' F' M',rS (some l) m b1 body (roundE b1 N G (LoopR l busy) (DefR D) (I t') Ix Lf Rf) N ⟨E',L',LoopR l busy::R',F',M'⟩->kS b1 K N ⟨E',L',LoopR l ready::R',F',M'⟩) ->
   rS (some l) m b1 assign (Exit.then K λ_ _ _=>False) N ⟨En y++E,withG G (Lf s),LoopR l ready::DefR D::(Ov y++Rf s),λw=>F w/\M w,λ_=>True⟩)
 (hdone:∀t s D,dn t->I t s->kD (dD D::ds) b (Q .normal) N ⟨E,Lf s,DefR D::Rf s,F,M⟩)
 (hstop:∀c s D,Ix c s->dS (dD D::ds) b (jumpC c) Q N ⟨E,Lf s,DefR D::Rf s,F,M⟩):dS ds b (.rangeFunc g ps assign body) Q N ⟨E,Lf s0,Rf s0,F,M⟩:=λa w hs=>by
 obtain⟨G,S,hfr,hE,hW⟩:=hs;refine(wpIn_wide (n:=0)).1 (wpIn_rangeFunc ?_)
 intro fn _
 obtain⟨rec,hrec⟩:∃rec:LoopState->Option Code->Loop,rec=λst pe=>{ state:=st,pending:=pe,fn,tmps:=a.tmps,params:=ps,assign,body,defers:=w.heap.size }:=⟨_,rfl⟩
 have hpe:∀st pe,(rec st pe).pending=pe:=λst pe=>by rw [hrec]
 obtain⟨w1,hw1⟩:∃w1,(w.alloc (.deferred (some []))).alloc (.loop (rec .ready none))=w1:=⟨_,rfl⟩;obtain⟨l,hl⟩:∃l,w.heap.size+1=l:=⟨_,rfl⟩;obtain⟨D,hD⟩:∃D,w.heap.size=D:=⟨_,rfl⟩
 have hSt1:∃S1,StW b G S1 (Lf s0) (LoopR l (rec .ready none)::DefR D::Rf s0) F M w1:=by
  obtain⟨S2,h2⟩:=hW.gain (w':=w.alloc (.deferred (some []))) ((Below.refl _ w).alloc (aF _) _) (r:=DefR D) (S':=λk=>k=D) ⟨by rw [<-hD];exact uS w _,λ_=>iE⟩ λk hk=>by omega
  obtain⟨S3,h3⟩:=h2.gain (w':=w1) (by rw [<-hw1];exact(Below.refl _ _).alloc (aF _) _) (r:=LoopR l (rec .ready none)) (S':=λk=>k=l) ⟨by
   rw [<-hw1,<-hl];have:=uS (w.alloc (.deferred (some []))) (.loop (rec .ready none))
   rwa [dM] at this,λ_=>iE⟩ λk hk=>by rw [dM];omega
  exact⟨S3,h3⟩
 obtain⟨S1,hW1⟩:=hSt1;refine⟨l,[dD D],w1,{ target:=.fn (.func gf) lb.toArray,args:=#[.func (.yield l) #[] #[]] },w1,gf,#[.func (.yield l) #[] #[]]++lb.toArray,w1,?_,?_,λ_ _=>trivial,?_,λh=>(by cases h),?_⟩
 .rw [<-hw1,hrec,<-hl,<-hD];exact run_enterLoop_outer _ _ _ _ _
 .have e:(withD ds a).eval g = .func (.func gf) #[] lb.toArray:=hfr.eval (evS_ok hg);simp only [resolve,e];simp [go_sem]
 .simp [invoke,go_sem];exact hf _ w1
 let JR:τ->Res:=λt=>AnyR (I t) λs=>VRes G (Lf s) (LoopR l (rec .ready none)::DefR D::Rf s)
 let JX:Res:=AnyR (λx:zh×σ=>Ix x.1 x.2) λx=>VRes G (Lf x.2) (LoopR l (rec .done (some (jumpC x.1)))::DefR D::Rf x.2)
 have hy:∀t y t',nx t y t'->YSpec l (args y) (λw=>F w/\M w) (StarR (Ov y++[JR t])) (JR t') JX:=by
  rintro t y t' hj w2 S2 hst2 hF2 m;obtain⟨SO,SJ,hO,hJ,hS2,hdis⟩:=starL.app.1 hst2;obtain⟨s,hI,hv0⟩:=star1.1 hJ;have hv1:(VRes G (Lf s) (Ov y++(LoopR l (rec .ready none)::DefR D::Rf s))).holds w2 S2:=by obtain⟨S0,a1,a2,a3,a4,a5⟩:=VRes.more hv0 hO hdis;exact⟨S0,a1,a2,a3,a4,λk=>(hS2 k).trans (a5 k)⟩
  have hv:(VRes G (Lf s) (LoopR l (rec .ready none)::DefR D::(Ov y++Rf s))).holds w2 S2:=by obtain⟨S0,a1,a2,a3,a4,a5⟩:=hv1;exact⟨S0,a1,a2,a3.perm (List.perm_middle.trans (.cons _ List.perm_middle)),a4,a5⟩
  obtain⟨S3,h3⟩:=StW.ofV hv hF2;have hle:b.B.heap.size<=w2.heap.size:=by have h1:=(bD.1 h3.recd).1;have h2:=hW.chg.size;omega
  have hy:(Instr.yield l (args y).toArray).run prog w2 = .ok (.round l fn ((ps.zip (args y).toArray).foldl (λtm (t,v)=>tm.setIfInBounds t v) a.tmps) assign body) w2:=by
   have hy:=run_yield (P:=prog) (args:=(args y).toArray) h3.recd (by rw [hrec];exact hsz y)
   rwa [hrec] at hy
  refine⟨fn,_,assign,body,hy,roundIn_of_wpIn trivial ?_⟩;refine hround G l D m (rec .ready none) (rec .busy none) ⟨λ_=>False,w2,S2⟩ t s y t' hle hI hj _ ?_ _ _ ⟨G,S3,?_,?_,h3⟩
  .rintro E' L' R' F' M' hb a3 w3 ⟨G4,S4,h41,h42,h43⟩
   refine⟨_,run_beginRound h43.recd (by rw [hrec]),?_⟩;obtain⟨S5,h5⟩:=h43.mark (rec .busy none);have h6:=hb a3 _ ⟨G4,S5,h41,h42,h5⟩;have eb:({ rec .ready none with state:=.busy }:Loop)=rec .busy none:=by rw [hrec]
   rw [eb];refine wpIn_mono h6 ?_;have fin:∀(c:Option Code) (a4:Act) (w4:yp) (s':σ),St ⟨λ_=>False,w2,S2⟩ N ⟨[],withG G (Lf s'),LoopR l (rec .busy none)::DefR D::Rf s',λ_=>True,λ_=>True⟩ a4 w4 ->
     ∃w5 S5,(Instr.endRound l c).run prog w4 = .ok (.bool c.isNone) w5/\Chg S2 w2 w5/\(VRes G (Lf s') (LoopR l (rec (if c.isNone then .ready else .done) c)::DefR D::Rf s')).holds w5 S5/\∀k,S5 k->k<w2.heap.size->S2 k:=by
    rintro c a4 w4 s' ⟨G7,S7,_,_,h7⟩
    obtain⟨S8,h8⟩:=h7.mark (rec (if c.isNone then .ready else .done) c);have hr:=run_endRound (P:=prog) c h7.recd
    have eb:({ rec .busy none with state:=if c.isNone then .ready else .done,pending:=c }:Loop)=rec (if c.isNone then .ready else .done) c:=by rw [hrec]
    rw [eb] at hr;obtain⟨h9,h10⟩:=h8.toVG;exact⟨_,_,hr,h8.chg,h9,λk hk hlt=>h8.mine k ((h10 k).1 hk) hlt⟩
   rintro e a4 w4 hp;cases e with
   | normal =>
    obtain⟨s',hI',hs'⟩:=hp;obtain⟨w5,S5,hr,hc,hv,hS⟩:=fin none a4 w4 s' hs';exact⟨_,_,hr,true,S5,rfl,hc,⟨s',hI',hv⟩,hS⟩
   | ret =>
    obtain⟨s',hI',hs'⟩:=hp;obtain⟨w5,S5,hr,hc,hv,hS⟩:=fin (some .ret) a4 w4 s' hs';exact⟨_,_,hr,false,S5,rfl,hc,⟨(none,s'),hI',hv⟩,hS⟩
   | exit id =>
    obtain⟨s',hI',hs'⟩:=hp;obtain⟨w5,S5,hr,hc,hv,hS⟩:=fin (some (.exit id)) a4 w4 s' hs';exact⟨_,_,hr,false,S5,rfl,hc,⟨(some id,s'),hI',hv⟩,hS⟩
   | _=>exact hp.elim
  .exact hput y G a hfr
  .exact hok t y t' hj hE
 have hcall:=hseq l (λw=>F w/\M w) JR JX hy w1 (Mine S1 G (Lf s0)) (λ_=>False) (star1.2 ⟨s0,h0,hW1.toV⟩) (λ_ h=>h.elim) ((hW1.all.imp λw hw=>⟨hFi w hw.1 hw.2,hw⟩).less λk _ hk=>.inr (hk.elim qY id))
 have e:(.func (.yield l) #[] #[]::lb).toArray = #[.func (.yield l) #[] #[]]++lb.toArray:=by simp
 rw [e] at hcall;refine(calls_in (ro:=none) (n:=0-1) hcall).mono ?_
 have ea:({ withD ds a with defers:=[dD D]++(withD ds a).defers }:Act)=withD (dD D::ds) a:=by have:=hfr.defers;cases a;simp only at this;subst this;rfl
 rw [ea]
 rintro e w2 ⟨t,S2,rfl,_,hc2,h2,hS2,_,_⟩
 have h2:=star1.1 h2
 cases t with
 | true =>
  obtain⟨t,hdn,s,hI,hv⟩:=h2;obtain⟨S3,h3⟩:=hW1.back (hnone s) hc2 hv hS2;have hr:=run_endLoop (P:=prog) h3.recd (by rw [hrec];simp);obtain⟨S4,h4⟩:=StW.drop (D:=l) h3 (λS1 hS=>(hS.2 l).2 rfl) (chg_putObj w2 l (.loop (rec .exhausted none)))
  have eb:({ rec .ready none with state:=.exhausted }:Loop)=rec .exhausted none:=by rw [hrec]
  rw [eb,hpe] at hr;exact⟨_,_,hr,hdone t s D hdn hI a _ ⟨G,S4,hfr,hE,h4⟩⟩
 | false =>
  obtain⟨⟨c,s⟩,hI,hv⟩:=h2;obtain⟨S3,h3⟩:=hW1.back (hnone s) hc2 hv hS2;have hr:=run_endLoop (P:=prog) h3.recd (by rw [hrec];simp);obtain⟨S4,h4⟩:=StW.drop (D:=l) h3 (λS1 hS=>(hS.2 l).2 rfl) (chg_putObj w2 l (.loop (rec .exhausted (some (jumpC c)))))
  have eb:({ rec .done (some (jumpC c)) with state:=.exhausted }:Loop)=rec .exhausted (some (jumpC c)):=by rw [hrec]
  rw [eb,hpe] at hr;exact⟨_,_,hr,(wpIn_wide (n:=0)).2 (hstop c s D hI a _ ⟨G,S4,hfr,hE,h4⟩)⟩
def d_rangeO(xs:List α)(vk:α->SQ)(vv:α->β->SQ)(Ov:α->β->zd)(Lf:σ->ze)(Rf:σ->zd)(I:Nat->σ->Prop)(Ix:zh->σ->Prop)(s0:σ)(Fi:zv)
 (hg:evS E g=some (.v (.func (.func gf) #[] lb.toArray)))(hf:Own gf)(hnone:∀s,noneL (Lf s)=true)(hok:∀x∈xs,∀y,(vk x).Ok/\(vv x y).Ok)(hk1:aU k1 N=true)(hk2:aU k2 N=true)
 (hFi:∀w,F w->M w->Fi w)
 (hseq:∀(l:Nat) (Fy:zv) (JR:Nat->Res) (JX:Res),(∀(j:Nat) (x:α) (y:β),xs[j]?=some x->YSpec l [(vk x).den,(vv x y).den] Fy (StarR (Ov x y++[JR j])) (JR (j+1)) JX)->Spec gf (.func (.yield l) #[] #[]::lb) [JR 0] (λw=>Fi w/\Fy w) (epost (JR xs.length) JX))
 (h0:I 0 s0)
 (hround:∀(G:zk) (l D m:Nat) (ready busy:Loop) (b1:Base) (j:Nat) (s:σ) (x:α) (y:β),b.B.heap.size<=b1.B.heap.size->I j s->xs[j]?=some x->∀K:zw,
   (∀E' L' R' F' M',rS (some l) m b1 body (roundE b1 N G (LoopR l busy) (DefR D) (I (j+1)) Ix Lf Rf) N ⟨E',L',LoopR l busy::R',F',M'⟩->kS b1 K N ⟨E',L',LoopR l ready::R',F',M'⟩) ->
   rS (some l) m b1 assign (Exit.then K λ_ _ _=>False) N ⟨(k2,.q (vv x y))::(k1,.q (vk x))::E,withG G (Lf s),LoopR l ready::DefR D::(Ov x y++Rf s),λw=>F w/\M w,λ_=>True⟩)
 (hdone:∀s D,I xs.length s->kD (dD D::ds) b (Q .normal) N ⟨E,Lf s,DefR D::Rf s,F,M⟩)
 (hstop:∀c s D,Ix c s->dS (dD D::ds) b (jumpC c) Q N ⟨E,Lf s,DefR D::Rf s,F,M⟩):dS ds b (.rangeFunc g #[k1,k2] assign body) Q N ⟨E,Lf s0,Rf s0,F,M⟩:=by
 refine d_rangeG (τ:=Nat) (β:=α×β) #[k1,k2] (λz=>[(vk z.1).den,(vv z.1 z.2).den]) (λz=>[(k2,.q (vv z.1 z.2)),(k1,.q (vk z.1))]) (λz=>Ov z.1 z.2) (λj z j'=>xs[j]?=some z.1/\j'=j+1) (λj=>j=xs.length) 0 Lf Rf I Ix s0 Fi hg hf hnone ?_ (λ_=>rfl) ?_ hFi ?_ h0 ?_ ?_ hstop
 .rintro t ⟨x,y⟩ t' ⟨hj, -⟩ hE;exact(hE.cons (v:=.q (vk x)) (hok x (aR hj) y).1).cons (v:=.q (vv x y)) (hok x (aR hj) y).2
 .rintro⟨x,y⟩ G a hfr
  have e:({ tmps:=a.tmps,defers:=[] }:Act)=a:=by have:=hfr.defers;cases a;simp only at this;rw [this]
  have hf0:Fr N (denE G E) { tmps:=a.tmps,defers:=[] }:=by rw [e];exact hfr
  have h:=(hf0.put hk1 (vk x).den).put hk2 (vv x y).den;have e1:(#[k1,k2].zip [(vk x).den,(vv x y).den].toArray).foldl (λtm (t,v)=>tm.setIfInBounds t v) a.tmps=(a.tmps.setIfInBounds k1 (vk x).den).setIfInBounds k2 (vv x y).den:=by simp
  show Fr N _ { tmps:=_,defers:=[] };rw [e1];exact h
 .intro l Fy JR JX hy w S X hs hX hF
  refine(hseq l Fy JR JX (λj x y hj=>hy j (x,y) (j+1) ⟨hj,rfl⟩) w S X hs hX hF).mono ?_;rintro e w' ⟨t,S',h1,h2,h3,h4,h5⟩;refine⟨t,S',h1,h2,h3,?_,h5⟩;cases t with
  | true=>exact star1.2 ⟨xs.length,rfl,star1.1 h4⟩
  | false=>exact h4
 .rintro G l D m ready busy b1 j s ⟨x,y⟩ j' hle hI ⟨hj,rfl⟩ K hK;exact hround G l D m ready busy b1 j s x y hle hI hj K hK
 .rintro t s D rfl hI;exact hdone s D hI
def d_rangeB(xs:List α)(vk vv:α->SQ)(Lf:σ->ze)(Rf:σ->zd)(I:Nat->σ->Prop)(Ix:zh->σ->Prop)(s0:σ)(Fi:zv)
 (hg:evS E g=some (.v (.func (.func gf) #[] lb.toArray)))(hf:Own gf)(hnone:∀s,noneL (Lf s)=true)(hok:∀x∈xs,(vk x).Ok/\(vv x).Ok)(hk1:aU k1 N=true)(hk2:aU k2 N=true)
 (hFi:∀w,F w->M w->Fi w)
 (hseq:∀(l:Nat) (Fy:zv) (JR:Nat->Res) (JX:Res),(∀(j:Nat) (x:α),xs[j]?=some x->YSpec l [(vk x).den,(vv x).den] Fy (JR j) (JR (j+1)) JX)->Spec gf (.func (.yield l) #[] #[]::lb) [JR 0] (λw=>Fi w/\Fy w) (epost (JR xs.length) JX))
 (h0:I 0 s0)
 (hround:∀(G:zk) (l D m:Nat) (ready busy:Loop) (b1:Base) (j:Nat) (s:σ) (x:α),b.B.heap.size<=b1.B.heap.size->I j s->xs[j]?=some x->∀K:zw,
   (∀E' L' R' F' M',rS (some l) m b1 body (roundE b1 N G (LoopR l busy) (DefR D) (I (j+1)) Ix Lf Rf) N ⟨E',L',LoopR l busy::R',F',M'⟩->kS b1 K N ⟨E',L',LoopR l ready::R',F',M'⟩) ->
   rS (some l) m b1 assign (Exit.then K λ_ _ _=>False) N ⟨(k2,.q (vv x))::(k1,.q (vk x))::E,withG G (Lf s),LoopR l ready::DefR D::Rf s,λw=>F w/\M w,λ_=>True⟩)
 (hdone:∀s D,I xs.length s->kD (dD D::ds) b (Q .normal) N ⟨E,Lf s,DefR D::Rf s,F,M⟩)
 (hstop:∀c s D,Ix c s->dS (dD D::ds) b (jumpC c) Q N ⟨E,Lf s,DefR D::Rf s,F,M⟩):dS ds b (.rangeFunc g #[k1,k2] assign body) Q N ⟨E,Lf s0,Rf s0,F,M⟩ :=
 d_rangeO (β:=Unit) xs vk (λx _=>vv x) (λ_ _=>[]) Lf Rf I Ix s0 Fi hg hf hnone (λx hx _=>hok x hx) hk1 hk2 hFi (λl Fy JR JX hy=>hseq l Fy JR JX λj x hj=>(hy j x () hj).bare) h0 (λG l D m ready busy b1 j s x _=>hround G l D m ready busy b1 j s x) hdone hstop
def d_range(xs:List α)(vk vv:α->SQ)(Lf:σ->ze)(Rf:σ->zd)(I:Nat->σ->Prop)(Ix:zh->σ->Prop)(s0:σ)(Fi:zv)
 (hg:evS E g=some (.v (.func (.func gf) #[] lb.toArray)))(hf:Own gf)(hnone:∀s,noneL (Lf s)=true)(hok:∀x∈xs,(vk x).Ok/\(vv x).Ok)(hk1:aU k1 N=true)(hk2:aU k2 N=true)
 (hFi:∀w,F w->M w->Fi w)
 (hseq:∀(l:Nat) (Fy:zv) (JR:Nat->Res) (JX:Res),(∀(j:Nat) (x:α),xs[j]?=some x->YSpec l [(vk x).den,(vv x).den] Fy (JR j) (JR (j+1)) JX)->Spec gf (.func (.yield l) #[] #[]::lb) [JR 0] (λw=>Fi w/\Fy w) (epost (JR xs.length) JX))
 (h0:I 0 s0)
 (hround:∀(G:zk) (l D m:Nat) (ready busy:Loop) (b1:Base) (j:Nat) (s:σ) (x:α),I j s->xs[j]?=some x->∀K:zw,
   (∀E' L' R' F' M',rS (some l) m b1 body (roundE b1 N G (LoopR l busy) (DefR D) (I (j+1)) Ix Lf Rf) N ⟨E',L',LoopR l busy::R',F',M'⟩->kS b1 K N ⟨E',L',LoopR l ready::R',F',M'⟩) ->
   rS (some l) m b1 assign (Exit.then K λ_ _ _=>False) N ⟨(k2,.q (vv x))::(k1,.q (vk x))::E,withG G (Lf s),LoopR l ready::DefR D::Rf s,λw=>F w/\M w,λ_=>True⟩)
 (hdone:∀s D,I xs.length s->kD (dD D::ds) b (Q .normal) N ⟨E,Lf s,DefR D::Rf s,F,M⟩)
 (hstop:∀c s D,Ix c s->dS (dD D::ds) b (jumpC c) Q N ⟨E,Lf s,DefR D::Rf s,F,M⟩):dS ds b (.rangeFunc g #[k1,k2] assign body) Q N ⟨E,Lf s0,Rf s0,F,M⟩ :=
 d_rangeB xs vk vv Lf Rf I Ix s0 Fi hg hf hnone hok hk1 hk2 hFi hseq h0 (λG l D m ready busy b1 j s x _=>hround G l D m ready busy b1 j s x) hdone hstop
end
end Go.Proofs.Q
namespace Go.Proofs.Q
open Go.RowKit Go.IntWalk Nums
section
variable{ds:List Deferred}{ro:zh}{n:Nat}{b:Base}{Q:zx}{N:Nat}{E:SE}{L:ze}{R:zd}{F M:zv}{id:Nat}{l:zo}{y:Code}
def d_seqD{x:Code}{e:Env}(h:∀K:zw,(∀ds' e',dS ds' b y Q N e'->kD ds' b K N e')->dS ds b x (Exit.then K Q) N e):dS ds b (.seq x y) Q N e:=λa w hs =>
 wp_seq_k λK hK=>h K (λ_ _ h' a' w' hs'=>hK _ _ (h' a' w' hs')) a w hs
instance:NoOut (λ_ _ _=>False):=⟨λ_ _ h=>h⟩
end
def laidOut9:laidOutB prog=true:=by kernel_rfl
def hash_keyed:Maps.Keyed prog 47:=Maps.Keyed.of_law (deep_law_laid (m:=4) laidOut9 (by decide) (of_decide_eq_true (by kernel_rfl)) (by kernel_rfl) (by kernel_rfl))
def KVT(s:zu):Value:=.agg (By s).toArray
theorem KVT_inj:∀{l m:zu},KVT l=KVT m->l=m:=by
 intro l m h;have h8:By l=By m:=by injection h with h;exact List.toArray_inj h
 clear h;induction l generalizing m with
 | nil=>cases m with
  | nil=>rfl
  | cons=>cases h8
 | cons x l ih=>cases m with
  | nil=>cases h8
  | cons y m =>
   injection h8 with h1 h2
   injection h1 with _ h1
   rw [ih h2,UInt8.toNat_inj.1 (by omega:x.toNat=y.toNat)]
def key_u8T(d:Nat)(n:Nat)(h:n<256):prog.keyLits (d+1) 5 [.int .u8 (n:Int)]=some [.int .u8 (n:Int)]:=by
 have hw:(Lit.int .u8 (n:Int)).wf=true:=by simp [Lit.wf,IntKind.min,IntKind.max,oQ,qI];omega
 simp [Program.keyLits,underlying5,hw]
def key_hashL(d:Nat){s:zu}(hs:s.length=32):∃l,prog.keyLits (d+2) 47 (By s)=some l:=by
 have hc:prog.cellsOf 47 = 32:=by kernel_rfl
 have h8:prog.cellsOf 5 = 1:=by kernel_rfl
 have hm:∀i,i<32->∃l,prog.keyLits (d+1) 5 (((By s).drop (i*1)).take 1)=some l:=λi hi=>by
  have e:((By s).drop (i*1)).take 1=[.int .u8 ((s[i]'(by omega)).toNat:Int)]:=by rw [Nat.mul_one,List.drop_eq_getElem_cons (by rw [By_len];omega)];simp [By]
  rw [e];exact⟨_,key_u8T d _ (cV _)⟩
 have key:∀(is:zj),(∀i∈is,i<32)->∃L,is.mapM (λi=>prog.keyLits (d+1) 5 (((By s).drop (i*1)).take 1))=some L:=by
  intro is;induction is with
  | nil=>intro _;exact⟨[],rfl⟩
  | cons i is ih =>
   intro h
   obtain⟨l,hl⟩:=hm i (h i (by simp));obtain⟨L,hL⟩:=ih λj hj=>h j (by simp [hj]);exact⟨l::L,by simp only [List.mapM_cons,hl,hL];rfl⟩
 obtain⟨L,hL⟩:=key (List.range 32) (λi hi=>List.mem_range.1 hi);refine⟨L.flatten,?_⟩;unfold Program.keyLits;simp only [underlying47];rw [if_pos (by rw [By_len,hs,hc]),h8,hL];rfl
def hash_key{s:zu}(hs:s.length=32):∃l,keyOf prog 47 (KVT s)=some l:=by
 have hk:prog.keyType 47 = true:=by kernel_rfl
 have hc:prog.cellsOf 47 = 32:=by kernel_rfl
 have hf:(KVT s).formed prog 47 = true:=by unfold KVT Value.formed;simp only [underlying47,hc];simp [By_len,hs]
 obtain⟨n,hn⟩:∃n,prog.types.size+1=n+2:=⟨prog.types.size-1,by
  have:decide (2<=prog.types.size)=true:=by kernel_rfl
  have:=of_decide_eq_true this;omega⟩
 obtain⟨ls,hls⟩:=key_hashL n hs;have hcs:(KVT s).cells.toList=By s:=rfl;refine⟨.string (keyBytes ls),?_⟩;unfold keyOf;simp only [underlying47,hk,hf,Bool.and_self,if_true,hn,hcs,hls];rfl
abbrev TH:MapT zu HSeg:={ t:=28,kt:=47,vt:=38,kv:=eY 32,vv:=eHs }
abbrev ok32(k:zu):Prop:=k.length=32
def TH_ok:TH.Ok ok32 where
 und:=underlying28
 keyed:=hash_keyed
 key _ h:=hash_key h
 inj _ _ h:=KVT_inj h
theorem nilH_zero:∀w,(zeroValue TH.vt).run prog w = .ok (TH.V nilH) w:=λw=>by
 have hi:(prog.info? 38).bind (·.zero)=some (.slice none 0 0):=by kernel_rfl
 unfold zeroValue typeInfo;cases h:prog.info? 38 with
 | none=>rw [h] at hi;cases hi
 | some i =>
  rw [h] at hi;have hi:i.zero=some (.slice none 0 0):=hi
  simp [h,hi]
  rfl
structure DirV where
  ep:Int
  mv:zh
  es:Array MapEntry
  clock:Nat
  n:Nat
  h:zu->Option HSeg
  t:TA
  l:zc
def DirV.parts(d:DirV):zb:=[.one (.v (.int .i64 d.ep)),.one (.v (.map d.mv)),.agg 2 #[d.t.val,.int .u8 0]]
abbrev eDv(d:DirV):SQ:=.p d.parts
def dval_one(t:TA):t.val.oneCell'=true:=by cases t<;>rfl
def DirV.parts_ok(d:DirV):OkP d.parts:=λp hp=>by
 simp only [DirV.parts,aH,gB,or_false] at hp;rcases hp with rfl|rfl|rfl
 .exact⟨trivial,rfl,rfl⟩
 .exact⟨trivial,rfl,rfl⟩
 .refine⟨rfl,λv hv=>?_⟩
  simp only [aH,gB,or_false] at hv;rcases hv with rfl|rfl
  .exact dval_one _
  .rfl
structure DirV.Ok(d:DirV):Prop where
  dir:DirOk d.l
  small:SmallD d.l
  tells:Tells d.h d.l
  tree:TOk 256 (pairsD d.l) d.t
  map:match d.mv with|none=>∀k,d.h k=none|some _=>MapH TH ok32 d.es d.clock d.n d.h
def DirV.F(d:DirV)(w:yp):Prop:=(∀m,d.mv=some m->MapE m d.es d.clock w)/\(∀k s,d.h k=some s->s.rd w)/\TF d.t w
instance dirPst{d:DirV}:Pst d.F:=⟨λ_ _ ⟨h1,h2,h3⟩ hb=>⟨λm hm=>Pst.later _ _ (h1 m hm) hb,λk s hs=>Pst.later (p:=s.rd) _ _ (h2 k s hs) hb,h3.later hb⟩⟩
def zDirV:DirV:=⟨0,none,#[],0,0,λ_=>none,.nil,[]⟩
def zDirV_ok:zDirV.Ok:=⟨DirOk.nil,λ_ h=>(by cases h),Tells.nil,rfl,λ_=>rfl⟩
def zDirV_F(w:yp):zDirV.F w:=⟨λ_ h=>(by cases h),λ_ _ h=>(by cases h),trivial⟩
def DirV.cnt(d:DirV):Nat:=match d.mv with
  | none=>0
  | some _=>d.n
def DirV.seg(d:DirV)(k:zu):HSeg:=(d.h k).getD nilH
theorem DirV.Ok.seg_l{d:DirV}(h:d.Ok)(k:zu):(d.seg k).l=bO d.l k:=by
 unfold DirV.seg;cases hk:d.h k with
 | none=>exact((h.tells k).2 hk).symm
 | some s=>exact((h.tells k).1 s hk).2.symm
theorem DirV.F.seg_rd{d:DirV}{w:yp}(h:d.F w)(k:zu):(d.seg k).rd w:=by
 unfold DirV.seg;cases hk:d.h k with
 | none=>exact Rd.nil _ _ _
 | some s=>exact h.2.1 k s hk
section
variable{N:Nat}{E:SE}{L:ze}{R:zd}{F M:zv}{o:Oper}{x y:yo}
theorem runO_hist{d:DirV}(hd:d.Ok)(hF:∀G S w,View G S L R F M w->d.F w)(k:zu)(hk:k.length=32)(ho:o.op = .lookup TH.t x y false)(hx:evS E x=some (.v (.map d.mv)))(hy:evS E y=some (.q (eY 32 k))) :
  ∀(G:zk) (S:zm) (a:Act) (w:yp),Fr N (denE G E) a->View G S L R F M w->(execOp a.eval o).run prog w = .ok (.value ((SV.q (eHs (d.seg k))).den G)) w:=by
 have hm:=hd.map
 unfold DirV.seg
 cases hmv:d.mv with
 | none =>
  rw [hmv] at hm hx;rw [hm k];exact runO_noneN TH_ok k nilH hk nilH_zero ho hx hy
 | some m =>
  rw [hmv] at hm hx;have hA:∀G S w,View G S L R F M w->MapA TH ok32 m d.n d.h w:=λG S w h=>⟨d.es,d.clock,(hF G S w h).1 m hmv,hm⟩
  cases hs:d.h k with
  | none=>exact runO_noneA TH_ok hA k nilH hk hs nilH_zero ho hx hy
  | some s=>exact runO_lookA TH_ok hA k s hk hs ho hx hy
theorem runO_grown{m n:Nat}{g:zu->Option HSeg}(hA:∀G S w,View G S L R F M w->MapA TH ok32 m n g w)(k:zu)(hk:k.length=32)(ho:o.op = .lookup TH.t x y true)(hx:evS E x=some (.v (.map (some m))))(hy:evS E y=some (.q (eY 32 k))) :
  ∀(G:zk) (S:zm) (a:Act) (w:yp),Fr N (denE G E) a->View G S L R F M w->(execOp a.eval o).run prog w = .ok (.value ((SV.t [eHs ((g k).getD nilH),.c (.b (g k).isSome)]).den G)) w:=by
 cases hs:g k with
 | none=>exact runO_noneA2 TH_ok hA k nilH hk hs nilH_zero ho hx hy
 | some s=>exact runO_lookA2 TH_ok hA k s hk hs ho hx hy
theorem runO_lenD{d:DirV}(hd:d.Ok)(hF:∀G S w,View G S L R F M w->d.F w)(ho:o.op = .call { callee:=.builtin .len,args:=#[x],argTypes:=#[TH.t] })(hx:evS E x=some (.v (.map d.mv))) :
  ∀(G:zk) (S:zm) (a:Act) (w:yp),Fr N (denE G E) a->View G S L R F M w->(execOp a.eval o).run prog w = .ok (.value ((SV.v (.int .i64 (d.cnt:Int))).den G)) w:=by
 have hm:=hd.map
 unfold DirV.cnt
 cases hmv:d.mv with
 | none =>
  rw [hmv] at hx;exact runO_lenN TH_ok ho hx
 | some m =>
  rw [hmv] at hm hx;exact runO_lenA TH_ok (λG S w h=>⟨d.es,d.clock,(hF G S w h).1 m hmv,hm⟩) ho hx
end
def eY_all{k:zu}(h:ok32 k):(TH.kv k).Ok:=(eY_ok h).1
def eHs_all(s:HSeg):(TH.vv s).Ok:=trivial
def HasM(h:zu->Option HSeg)(done:List (zu×HSeg)):Prop:=∀k s,h k=some s↔(k,s)∈done
def HasM.nil:HasM (λ_=>none) []:=λk s=>by simp
def HasM.put{h:zu->Option HSeg}{done:List (zu×HSeg)}(hh:HasM h done){k:zu}(s:HSeg)(hn:∀d∈done,d.1≠k):HasM (putF h k s) (done++[(k,s)]):=λx y=>by
 unfold putF;rw [bK,aD];by_cases c:x=k
 .subst c
  rw [if_pos rfl];constructor
  .exact λe=>.inr (by injection e with e;rw [e])
  .rintro(e|e)
   .exact absurd rfl (hn _ e)
   .injection e with _ e;rw [e]
 .rw [if_neg c,hh x y];exact⟨.inl,λe=>e.resolve_right λe=>c (by injection e)⟩
theorem HasM.eq{h g:zu->Option HSeg}{done:List (zu×HSeg)}(hh:HasM h done)(h1:∀d∈done,g d.1=some d.2)(h2:∀k s,g k=some s->(k,s)∈done):h=g:=by
 funext k;cases hg:g k with
 | some s=>exact(hh k s).2 (h2 k s hg)
 | none =>
  cases hk:h k with
  | none=>rfl
  | some s =>
   have:=h1 _ ((hh k s).1 hk);rw [hg] at this
   cases this
theorem mcopy_S{d:DirV}(hd:d.Ok)(m:Nat):Spec 74 [.map (some m),.map d.mv] [MapG TH ok32 m 0 λ_=>none] d.F { ret:=λ_=>.t [],own:=λn:Nat=>[MapG TH ok32 m n d.h] }:=by
 refine zQ [.c (.v (.map (some m))),.c (.v (.map d.mv))] 16 func74 rfl (by rw [ntmps74];rfl) (two_ok trivial trivial) λb=>?_;have hm:=hd.map;cases hmv:d.mv with
 | none =>
  rw [hmv] at hm;have hh:d.h=λ_=>none:=funext hm;refine zC rfl λK hK=>l_rangeN rfl rfl rfl rfl underlying28 rfl λr=>zJ (hK _ (zN ?_))
  let Fs:Unit->Env:=λ_=>⟨[(7,.v (.pointer (some ⟨r,0,none⟩)))],[],[ItR none r 0 #[],MapG TH ok32 m 0 λ_=>none],λ_=>True,λ_=>True⟩
  refine c_weak (e':=Fs ()) ⟨⟨rfl,trivial⟩,trivial,.refl _,λ_ _ _=>trivial, zU⟩ (s_loop (λ_=>0) Fs (λ_=>True) ?_ () trivial)
  intro _ _
  refine zC rfl λK2 hK2=>l_nextN 0 rfl rfl rfl rfl rfl rfl (zB rfl (zJ (hK2 _ (zM λK3 hK3=>s_no rfl (s_exit (zS (zS (k_out (k_drop 0 rfl ?_)))))))));exact zR zY 0 rfl (by decide) rfl rfl (by rw [hh];rfl) (λ_ _ _=>trivial) zU
 | some m2 =>
  rw [hmv] at hm;have hH:MapH TH ok32 d.es d.clock d.n d.h:=hm;refine zC rfl λK hK=>l_rangeM rfl rfl rfl rfl underlying28 rfl (es:=d.es) (clock:=d.clock) (λ_ _ _ h=>h.fact.1 m2 hmv) λr=>zJ (hK _ (zN ?_))
  let Fs:Array Nat×List (zu×HSeg)×Nat×(zu->Option HSeg)->Env:=λx=>⟨[(7,.v (.pointer (some ⟨r,0,none⟩))),(0,.v (.map (some m)))],[],[ItR (some m2) r d.clock x.1,MapG TH ok32 m x.2.2.1 x.2.2.2],MapE m2 d.es d.clock,λ_=>True⟩
  refine c_weak (e':=Fs (#[],[],0,λ_=>none)) ⟨zE rfl, trivial, .refl _,λ_ h _=>h.1 m2 hmv, zU⟩ (s_loop (λx=>(leftOf d.es x.1).size) Fs (λx=>DidM TH ok32 d.es d.h x.1 x.2.1/\HasM x.2.2.2 x.2.1) ?_ (#[],[],0,λ_=>none) ⟨DidM.nil,HasM.nil⟩)
  rintro⟨seen,done,n,f⟩ ⟨hD,hB⟩
  dsimp only at hD hB
  refine zC rfl λK2 hK2=>?_;refine l_nextM hH hD (λ_ h=>eY_all h) eHs_all 0 rfl rfl rfl rfl rfl rfl (λ_ _ _ h=>h.fact) (λh0=>?_) λq v seen' hq hv hne hlt hl hD'=>?_
  .refine zB rfl ?_;refine zJ (hK2 _ (zM λK3 hK3=>s_no rfl (s_exit (zS (zS (k_out (k_drop 0 rfl ?_)))))));exact zR zY n rfl (by decide) rfl rfl (by rw [hB.eq (λd hd=>(hD.in_ d hd).2) λk s h=>hD.all TH_ok hH h0 h];rfl) (λ_ _ _=>trivial) zU
  refine zB rfl (zJ (hK2 _ (zM λK3 hK3=>s_yes rfl (zO (hK3 _ (zN (zC rfl λK4 hK4=>l_opV (.t [eY 32 q,eHs v]) (two_ok (eY_all hq) trivial) rfl rfl rfl (runO_entry hH 0 rfl hl (λ_ _ _ h=>h.fact) rfl rfl) (zB rfl (zJ (hK4 _ (s_lit (zB rfl (l_updG TH_ok 1 rfl q v hq rfl rfl rfl rfl rfl rfl (zJ ?_))))))))))))));exact(zX (seen',done++[(q,v)],_,putF f q v) ⟨hD',hB.put v hne⟩ hlt ⟨zE rfl, trivial, .refl _,λ_ h _=>h,λ_ h=>h⟩)
end Go.Proofs.Q
