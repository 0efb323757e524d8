import Derived.Test.YtlhlkofpjhpaoaaGreatDoorMe
import Derived.Test.YtlhlkofpjhpaoaaGreatDoorMj
import Derived.Test.YtlhlkofpjhpaoaaGreatDoorMh
import Derived.Test.YtlhlkofpjhpaoaaGreatDoorMi
import Derived.Test.YtlhlkofpjhpaoaaGreatDoorMm
import Derived.Test.YtlhlkofpjhpaoaaGreatDoorMd
import Derived.Maps.OwnSet
import Derived.DeepKeys4
import Derived.Carry
set_option maxRecDepth 100000
set_option maxHeartbeats 4000000
open Array renaming length_toList->a7,toList_append->dC
open Go.Addr renaming add_mid->cX
open Go.Instr renaming typeAssert->lI
open Go.IntKind renaming signed->pW,bits->rL
open Go.Result renaming andThen_ok->aD
open Go.Sem renaming run_bind->aG,run_pure->aH
open Go.Value renaming int->bH,iface->pD
open Int renaming tmod_eq_emod_of_nonneg->iC
open List renaming mem_singleton->aF,mem_cons_of_mem->aK,mem_cons->aL,mem_cons_self->aP,length_take->aR,size_toArray->aU,take_of_length_le->bE,getElem?_eq_some_iff->bG,length_filter_le->cD,take_succ_eq_append_getElem->fW,not_mem_nil->mN
open Nat renaming le_refl->aE,zero_le->aI,le_trans->bN,lt_of_le_of_lt->c8,div_le_self->dN,add_le_add_right->jM,zero_lt_one->oG
open Option.some renaming injEq->aV
open UInt8 renaming toNat_inj->rY
namespace Go.Proofs.YtlhlkofpjhpaoaaGreatDoor
open Go.RowKit Go.IntWalk Nums
theorem own_rbit9:Own 37:=λ_ _=>by go_simp
theorem own_rless9:Own 53:=λ_ _=>by go_simp
theorem row_at{n:Nat}{l:List UInt8}{j:Nat}(hj:j<l.length):(catP [.agg n (By l).toArray])[0+1*j]?=some (.int .u8 ((l[j]!).toNat:Int)):=by
 rw [Nat.zero_add,Nat.one_mul]
 show(By l).toArray[j]?=_
 exact By_get hj
theorem div_pow_succ(v i:Nat):v/2^(i+1)=v/2^i/2:=by rw [Nat.pow_succ,Nat.div_div_eq_div_mul]
theorem rbit_S{k:List UInt8}(hk:k.length=32)(n:Nat)(hn:n<256):Spec 37 [(eY 32 k).den,.int .i64 (n:Int)] [] (λ_=>True) (one (.v (.int .i64 ((b6 k n:Nat):Int)))):=by
 refine spec_S [eY 32 k,.c (.v (.int .i64 (n:Int)))] 23 Tryz.func37 rfl (by rw [Tryz.ntmps37];rfl) (two_ok (eY_ok hk).1 trivial) λb=>?_;refine s_auto TY_ok rfl ?_;refine s_regA TY_ok rfl λK hK=>?_;refine l_num 8 ((n/8:Nat):Int) rfl (wrapQ n 8 (by omega)) ?_;refine l_op (.a 2 (0+1*(n/8))) trivial rfl rfl rfl (runO_ixA (n/8) rfl Tryz.underlying45 rfl rfl rfl (by omega)) ?_;refine l_opV (.v (.int .u8 ((k[n/8]!).toNat:Int))) trivial rfl rfl rfl (runO_ldA _ rfl rfl rfl (row_at (by omega)) Tryz.underlying5 rfl) ?_;refine l_autoS TY_ok rfl ?_;have hlt:=(k[n/8]!).toNat_lt;generalize hv:(k[n/8]!).toNat=v at *;refine l_num 5 (v:Int) rfl (wrapI rfl (by omega) (by omega)) ?_;refine s_end (hK _ ?_);have hrem:IntKind.i64.wrap (7-(n:Int).tmod 8)=((7-n%8:Nat):Int):=wrapI (by rw [iC (by omega)];omega) (by omega) (by omega);refine s_seq λKl hKl=>?_;refine s_auto TY_ok rfl ?_;refine s_block ?_
 let F:Nat->Env:=λi=>⟨[(6,.v (.int .i64 (i:Int))),(5,.v (.int .i64 ((v/2^i:Nat):Int))),(1,.v (.int .i64 (n:Int)))],[],[],λ_=>True,λ_=>True⟩
 refine c_weak (e':=F 0) ⟨⟨rfl,congrArg some (congrArg SV.v (congrArg (bH .i64) (by rw [Nat.pow_zero,Nat.div_one]))),rfl,trivial⟩,trivial,.refl _,λ_ _ _=>trivial,λ_ _=>trivial⟩ (s_loop (λi=>7-n%8-i) F (λi=>i<=7-n%8) ?_ 0 (aI _))
 intro i hi
 refine s_seq λK1 hK1=>?_;refine s_auto TY_ok rfl ?_;refine s_ifD ((i:Int)<IntKind.i64.wrap (7-(n:Int).tmod 8)) rfl (λhlt2=>?_) (λhge=>?_)
 ·rw [hrem] at hlt2
  have hil:i<7-n%8:=by omega
  refine s_skip (hK1 _ ?_);refine s_seq λK4 hK4=>?_;refine s_block ?_;refine s_autoE TY_ok rfl ?_;refine hK4 _ ?_;refine s_autoE TY_ok rfl ?_;have hb:v/2^i<=v:=dN _ _;exact k_next (i+1) hil (by omega) ⟨⟨congrArg some (congrArg SV.v (congrArg (bH .i64) (wrapI rfl (by omega) (by omega)))),congrArg some (congrArg SV.v (congrArg (bH .i64) (by rw [div_pow_succ];exact wrapQ (v/2^i) 2 (by omega)))),rfl,trivial⟩,trivial,.refl _,λ_ _ _=>trivial,λ_ _=>trivial⟩
 ·rw [hrem] at hge
  obtain rfl:i=7-n%8:=by omega
  refine s_exit (k_pass (k_pass (k_out ?_)));refine hKl _ ?_;have hb:v/2^(7-n%8)<=v:=dN _ _;refine s_auto TY_ok rfl ?_
  have hbit:b6 k n=v/2^(7-n%8)%2:=by unfold b6;rw [hv]
  exact s_ret (k_retD TY_ok () rfl (by decide) rfl (by
   show bH .i64 ((b6 k n:Nat):Int)=bH .i64 (((v/2^(7-n%8):Nat):Int).tmod 2)
   exact congrArg (bH .i64) (by rw [hbit];generalize v/2^(7-n%8)=z;rw [iC (Int.natCast_nonneg z)];omega)) trivial rfl (λ_ _ _=>trivial) (λ_ _=>trivial))
theorem lessT_take:∀(i:Nat) {a b:List UInt8},i<a.length->i<b.length->a.take i=b.take i->a[i]! ≠ b[i]! -> cY a b=decide ((a[i]!).toNat<(b[i]!).toNat)
 | _,[],_,h,_,_,_=>by cases h
 | _,_::_,[],_,h,_,_=>by cases h
 | 0,a::p,b::q,_,_,_,h=>by
  have h:a≠b:=h
  show(if a=b then _ else _)=_
  rw [if_neg h]
  rfl
 | i+1,a::p,b::q,ha,hb,ht,h=>by
  simp only [List.take_succ_cons,List.cons.injEq] at ht
  show(if a=b then _ else _)=_
  rw [if_pos ht.1];exact lessT_take i (a:=p) (b:=q) (by simpa using ha) (by simpa using hb) ht.2 h
theorem take_moreT{i:Nat}{a b:List UInt8}(ha:i<a.length)(hb:i<b.length)(ht:a.take i=b.take i)(h:a[i]! = b[i]!):a.take (i+1)=b.take (i+1):=by
 rw [fW ha,fW hb,ht];rw [getElem!_pos a i ha,getElem!_pos b i hb] at h;rw [h]
theorem rless_S{x y:List UInt8}(hx:x.length=32)(hy:y.length=32):Spec 53 [(eY 32 x).den,(eY 32 y).den] [] (λ_=>True) (one (.q (.c (.b (cY x y))))):=by
 refine spec_S [eY 32 x,eY 32 y] 24 Tryz.func53 rfl (by rw [Tryz.ntmps53];rfl) (two_ok (eY_ok hx).1 (eY_ok hy).1) λb=>?_;refine s_auto TY_ok rfl ?_;refine s_seq λK hK=>?_;refine s_auto TY_ok rfl ?_;refine s_block ?_
 let F:Nat->Env:=λi=>⟨[(6,.v (.int .i64 (i:Int))),(2,.a 2 0),(3,.a 3 0)],[⟨3,none,45,[.agg 32 (By y).toArray]⟩,⟨2,none,45,[.agg 32 (By x).toArray]⟩],[],λ_=>True,λ_=>True⟩
 refine c_weak (e':=F 0) ⟨⟨rfl,rfl,rfl,trivial⟩,⟨rfl,rfl,rfl,rfl,trivial⟩,.refl _,λ_ _ _=>trivial,λ_ _=>trivial⟩ (s_loop (λi=>32-i) F (λi=>i<=32/\x.take i=y.take i) ?_ 0 ⟨aI _,rfl⟩)
 rintro i ⟨hi,ht⟩
 refine s_auto TY_ok rfl ?_;refine s_seq λK1 hK1=>?_;refine s_ifD ((i:Int)<32) rfl (λhlt=>?_) (λhge=>?_)
 ·have hil:i<32:=by omega
  refine s_skip (hK1 _ ?_);refine s_seq λK2 hK2=>?_;refine s_block ?_;refine s_auto TY_ok rfl ?_;refine s_regD 7 (by decide) (by kernel_rfl) (by kernel_rfl) λK3 hK3 G S w0 hst=>?_;refine g_autoS TY_ok hst rfl ?_;refine g_opS (.a 2 (0+1*i)) trivial rfl rfl rfl (runO_ixA i rfl Tryz.underlying45 rfl rfl rfl hil) ?_;refine g_opV hst (.v (.int .u8 ((x[i]!).toNat:Int))) trivial rfl rfl rfl (runO_ldA _ rfl rfl rfl (row_at (by omega)) Tryz.underlying5 rfl) ?_;refine g_autoS TY_ok hst rfl ?_;refine g_opS (.a 3 (0+1*i)) trivial rfl rfl rfl (runO_ixA i rfl Tryz.underlying45 rfl rfl rfl hil) ?_;refine g_opV hst (.v (.int .u8 ((y[i]!).toNat:Int))) trivial rfl rfl rfl (runO_ldA _ rfl rfl rfl (row_at (by omega)) Tryz.underlying5 rfl) ?_;refine g_autoS TY_ok hst rfl ?_;refine g_endS hst ?_;refine s_end (hK3 _ ?_);refine s_ifD (((x[i]!).toNat:Int)≠((y[i]!).toNat:Int)) rfl (λhne=>?_) (λhe=>?_)
  ·have hne:x[i]! ≠ y[i]!:=λe=>hne (by rw [e])
   refine s_regD 7 (by decide) (by kernel_rfl) (by kernel_rfl) λK4 hK4 G S w0 hst=>?_;refine g_autoS TY_ok hst rfl ?_;refine g_opS (.a 2 (0+1*i)) trivial rfl rfl rfl (runO_ixA i rfl Tryz.underlying45 rfl rfl rfl hil) ?_;refine g_opV hst (.v (.int .u8 ((x[i]!).toNat:Int))) trivial rfl rfl rfl (runO_ldA _ rfl rfl rfl (row_at (by omega)) Tryz.underlying5 rfl) ?_;refine g_autoS TY_ok hst rfl ?_;refine g_opS (.a 3 (0+1*i)) trivial rfl rfl rfl (runO_ixA i rfl Tryz.underlying45 rfl rfl rfl hil) ?_;refine g_opV hst (.v (.int .u8 ((y[i]!).toNat:Int))) trivial rfl rfl rfl (runO_ldA _ rfl rfl rfl (row_at (by omega)) Tryz.underlying5 rfl) ?_;refine g_autoS TY_ok hst rfl ?_;refine g_endS hst ?_;refine l_autoS TY_ok rfl ?_;refine s_end (hK4 _ ?_)
   exact s_ret (k_retD TY_ok () rfl (by decide) rfl (by
    rw [lessT_take i (by omega) (by omega) ht hne]
    show Value.bool _=Value.bool _
    congr 1
    exact decide_eq_decide.2 (by omega)) trivial rfl (λ_ _ _=>trivial) (λ_ _=>trivial))
  ·have he:x[i]! = y[i]!:=rY.1 (by omega)
   refine s_skip (hK2 _ ?_);refine s_autoE TY_ok rfl ?_;exact k_next (i+1) ⟨hil,take_moreT (by omega) (by omega) ht he⟩ (by omega) ⟨⟨congrArg some (congrArg SV.v (congrArg (bH .i64) (wrapI rfl (by omega) (by omega)))),rfl,rfl,trivial⟩,⟨rfl,rfl,rfl,rfl,trivial⟩,.refl _,λ_ _ _=>trivial,λ_ _=>trivial⟩
 ·obtain rfl:i=32:=by omega
  have e:x=y:=by
   rw [bE (by omega),bE (by omega)] at ht;exact ht
  refine s_exit (k_pass (k_pass (k_out ?_)));refine hK _ ?_;refine s_auto TY_ok rfl ?_;exact s_ret (k_retD TY_ok () rfl (by decide) rfl (by rw [e,cH];rfl) trivial rfl (λ_ _ _=>trivial) (λ_ _=>trivial))
def eP(p:PairT):SQ:=.p [.agg 32 (By p.1).toArray,.agg 32 (By p.2).toArray]
def OkT2(p:PairT):Prop:=p.1.length=32/\p.2.length=32
theorem eP_ok{p:PairT}(h:OkT2 p):OkP (eP p).parts1/\(eP p).cl.length=64:=by
 have h1:(By p.1).toArray.size=32:=by rw [aU,By_len,h.1]
 have h2:(By p.2).toArray.size=32:=by rw [aU,By_len,h.2]
 refine⟨λq hq=>?_,?_⟩
 ·rcases aL.1 hq with rfl|hq
  ·exact⟨h1,By_one p.1⟩
  ·rw [aF.1 hq]
   exact⟨h2,By_one p.2⟩
 ·rw [SQ.cl,a7]
  show(catP [Pt.agg 32 (By p.1).toArray,.agg 32 (By p.2).toArray]).size=64
  rw [catP_cons,Array.size_append]
  simp [Pt.cells,catP,By_len,h.1,h.2]
theorem eP_len{p:PairT}(h:OkP (eP p).parts1):OkT2 p:=by
 have h1:=(h (.agg 32 (By p.1).toArray) (by simp [eP,SQ.parts1])).1;have h2:=(h (.agg 32 (By p.2).toArray) (by simp [eP,SQ.parts1])).1;rw [aU,By_len] at h1 h2;exact⟨h1,h2⟩
abbrev PX:=Option Addr×Nat
theorem own_rroot9:Own 36:=λ_ _=>by go_simp
theorem own_rsum2:Own 58:=λ_ _=>by go_simp
theorem rootT_len:∀(r:Nat) (l:List PairT),(dY r l).length=32
 | r,[]=>by rw [j9];rfl
 | r,[p]=>by rw [jA];exact digest256_len _
 | 0,_::_::_=>rfl
 | r+1,p::q::l=>by rw [kR (by simp)];exact digest256_len _
theorem runO_allQ{P:Program}{N:Nat}{E:SE}{o:Oper}{x:Operand}{t e:TypeId}{g off n sz:Nat}(ho:o.op = .slice t x none none none)(ht:P.underlying t=some (.array n e))(he:(P.info? e).map (·.size)=some sz)(hx:evS E x=some (.v (.pointer (some ⟨g,off,none⟩)))) :
  ∀(G:Nat->Nat) (a:Act) (w:World),Fr N (denE G E) a->(execOp a.eval o).run P w = .ok (.value ((SV.v (.slice (some ⟨g,off,none⟩) n n)).den G)) w:=λG a w ha=>by
 have h1:a.eval x = .pointer (some ⟨g,off,none⟩):=ha.eval (evS_ok hx);have h5:=run_sizeOf he w
 unfold execOp
 simp only [ho];generalize a.eval=ρ at *;simp only [Option.map,h1]
 show _=Result.ok (Next.value (.slice (some ⟨g,off,none⟩) n n)) w
 simp [Instr.sliceAt,Instr.sureAddr,run_underlying ht,Instr.sliceBounds,h5,aG,cX]
theorem eP_cl(p:PairT):(eP p).cl=By p.1++By p.2:=by
 show(catP [Pt.agg 32 (By p.1).toArray,.agg 32 (By p.2).toArray]).toList=_
 rw [catP_cons]
 simp [Pt.cells,catP]
theorem rd_pair{g o c i:Nat}{l:List PairT}{p:PairT}{w:World}(h:Rd 64 eP (some ⟨g,o,none⟩) c l w)(hi:l[i]?=some p)(hp:OkT2 p) :
  SB w (.slice (some ⟨g,o+64*i,none⟩) 32 32) p.1/\SB w (.slice (some ⟨g,o+64*i+32,none⟩) 32 32) p.2:=by
 obtain⟨_,_,_,_,h5⟩:=h;obtain⟨b',o',e,hb,hr⟩:=h5 (c8 (aI _) (bG.1 hi).1)
 injection e with e
 injection e with e1 e2
 subst e1;subst e2;have hr:=hr i p hi;rw [eP_cl] at hr
 have hl1:(By p.1).length=32:=by rw [By_len];exact hp.1
 refine⟨⟨_,_,by rw [hp.1],by rw [hp.1];exact aE _,by decide,λh=>(by cases h),λ_=>⟨_,rfl,aI _,hb,λj x hx=>?_⟩⟩,⟨_,_,by rw [hp.2],by rw [hp.2];exact aE _,by decide,λh=>(by cases h),λ_=>⟨_,rfl,aI _,hb,λj x hx=>?_⟩⟩⟩
 ·have hj:j<32:=by rw [<-hp.1];exact(bG.1 hx).1
  rw [cX];refine hr j _ ?_;rw [List.getElem?_append_left (by omega)]
  simp [By,hx]
 ·rw [cX,Nat.add_assoc (o+64*i)]
  refine hr (32+j) _ ?_;rw [List.getElem?_append_right (by omega),hl1,Nat.add_sub_cancel_left]
  simp [By,hx]
theorem take_filter{α:Type}(f:α->Bool){l:List α}{i:Nat}{x:α}(hx:l[i]?=some x):(l.take (i+1)).filter f=(l.take i).filter f++(if f x then [x] else []):=by
 rw [List.take_add_one,hx,List.filter_append]
 simp [List.filter_cons]
theorem rroot_S:∀(r:Nat) (l:List PairT) (A:Option Addr) (c:Nat),r<=256->l.length<=1000000->cP l->c7 (256-r) l->Spec 36 [.slice A l.length c,.int .i64 ((256-r:Nat):Int)] [] (Rd 64 eP A c l) (one (.q (eY 32 (dY r l)))):=by
 intro r
 induction r using Nat.strongRecOn with
 | ind r ih =>
 intro l A c hr hl hs hsh
 refine spec_S [.c (.v (.slice A l.length c)),.c (.v (.int .i64 ((256-r:Nat):Int)))] 62 Tryz.func36 rfl (by rw [Tryz.ntmps36];rfl) (two_ok trivial trivial) λb=>?_;refine s_pure (∀x∈l,OkT2 x) (λ_ h _=>λx hx=>eP_len (h.2.2.2.1 x hx).1) λhok=>?_;refine s_auto TY_ok rfl ?_;refine s_seq λK hK=>?_;refine s_auto TY_ok rfl ?_;refine s_ifD ((l.length:Int)=0) rfl (λh0=>?_) (λh0=>?_)
 ·obtain rfl:l=[]:=List.eq_nil_of_length_eq_zero (by omega)
  refine s_auto TY_ok rfl ?_;exact s_ret (k_retD TY_ok () rfl (by decide) rfl (by rw [j9];rfl) (by rw [j9];exact(eY_ok (n:=32) (l:=dE) rfl).1) rfl (λ_ _ _=>trivial) (λ_ _=>trivial))
 refine s_skip (hK _ ?_);refine s_seq λK1 hK1=>?_;refine s_auto TY_ok rfl ?_;refine s_ifD ((l.length:Int)=1) rfl (λh1=>?_) (λh1=>?_)
 ·obtain⟨p,rfl⟩:∃p,l=[p]:=List.length_eq_one_iff.1 (by omega)
  have hp:OkT2 p:=hok p aP;refine s_pure (∃g o,A=some ⟨g,o,none⟩) (λ_ h _=>by obtain⟨g,o,e,_⟩:=h.2.2.2.2 (by simp);exact⟨g,o,e⟩) λ⟨g,o,hA⟩=>?_;subst hA;refine s_seq λK2 hK2=>?_;refine s_any 9 [] (by kernel_rfl) (by decide) (λ_ _ _ _ h=>by cases h) ?_;refine a_front TY_ok 1 (by kernel_rfl) rfl rfl rfl rfl rfl rfl (λ_ h=>by cases h) ?_;refine a_frontO (.v (.pointer (some ⟨g,o+64*0,none⟩))) trivial 2 (by kernel_rfl) rfl rfl rfl rfl rfl (runO_ixS 0 rfl Tryz.underlying57 rfl rfl rfl oG) ?_;refine a_front TY_ok 3 (by kernel_rfl) rfl rfl rfl rfl rfl rfl (λ_ h=>by cases h) ?_;refine a_frontO (.v (.slice (some ⟨g,o+64*0+0,none⟩) 32 32)) trivial 4 (by kernel_rfl) rfl rfl rfl rfl rfl (runO_allQ rfl Tryz.underlying45 rfl rfl) ?_;refine a_front TY_ok 5 (by kernel_rfl) rfl rfl rfl rfl rfl rfl (λ_ h=>by cases h) ?_;refine a_frontO (.v (.pointer (some ⟨g,o+64*0,none⟩))) trivial 6 (by kernel_rfl) rfl rfl rfl rfl rfl (runO_ixS 0 rfl Tryz.underlying57 rfl rfl rfl oG) ?_;refine a_front TY_ok 7 (by kernel_rfl) rfl rfl rfl rfl rfl rfl (λ_ h=>by cases h) ?_;refine a_frontO (.v (.slice (some ⟨g,o+64*0+32,none⟩) 32 32)) trivial 8 (by kernel_rfl) rfl rfl rfl rfl rfl (runO_allQ rfl Tryz.underlying45 rfl rfl) ?_;refine a_step 0 (by kernel_rfl) rfl λK3 hK3=>?_;refine l_list TY_ok b.B.heap.size [(0:UInt8)] rfl rfl rfl rfl rfl (λ_=>rfl) rfl (by decide) (by decide) (okF_B _) (aE _) λB=>?_;refine s_end (hK3 _ (λ_ _ _ _ h=>by cases h) ?_);refine a_tail (by kernel_rfl) ?_;refine l_dig TY_ok [.v (.slice B 1 1),.v (.slice (some ⟨g,o+64*0+0,none⟩) 32 32),.v (.slice (some ⟨g,o+64*0+32,none⟩) 32 32)] [[0],p.1,p.2] (gX p) rfl rfl rfl rfl rfl rfl rfl rfl rfl own_rsum2 (λ_=>rfl) rfl (by decide) (by decide) (digest256_len _) (λA w h _ _=>?_) (λG S w h=>?_) λB2=>?_
  ·have hr2:=rsum_f A [[0],p.1,p.2] 3 (by simp) (by simp [hp.1,hp.2]) w h
   simpa [gX] using hr2
  ·have h1:=rd_pair (i:=0) h.fact rfl hp
   have h2:Rd 1 eB B 1 [0] w:=rd_own 0 rfl G S w h;exact⟨h2.sb,h1.1,h1.2,trivial⟩
  refine l_autoS TY_ok rfl ?_;refine s_end (hK2 _ ?_);refine s_free 0 rfl ?_;exact s_ret (k_retD TY_ok () rfl (by decide) rfl (by rw [jA];rfl) (by rw [jA];exact(eY_ok (n:=32) (digest256_len _)).1) rfl (λ_ _ _=>trivial) (λ_ _=>trivial))
 have h2:2<=l.length:=by omega
 have hk:gP l:=λx hx=>(hok x hx).1
 obtain⟨q,rfl⟩:∃q,r=q+1:=⟨r-1,by
  by_cases e:r=0
  ·subst e
   have:=c7.one hs hk hsh
   omega
  ·omega⟩
 have hq1:256-q=256-(q+1)+1:=by omega
 have hroot:dY (q+1) l=fM (dY q (bR (256-(q+1)) l)) (dY q (bB (256-(q+1)) l)):=by
  rw [kR h2,show 255-q=256-(q+1) by omega]
 have ihL:=λB e=>ih q (by omega) (bR (256-(q+1)) l) B e (by omega) (bN (cD _ _) hl) (hs.filter _) (by rw [hq1];exact hsh.left);have ihR:=λB e=>ih q (by omega) (bB (256-(q+1)) l) B e (by omega) (bN (cD _ _) hl) (hs.filter _) (by rw [hq1];exact hsh.right);rw [hq1] at ihL ihR
 have hd:256-(q+1)<256:=by omega
 clear ih hsh hq1;generalize 256-(q+1)=d at *;refine s_skip (hK1 _ ?_);refine s_auto TY_ok rfl ?_;refine s_nil0 b.B.heap.size 96 64 eP ?_;refine s_nil0 b.B.heap.size 96 64 eP ?_;refine s_seq λK2 hK2=>?_;refine s_auto TY_ok rfl ?_;refine s_block ?_
 let F:Nat×Option Addr×Nat×Option Addr×Nat->Env:=λ⟨i,B1,e1,B2,e2⟩=>⟨[(31,.v (.int .i64 (i:Int))),(30,.v (.int .i64 (l.length:Int))),(29,.v (.slice A l.length c)),(1,.v (.int .i64 (d:Int))),(5,.v (.slice B1 (bR d (l.take i)).length e1)),(6,.v (.slice B2 (bB d (l.take i)).length e2)),(4,.a 4 0)],[⟨4,none,45,[.agg 32 (By dE).toArray]⟩],[OwnS b.B.heap.size 96 64 eP B1 e1 (bR d (l.take i)),OwnS b.B.heap.size 96 64 eP B2 e2 (bB d (l.take i))],Rd 64 eP A c l,λ_=>True⟩
 refine c_weak (e':=F (0,none,0,none,0)) ⟨⟨rfl,rfl,rfl,rfl,rfl,rfl,rfl,trivial⟩,⟨rfl,rfl,trivial⟩,.refl _,λ_ h _=>h,λ_ _=>trivial⟩ (s_loop (λx=>l.length-x.1) F (λx=>x.1<=l.length) ?_ (0,none,0,none,0) (aI _))
 rintro⟨i,B1,e1,B2,e2⟩ hi
 dsimp only at hi
 refine s_auto TY_ok rfl ?_;refine s_seq λK3 hK3=>?_;refine s_ifD ((i:Int)<(l.length:Int)) rfl (λhlt=>?_) (λhge=>?_)
 ·have hlt:i<l.length:=by omega
  obtain⟨x,hx⟩:∃x,l[i]?=some x:=⟨_,List.getElem?_eq_getElem hlt⟩;have hx2:=hok x (List.mem_of_getElem? hx);have hL:=take_filter (λx:PairT=>b6 x.1 d==0) hx;have hR:=take_filter (λx:PairT=>b6 x.1 d != 0) hx;have lL:(bR d (l.take i)).length<=1000000:=bN (cD _ _) (by rw [aR];omega);have lR:(bB d (l.take i)).length<=1000000:=bN (cD _ _) (by rw [aR];omega);refine s_skip (hK3 _ ?_);refine s_seq λK4 hK4=>?_;refine s_block ?_;refine s_regA TY_ok rfl λK5 hK5=>?_;refine l_elem TY_ok rfl rfl rfl i rfl hx rfl rfl (rd_fact λ_ h _=>h) ?_;refine l_autoS TY_ok rfl ?_;refine s_end (hK5 _ ?_);refine s_regA TY_ok rfl λK6 hK6=>?_;refine l_call0 [.agg (By x.1).toArray,.int .i64 (d:Int)] rfl rfl rfl own_rbit9 rfl rfl (λ_ _=>rfl) (rbit_S hx2.1 d hd) (λ_ _ _=>trivial) λ_=>?_;refine l_autoS TY_ok rfl ?_;refine s_end (hK6 _ ?_);refine s_ifD (((b6 x.1 d:Nat):Int)=0) rfl (λhb=>?_) (λhb=>?_)
  ·have hb:b6 x.1 d=0:=by omega
   have eL:bR d (l.take (i+1))=bR d (l.take i)++[x]:=by simpa [hb,bR] using hL
   have eR:bB d (l.take (i+1))=bB d (l.take i):=by simpa [hb,bB] using hR
   refine s_lit ?_;refine l_autoS TY_ok rfl ?_;refine l_push TY_ok 0 x rfl rfl rfl rfl rfl rfl rfl (eP_ok hx2) (by decide) (by decide) (by show(_+1)*64<=_;omega) (by omega) (aE _) λB3 e3=>?_;rw [<-eL];refine l_autoS TY_ok rfl ?_;refine s_end (hK4 _ ?_);rw [<-eR];refine s_autoE TY_ok rfl ?_;exact k_next (i+1,B3,e3,B2,e2) hlt (by show l.length-(i+1)<l.length-i;omega) ⟨⟨congrArg some (congrArg SV.v (congrArg (bH .i64) (wrapI rfl (by omega) (by omega)))),rfl,rfl,rfl,rfl,rfl,rfl,trivial⟩,⟨rfl,rfl,trivial⟩,.refl _,λ_ h _=>h.2,λ_ _=>trivial⟩
  ·have hb:b6 x.1 d≠0:=by omega
   have eL:bR d (l.take (i+1))=bR d (l.take i):=by simpa [hb,bR] using hL
   have eR:bB d (l.take (i+1))=bB d (l.take i)++[x]:=by simpa [hb,bB] using hR
   refine s_lit ?_;refine l_autoS TY_ok rfl ?_;refine l_push TY_ok 1 x rfl rfl rfl rfl rfl rfl rfl (eP_ok hx2) (by decide) (by decide) (by show(_+1)*64<=_;omega) (by omega) (aE _) λB3 e3=>?_;rw [<-eR];refine l_autoS TY_ok rfl ?_;refine s_end (hK4 _ ?_);rw [<-eL];refine s_autoE TY_ok rfl ?_;exact k_next (i+1,B1,e1,B3,e3) hlt (by show l.length-(i+1)<l.length-i;omega) ⟨⟨congrArg some (congrArg SV.v (congrArg (bH .i64) (wrapI rfl (by omega) (by omega)))),rfl,rfl,rfl,rfl,rfl,rfl,trivial⟩,⟨rfl,rfl,trivial⟩,.refl _,λ_ h _=>h.2,λ_ _=>trivial⟩
 ·obtain rfl:i=l.length:=by omega
  refine s_exit (k_pass (k_pass (k_out ?_)));refine hK2 _ ?_;rw [List.take_length];refine s_freeM 1 rfl (aE _) ?_;refine s_freeM 0 rfl (aE _) ?_;refine s_regA TY_ok rfl λK5 hK5=>?_;have hd1:IntKind.i64.wrap ((d:Int)+1)=((d+1:Nat):Int):=wrapI (by omega) (by omega) (by omega);refine l_num 51 ((d+1:Nat):Int) rfl hd1 ?_;refine l_call0 [.slice B1 (bR d l).length e1,.int .i64 ((d+1:Nat):Int)] rfl rfl rfl own_rroot9 rfl rfl (λ_ _=>rfl) (ihL B1 e1) (λ_ _ h=>h.1) λ_=>?_;refine l_autoS TY_ok rfl ?_;refine l_num 55 ((d+1:Nat):Int) rfl hd1 ?_;refine l_call0 [.slice B2 (bB d l).length e2,.int .i64 ((d+1:Nat):Int)] rfl rfl rfl own_rroot9 rfl rfl (λ_ _=>rfl) (ihR B2 e2) (λ_ _ h=>h.2.2.1) λ_=>?_;refine l_autoS TY_ok rfl ?_;refine s_end (hK5 _ ?_);have x32:=rootT_len q (bR d l);have y32:=rootT_len q (bB d l);generalize dY q (bR d l)=x at *;generalize dY q (bB d l)=y at *;refine s_seq λK6 hK6=>?_;refine s_any 3 [] (by kernel_rfl) (by decide) (λ_ _ _ _ h=>by cases h) ?_;refine a_frontO (.s 9 0 32 32) trivial 1 (by kernel_rfl) rfl rfl rfl rfl rfl (runO_all rfl Tryz.underlying45 rfl rfl) ?_;refine a_frontO (.s 10 0 32 32) trivial 2 (by kernel_rfl) rfl rfl rfl rfl rfl (runO_all rfl Tryz.underlying45 rfl rfl) ?_;refine a_step 0 (by kernel_rfl) rfl λK7 hK7=>?_;refine l_list TY_ok b.B.heap.size [(1:UInt8)] rfl rfl rfl rfl rfl (λ_=>rfl) rfl (by decide) (by decide) (okF_B _) (aE _) λB=>?_;refine s_end (hK7 _ (λ_ _ _ _ h=>by cases h) ?_);refine a_tail (by kernel_rfl) ?_;refine l_dig TY_ok [.v (.slice B 1 1),.s 9 0 32 32,.s 10 0 32 32] [[1],x,y] (fM x y) rfl rfl rfl rfl rfl rfl rfl rfl rfl own_rsum2 (λ_=>rfl) rfl (by decide) (by decide) (digest256_len _) (λA w h _ _=>?_) (λG S w h=>?_) λB3=>?_
  ·have hr2:=rsum_f A [[1],x,y] 3 (by simp) (by simp [x32,y32]) w h
   simpa [fM] using hr2
  ·have hB:Rd 1 eB B 1 [1] w:=rd_own 0 rfl G S w h
   exact⟨hB.sb,sb_var (j:=9) rfl x32 (by decide) G S w h,sb_var (j:=10) rfl y32 (by decide) G S w h,trivial⟩
  refine l_autoS TY_ok rfl ?_;refine s_end (hK6 _ ?_);refine s_free 0 rfl ?_;exact s_ret (k_ret TY_ok () rfl (by decide) rfl (congrArg (λz=>RV.q (eY 32 z)) hroot) rfl (λ_ _ _=>trivial) (λ_ _=>trivial))
inductive TA where
  | nil
  | leaf (g h:Nat) (p:PairT)
  | node (g:Nat) (a b:TA)
namespace TA
def ptr:TA->Option Nat
  | nil=>none
  | leaf g _ _=>some g
  | node g _ _=>some g
def root:TA->List UInt8
  | nil=>dE
  | leaf _ _ p=>gX p
  | node _ a b=>fM a.root b.root
def len:TA->Nat
  | nil=>0
  | leaf _ _ _=>1
  | node _ a b=>a.len+b.len
def val(t:TA):Value:=.pointer (t.ptr.map λg=>⟨g,0,none⟩)
def all:TA->List PairT
  | nil=>[]
  | leaf _ _ p=>[p]
  | node _ a b=>a.all++b.all
end TA
def prPs(p:PairT):List Pt:=[.agg 32 (By p.1).toArray,.agg 32 (By p.2).toArray]
def lfPs(h:Nat)(p:PairT):List Pt:=[.agg 32 (By (gX p)).toArray,.one (.v (.int .i64 1)),.one (.v (.pointer (some ⟨h,0,none⟩))),.agg 2 #[.pointer none,.pointer none]]
def ndPs(a b:TA):List Pt:=[.agg 32 (By (fM a.root b.root)).toArray,.one (.v (.int .i64 ((a.len+b.len:Nat):Int))),.one (.v (.pointer none)),.agg 2 #[a.val,b.val]]
def TF:TA->World->Prop
  | .nil,_=>True
  | .leaf g h p,w=>ObjF g 139 (lfPs h p) w/\ObjF h 135 (prPs p) w
  | .node g a b,w=>ObjF g 139 (ndPs a b) w/\TF a w/\TF b w
theorem TF.later:∀{t:TA} {w w':World},TF t w->Below w.heap.size w w'->TF t w'
 | .nil,_,_,_,_=>trivial
 | .leaf _ _ _,_,_,h,k=>⟨⟨h.1.1.later k,h.1.2⟩,⟨h.2.1.later k,h.2.2⟩⟩
 | .node _ _ _,_,_,h,k=>⟨⟨h.1.1.later k,h.1.2⟩,h.2.1.later k,h.2.2.later k⟩
instance{t:TA}:Pst (TF t):=⟨λ_ _ h k=>h.later k⟩
theorem TA.root_len:∀t:TA,t.root.length=32
 | .nil=>rfl
 | .leaf _ _ _=>digest256_len _
 | .node _ _ _=>digest256_len _
def TOk:Nat->List PairT->TA->Prop
  | _,l,.nil=>l=[]
  | _,l,.leaf _ _ p=>l=[p]
  | 0,_,.node _ _ _=>False
  | r+1,l,.node _ a b=>2<=l.length/\TOk r (bR (255-r) l) a/\TOk r (bB (255-r) l) b
theorem TOk.root:∀{r:Nat} {l:List PairT} {t:TA},TOk r l t->t.root=dY r l
 | r,l,.nil,h=>by
  have h:l=[]:=by cases r<;>exact h
  subst h;exact(j9 r).symm
 | r,l,.leaf _ _ p,h=>by
  have h:l=[p]:=by cases r<;>exact h
  subst h;exact(jA r p).symm
 | 0,_,.node _ _ _,h=>h.elim
 | r+1,l,.node _ a b,h=>by
  obtain⟨h1,h2,h3⟩:=h;rw [kR h1,<-h2.root,<-h3.root]
  rfl
theorem sides_len(d:Nat)(l:List PairT):(bR d l).length+(bB d l).length=l.length:=by
 unfold bR bB
 induction l with
 | nil=>rfl
 | cons x l ih =>
  by_cases h:b6 x.1 d=0
  ·simp [h] at ih ⊢
   omega
  ·simp [h] at ih ⊢
   omega
theorem TOk.len:∀{r:Nat} {l:List PairT} {t:TA},TOk r l t->t.len=l.length
 | r,l,.nil,h=>by
  have h:l=[]:=by cases r<;>exact h
  subst h
  rfl
 | r,l,.leaf _ _ p,h=>by
  have h:l=[p]:=by cases r<;>exact h
  subst h
  rfl
 | 0,_,.node _ _ _,h=>h.elim
 | r+1,l,.node _ a b,h=>by
  obtain⟨h1,h2,h3⟩:=h;have:=sides_len (255-r) l
  show a.len+b.len=_
  rw [h2.len,h3.len,this]
theorem low1T(m:Nat)(h:m<256):bits .and .u8 (m:Int) 1=((m%2:Nat):Int):=by
 have key:∀m:Nat,m<256->bits .and .u8 (m:Int) 1=((m%2:Nat):Int):=by decide +kernel
 exact key m h
theorem run_shr8{N:Nat}{E:SE}{o:Oper}{x y:Operand}{t':TypeId}{m n:Nat}(hn:n<=8)(ho:o.op = .binOp .shr 5 x y t')(hx:evS E x=some (.v (.int .u8 (m:Int))))(hy:evS E y=some (.v (.int .u8 (n:Int)))) :
  ∀(G:Nat->Nat) (a:Act) (w:World),Fr N (denE G E) a->(execOp a.eval o).run Tryz.prog w = .ok (.value ((SV.v (.int .u8 ((m/2^n:Nat):Int))).den G)) w:=λG a w ha=>by
 have h1:a.eval x = .int .u8 (m:Int):=ha.eval (evS_ok hx);have h2:a.eval y = .int .u8 (n:Int):=ha.eval (evS_ok hy)
 have h3:(n:Int)<=8:=by omega
 unfold execOp
 simp only [ho,h1,h2]
 go_simp
 rfl
theorem run_and8{N:Nat}{E:SE}{o:Oper}{x y:Operand}{t':TypeId}{m n:Int}(ho:o.op = .binOp .and 5 x y t')(hx:evS E x=some (.v (.int .u8 m)))(hy:evS E y=some (.v (.int .u8 n))) :
  ∀(G:Nat->Nat) (a:Act) (w:World),Fr N (denE G E) a->(execOp a.eval o).run Tryz.prog w = .ok (.value ((SV.v (.int .u8 (bits .and .u8 m n))).den G)) w:=λG a w ha=>by
 have h1:a.eval x = .int .u8 m:=ha.eval (evS_ok hx);have h2:a.eval y = .int .u8 n:=ha.eval (evS_ok hy)
 unfold execOp
 simp only [ho,h1,h2]
 go_simp
 rfl
theorem wrapB{m r:Int}(h:m=r)(h1:0<=r)(h2:r<256):IntKind.u8.wrap m=r:=by
 subst h
 unfold IntKind.wrap
 simp [rL,pW]
 omega
theorem own_tbit:Own 112:=λ_ _=>by go_simp
theorem tbit_S{k:List UInt8}(hk:k.length=32)(n:Nat)(hn:n<256):Spec 112 [(eY 32 k).den,.int .u8 (n:Int)] [] (λ_=>True) (one (.v (.int .u8 ((b6 k n:Nat):Int)))):=by
 refine spec_S [eY 32 k,.c (.v (.int .u8 (n:Int)))] 14 Tryz.func112 rfl (by rw [Tryz.ntmps112];rfl) (two_ok (eY_ok hk).1 trivial) λb=>?_;refine s_auto TY_ok rfl ?_;refine s_regA TY_ok rfl λK hK=>?_;refine l_num 6 ((n/8:Nat):Int) rfl (wrapB (by rw [Int.tdiv_eq_ediv_of_nonneg (by omega)];omega) (by omega) (by omega)) ?_;refine l_op (.a 2 (0+1*(n/8))) trivial rfl rfl rfl (runO_ixA (n/8) rfl Tryz.underlying45 rfl rfl rfl (by omega)) ?_;refine l_opV (.v (.int .u8 ((k[n/8]!).toNat:Int))) trivial rfl rfl rfl (runO_ldA _ rfl rfl rfl (row_at (by omega)) Tryz.underlying5 rfl) ?_;have hlt:=(k[n/8]!).toNat_lt;have hb:b6 k n=(k[n/8]!).toNat/2^(7-n%8)%2:=rfl;generalize (k[n/8]!).toNat=v at *;refine l_autoS TY_ok rfl ?_;refine l_num 11 ((7-n%8:Nat):Int) rfl (wrapB (by rw [iC (by omega)];omega) (by omega) (by omega)) ?_;refine l_op (.v (.int .u8 ((v/2^(7-n%8):Nat):Int))) trivial rfl rfl rfl (run_shr8 (by omega) rfl rfl rfl) ?_;have h2:v/2^(7-n%8)<256:=c8 (dN _ _) hlt;generalize v/2^(7-n%8)=z at *;refine l_op (.v (.int .u8 (bits .and .u8 (z:Int) 1))) trivial rfl rfl rfl (run_and8 rfl rfl rfl) ?_;refine l_num 13 ((z%2:Nat):Int) rfl (low1T z h2) ?_;refine l_autoS TY_ok rfl ?_;refine s_end (hK _ ?_);exact s_ret (k_ret TY_ok () rfl (by decide) rfl (congrArg (λx:Nat=>RV.v (.int .u8 (x:Int))) hb) rfl (λ_ _ _=>trivial) (λ_ _=>trivial))
theorem own_thash:Own 54:=λ_ _=>by go_simp
theorem own_tsize:Own 45:=λ_ _=>by go_simp
theorem tsize_S(t:TA):Spec 45 [t.val] [] (TF t) (one (.v (.int .i64 (t.len:Int)))):=by
 refine spec_S [.c (.v t.val)] 9 Tryz.func45 rfl (by rw [Tryz.ntmps45];rfl) (one_ok trivial) λb=>?_;refine s_auto TY_ok rfl ?_;refine s_seq λK hK=>?_
 cases t with
 | nil =>
  refine s_auto TY_ok rfl ?_;refine s_yes rfl ?_;refine s_auto TY_ok rfl ?_;exact s_ret (k_ret TY_ok () rfl (by decide) rfl rfl rfl (λ_ _ _=>trivial) (λ_ _=>trivial))
 | leaf g h p =>
  refine s_auto TY_ok rfl ?_;refine s_no rfl ?_;refine s_skip (hK _ ?_);refine s_regA TY_ok rfl λK2 hK2=>?_;refine l_ldO TY_ok rfl rfl rfl rfl rfl rfl (obj_fact λ_ h _=>h.1) ?_;refine l_autoS TY_ok rfl ?_;refine s_end (hK2 _ ?_);exact s_ret (k_ret TY_ok () rfl (by decide) rfl rfl rfl (λ_ _ _=>trivial) (λ_ _=>trivial))
 | node g x y =>
  refine s_auto TY_ok rfl ?_;refine s_no rfl ?_;refine s_skip (hK _ ?_);refine s_regA TY_ok rfl λK2 hK2=>?_;refine l_ldO TY_ok rfl rfl rfl rfl rfl rfl (obj_fact λ_ h _=>h.1) ?_;refine l_autoS TY_ok rfl ?_;refine s_end (hK2 _ ?_);exact s_ret (k_ret TY_ok () rfl (by decide) rfl rfl rfl (λ_ _ _=>trivial) (λ_ _=>trivial))
theorem thash_S(t:TA):Spec 54 [t.val] [] (TF t) (one (.q (eY 32 t.root))):=by
 refine spec_S [.c (.v t.val)] 10 Tryz.func54 rfl (by rw [Tryz.ntmps54];rfl) (one_ok trivial) λb=>?_;refine s_auto TY_ok rfl ?_;refine s_seq λK hK=>?_
 cases t with
 | nil =>
  refine s_auto TY_ok rfl ?_;refine s_yes rfl ?_;refine s_auto TY_ok rfl ?_;exact s_ret (k_ret TY_ok () rfl (by decide) rfl rfl rfl (λ_ _ _=>trivial) (λ_ _=>trivial))
 | leaf g h p =>
  refine s_auto TY_ok rfl ?_;refine s_no rfl ?_;refine s_skip (hK _ ?_);refine s_regA TY_ok rfl λK2 hK2=>?_;refine l_ldO TY_ok rfl rfl rfl rfl rfl rfl (obj_fact λ_ h _=>h.1) ?_;refine l_autoS TY_ok rfl ?_;refine s_end (hK2 _ ?_);exact s_ret (k_ret TY_ok () rfl (by decide) rfl rfl rfl (λ_ _ _=>trivial) (λ_ _=>trivial))
 | node g x y =>
  refine s_auto TY_ok rfl ?_;refine s_no rfl ?_;refine s_skip (hK _ ?_);refine s_regA TY_ok rfl λK2 hK2=>?_;refine l_ldO TY_ok rfl rfl rfl rfl rfl rfl (obj_fact λ_ h _=>h.1) ?_;refine l_autoS TY_ok rfl ?_;refine s_end (hK2 _ ?_);exact s_ret (k_ret TY_ok () rfl (by decide) rfl rfl rfl (λ_ _ _=>trivial) (λ_ _=>trivial))
end Go.Proofs.YtlhlkofpjhpaoaaGreatDoor
namespace Go.Proofs.YtlhlkofpjhpaoaaGreatDoor
open Go.RowKit Go.IntWalk Nums
section
variable{P:Program}{b:Base}{ops:Array Oper}{Q:Exit->Act->World->Prop}{N:Nat}{E E':SE}{L:List LV}{R:List Res}{F M:World->Prop}{g:Nat}{t:TypeId}{ps:List Pt}
theorem StW.objOut{G:Nat->Nat}{S:Nat->Prop}{w:World}(h:StW b G S L R F M w){i:Nat}(hi:R[i]?=some (ObjS g t ps)):∃S',StW b G S' L (R.eraseIdx i) (λw=>ObjF g t ps w/\F w) M w:=by
 obtain⟨S1,S2,h1,h2,h3,h4⟩:=h.let hi;refine⟨S2,h4.and λw' hw=>⟨?_,h1.1.2⟩⟩;have hg:S1 g:=(h1.2 g).2 rfl;have hlt:=h1.1.1.lt
 have hnot:¬Dof b.X S2 G L g:=by
  rintro(hx|hx|⟨j,hj,e⟩)
  ·obtain⟨hx1,hx2⟩:=h.old g hx
   exact hx2 (h.mine g (.inl ((h3 g).2 (.inl hg))) hx1)
  ·exact h2 g hg hx
  ·exact h.sep j hj (by rw [e];exact(h3 g).2 (.inl hg))
 exact(hw.block g hlt hnot).trans h1.1.1
theorem k_objOut{K:Act->World->Prop}(i:Nat)(hi:R[i]?=some (ObjS g t ps))(h:kS b K N ⟨E,L,R.eraseIdx i,λw=>ObjF g t ps w/\F w,M⟩):kS b K N ⟨E,L,R,F,M⟩:=λa w ⟨G,S,h1,h2,h3⟩=>by
 obtain⟨S',h4⟩:=h3.objOut hi;exact h a w ⟨G,S',h1,h2,h4⟩
theorem l_objOut{l:List Oper}(i:Nat)(hi:R[i]?=some (ObjS g t ps))(h:lS P b ops Q N l ⟨E,L,R.eraseIdx i,λw=>ObjF g t ps w/\F w,M⟩):lS P b ops Q N l ⟨E,L,R,F,M⟩:=λa w ⟨G,S,h1,h2,h3⟩=>by
 obtain⟨S',h4⟩:=h3.objOut hi;exact h a w ⟨G,S',h1,h2,h4⟩
theorem l_give{l:List Oper}{y:LV}(i:Nat)(hx:lookS E i=some (.a y.j 0))(hs:SubS E' E)(h:∀g,lS P b ops Q N l ⟨(i,.v (.pointer (some ⟨g,0,none⟩)))::E',L,ObjS g y.t y.ps::R,F,M⟩):lS P b ops Q N l ⟨E,y::L,R,F,M⟩:=k_give (K:=λa w=>wpList P ops Q l a w) i hx hs h
end
instance:Pst Tsh:=⟨λ_ _ h hb=>h.below hb⟩
theorem own_tsum:Own 63:=λ_ _=>by go_simp
theorem own_tleaf:Own 111:=λ_ _=>by go_simp
theorem own_tinner:Own 113:=λ_ _=>by go_simp
theorem prPs_ok{p:PairT}(h:OkP (prPs p)):OkT2 p:=by
 have h1:=(h (.agg 32 (By p.1).toArray) (by simp [prPs])).1;have h2:=(h (.agg 32 (By p.2).toArray) (by simp [prPs])).1;rw [aU,By_len] at h1 h2;exact⟨h1,h2⟩
theorem obj_pair{h:Nat}{t:TypeId}{p:PairT}{w:World}(hF:ObjF h t (prPs p) w):Rd 64 eP (some ⟨h,0,none⟩) 1 [p] w:=by
 refine⟨aE _,by decide,λe=>(by cases e),λx hx=>?_,λ_=>⟨h,0,rfl,hF.1.lt,λi x hx=>?_⟩⟩
 ·rw [aF.1 hx]
  exact eP_ok (prPs_ok hF.2)
 ·cases i with
  | zero =>
   simp only [List.getElem?_cons_zero,aV] at hx;subst hx;exact range_of (A:=[]) (Z:=[]) hF.1 (by simp [SQ.cl,SQ.den,eP,Value.cells,prPs])
  | succ i=>simp at hx
theorem tleaf_S(h:Nat)(p:PairT):Spec 111 [.pointer (some ⟨h,0,none⟩)] [] (λw=>ObjF h 135 (prPs p) w/\Tsh w) { ret:=λg:Nat=>.v (.pointer (some ⟨g,0,none⟩)),own:=λ_=>[],p:=λg=>TF (.leaf g h p) }:=by
 refine spec_S [.c (.v (.pointer (some ⟨h,0,none⟩)))] 17 Tryz.func111 rfl (by rw [Tryz.ntmps111];rfl) (one_ok trivial) λb=>?_;refine s_pure (OkT2 p) (λw hw _=>prPs_ok hw.1.2) λhp=>?_;refine s_auto TY_ok rfl ?_;refine s_regH 13 (by decide) (by kernel_rfl) (by kernel_rfl) λK hK G S w0 hst=>?_;refine h_lit TY_ok [(0:UInt8)] rfl rfl rfl rfl rfl rfl (λ_=>rfl) rfl (by decide) (by decide) λB=>?_;refine h_auto TY_ok hst rfl ?_;refine h_op hst (.v (.slice (some ⟨h,0+64*0,none⟩) 32 32)) trivial rfl rfl rfl rfl (runO_allQ rfl Tryz.underlying45 rfl rfl) ?_;refine h_auto TY_ok hst rfl ?_;refine h_op hst (.v (.slice (some ⟨h,0+64*0+32,none⟩) 32 32)) trivial rfl rfl rfl rfl (runO_allQ rfl Tryz.underlying45 rfl rfl) ?_;refine h_parts [.slice (some ⟨B,0,none⟩) 1 1,.slice (some ⟨h,0+64*0,none⟩) 32 32,.slice (some ⟨h,0+64*0+32,none⟩) 32 32] [[0],p.1,p.2] hst rfl rfl rfl rfl rfl rfl rfl (by decide) (by decide) (λw hw hu=>?_) λA=>?_
 ·have h1:=rd_pair (i:=0) (obj_pair hw.fact.1) rfl hp
  have h2:Rd 1 eB (some ⟨B,0,none⟩) 1 [0] w:=hu 0 _ rfl (by kernel_rfl);exact⟨h2.sb,h1.1,h1.2,trivial⟩
 refine h_call (r:=.q (eY 32 (gX p))) hst [.slice (some ⟨A,0,none⟩) 3 3] rfl rfl rfl rfl own_tsum rfl rfl (λ_=>rfl) (eY_ok (n:=32) (digest256_len _)).1 (λw hw hu=>?_) ?_
 ·have hA:PT w (some ⟨A,0,none⟩) [[0],p.1,p.2]:=hu 9 _ rfl (by kernel_rfl)
  have hr2:=sum256_f (some ⟨A,0,none⟩) [[0],p.1,p.2] 3 w hw.fact.2 hA (by simp) (by simp)
  have e:gX p=b9 bL [[0],p.1,p.2].flatten:=by simp [gX]
  show Calls Tryz.prog _ _ w λe w'=>e = .returned (.agg (By (gX p)).toArray)/\_
  rw [e];exact hr2
 refine h_auto TY_ok hst rfl ?_;refine h_end hst ?_;refine l_autoS TY_ok rfl ?_;refine s_end (hK _ ?_);refine s_ret (k_give 2 rfl (E':=[]) trivial λg=>?_);refine k_objOut 0 rfl ?_;exact k_ret TY_ok g rfl (by decide) rfl rfl rfl (λ_ hw _=>⟨hw.1,hw.2.1⟩) (λ_ _=>trivial)
def sdPs(a b:TA):List Pt:=[.agg 2 #[a.val,b.val]]
theorem val_one(t:TA):t.val.oneCell'=true:=by cases t<;>rfl
theorem sdPs_ok(a b:TA):OkP (sdPs a b):=λp hp=>by
 rw [aF.1 hp];refine⟨rfl,λv hv=>?_⟩
 rcases aL.1 hv with rfl|hv
 ·exact val_one a
 ·rw [aF.1 hv]
  exact val_one b
theorem tinner_S(x y:TA)(hl:x.len+y.len<=1000000):Spec 113 [.agg #[x.val,y.val]] [] (λw=>TF x w/\TF y w/\Tsh w) { ret:=λg:Nat=>.v (.pointer (some ⟨g,0,none⟩)),own:=λ_=>[],p:=λg=>TF (.node g x y) }:=by
 refine spec_S [.p (sdPs x y)] 26 Tryz.func113 rfl (by rw [Tryz.ntmps113];rfl) (one_ok (sdPs_ok x y)) λb=>?_;refine s_auto TY_ok rfl ?_;refine s_new 6 [⟨3,45,(By dE).toArray⟩,⟨4,45,(By dE).toArray⟩] (by decide) rfl ⟨⟨rfl,rfl,rfl,rfl,rfl⟩,⟨rfl,rfl,rfl,rfl,rfl⟩,trivial⟩ (by kernel_rfl) (by kernel_rfl) (by kernel_rfl) λK hK G S w0 hst=>?_;refine n_op hst (.a 1 (0+1*0)) trivial rfl rfl rfl (runO_ixA 0 rfl Tryz.underlying137 rfl rfl rfl (by decide)) ?_;refine n_opV hst (.v x.val) trivial rfl rfl rfl (runO_ldA _ rfl rfl rfl rfl Tryz.underlying29 rfl) ?_;refine n_callS (F':=TF x) hst [x.val] rfl rfl rfl own_thash rfl rfl (λ_=>rfl) (thash_S x) (eY_ok x.root_len).1 (λ_ _ _ hv=>hv.fact.1) ?_;refine n_op hst (.a 1 (0+1*1)) trivial rfl rfl rfl (runO_ixA 1 rfl Tryz.underlying137 rfl rfl rfl (by decide)) ?_;refine n_opV hst (.v y.val) trivial rfl rfl rfl (runO_ldA _ rfl rfl rfl rfl Tryz.underlying29 rfl) ?_;refine n_callS (F':=TF y) hst [y.val] rfl rfl rfl own_thash rfl rfl (λ_=>rfl) (thash_S y) (eY_ok y.root_len).1 (λ_ _ _ hv=>hv.fact.2.1) ?_;have hx32:=x.root_len;have hy32:=y.root_len
 have sz:∀l:List UInt8,l.length=32->(By l).toArray.size=32:=λl h=>by rw [aU,By_len,h]
 refine n_new hst [⟨3,none,45,[.agg 32 (By x.root).toArray]⟩,⟨4,none,45,[.agg 32 (By y.root).toArray]⟩] [(By dE).toArray,(By dE).toArray] [.tmp 7,.tmp 10] rfl rfl rfl (λu hu=>?_) ⟨rfl,rfl,trivial⟩ rfl ⟨⟨rfl,rfl,rfl⟩,⟨rfl,rfl,rfl⟩,rfl⟩ ⟨⟨rfl,?_,?_,By_one _⟩,⟨rfl,?_,?_,By_one _⟩,trivial⟩ ?_
 ·rcases aL.1 hu with rfl|hu
  ·exact(eY_ok hx32).1
  ·rw [aF.1 hu]
   exact(eY_ok hy32).1
 ·exact(sz dE rfl).trans (sz _ hx32).symm
 ·show _=some (By x.root).toArray.size
  rw [sz _ hx32]
  rfl
 ·exact(sz dE rfl).trans (sz _ hy32).symm
 ·show _=some (By y.root).toArray.size
  rw [sz _ hy32]
  rfl
 refine s_end (hK _ ?_);refine s_keep [1,2,3,4] [1,3,4] rfl rfl ?_;refine s_regH 13 (by decide) (by kernel_rfl) (by kernel_rfl) λK hK G S w0 hst=>?_;refine h_lit TY_ok [(1:UInt8)] rfl rfl rfl rfl rfl rfl (λ_=>rfl) rfl (by decide) (by decide) λB=>?_;refine h_op hst (.s 3 0 32 32) trivial rfl rfl rfl rfl (runO_all rfl Tryz.underlying45 rfl rfl) ?_;refine h_op hst (.s 4 0 32 32) trivial rfl rfl rfl rfl (runO_all rfl Tryz.underlying45 rfl rfl) ?_;refine h_parts [.slice (some ⟨B,0,none⟩) 1 1,(SV.s 3 0 32 32).den G,(SV.s 4 0 32 32).den G] [[1],x.root,y.root] hst rfl rfl rfl rfl rfl rfl rfl (by decide) (by decide) (λw hw hu=>?_) λA=>?_
 ·have h2:Rd 1 eB (some ⟨B,0,none⟩) 1 [1] w:=hu 0 _ rfl (by kernel_rfl)
  exact⟨h2.sb,sb_var (j:=3) rfl hx32 (by decide) G S w hw,sb_var (j:=4) rfl hy32 (by decide) G S w hw,trivial⟩
 refine h_call (r:=.q (eY 32 (fM x.root y.root))) hst [.slice (some ⟨A,0,none⟩) 3 3] rfl rfl rfl rfl own_tsum rfl rfl (λ_=>rfl) (eY_ok (n:=32) (digest256_len _)).1 (λw hw hu=>?_) ?_
 ·have hA:PT w (some ⟨A,0,none⟩) [[1],x.root,y.root]:=hu 3 _ rfl (by kernel_rfl)
  have hr2:=sum256_f (some ⟨A,0,none⟩) [[1],x.root,y.root] 3 w hw.fact.2.2 hA (by simp) (by simp)
  have e:fM x.root y.root=b9 bL [[1],x.root,y.root].flatten:=by simp [fM]
  show Calls Tryz.prog _ _ w λe w'=>e = .returned (.agg (By (fM x.root y.root)).toArray)/\_
  rw [e];exact hr2
 refine h_op hst (.a 1 (0+1*0)) trivial rfl rfl rfl rfl (runO_ixA 0 rfl Tryz.underlying137 rfl rfl rfl (by decide)) ?_;refine h_opV hst (.v x.val) trivial rfl rfl rfl rfl (runO_ldA _ rfl rfl rfl rfl Tryz.underlying29 rfl) ?_;refine h_callS (F':=TF x) (r:=.v (.int .i64 (x.len:Int))) hst [x.val] rfl rfl rfl rfl own_tsize rfl rfl (λ_=>rfl) trivial (tsize_S x) (λ_ _ _ hv=>hv.fact.1) ?_;refine h_op hst (.a 1 (0+1*1)) trivial rfl rfl rfl rfl (runO_ixA 1 rfl Tryz.underlying137 rfl rfl rfl (by decide)) ?_;refine h_opV hst (.v y.val) trivial rfl rfl rfl rfl (runO_ldA _ rfl rfl rfl rfl Tryz.underlying29 rfl) ?_;refine h_callS (F':=TF y) (r:=.v (.int .i64 (y.len:Int))) hst [y.val] rfl rfl rfl rfl own_tsize rfl rfl (λ_=>rfl) trivial (tsize_S y) (λ_ _ _ hv=>hv.fact.2.1) ?_;refine h_auto TY_ok hst rfl ?_;refine h_num 22 ((x.len+y.len:Nat):Int) rfl (wrapI (by omega) (by omega) (by omega)) ?_;refine h_auto TY_ok hst rfl ?_;refine h_end hst ?_;refine l_autoS TY_ok rfl ?_;refine s_end (hK _ ?_);refine s_ret (k_give 2 rfl (E':=[]) trivial λg=>?_);refine k_objOut 0 rfl ?_;exact k_ret TY_ok g rfl (by decide) rfl rfl rfl (λ_ hw _=>⟨hw.1,hw.2.1,hw.2.2.1⟩) (λ_ _=>trivial)
theorem own_tput:Own 75:=λ_ _=>by go_simp
theorem putT_len:∀(l:List PairT) (p:PairT),l.length<=(dM l p).length/\(dM l p).length<=l.length+1
 | [],_=>⟨aI _,aE _⟩
 | q::l,p=>by
  have:=putT_len l p
  unfold dM
  split
  ·simp only [List.length_cons];omega
  ·split
   ·simp
   ·simp
theorem wrapB2{d e r:Nat}(h:d=255-r/\r<=255)(he:(256-r)%256=e):IntKind.u8.wrap ((d:Int)+1)=(e:Int):=by
 unfold IntKind.wrap
 simp [rL,pW]
 omega
theorem val_cells(t:TA):t.val.cells = #[t.val]:=by cases t<;>rfl
theorem leftT_one{d:Nat}{q:PairT}(h:b6 q.1 d=0):bR d [q]=[q]/\bB d [q]=[]:=by simp [bR,bB,h]
theorem rightT_one{d:Nat}{q:PairT}(h:b6 q.1 d≠0):bR d [q]=[]/\bB d [q]=[q]:=by simp [bR,bB,h]
theorem TOk.nil{r:Nat}{l:List PairT}(h:l=[]):TOk r l .nil:=by cases r<;>exact h
theorem TOk.leaf{r:Nat}{l:List PairT}{g h:Nat}{p:PairT}(e:l=[p]):TOk r l (.leaf g h p):=by cases r<;>exact e
theorem TOk.nil_inv{r:Nat}{l:List PairT}(h:TOk r l .nil):l=[]:=by cases r<;>exact h
theorem TOk.leaf_inv{r:Nat}{l:List PairT}{g h:Nat}{p:PairT}(e:TOk r l (.leaf g h p)):l=[p]:=by cases r<;>exact e
theorem tput_S:∀(r:Nat) (l:List PairT) (t:TA) (h:Nat) (p:PairT),r<=256->TOk r l t->cP l->gP l->c7 (256-r) (p::l)->l.length+1<=1000000 ->
  Spec 75 [t.val,.pointer (some ⟨h,0,none⟩),.int .u8 (((256-r)%256:Nat):Int)] [] (λw=>TF t w/\ObjF h 135 (prPs p) w/\Tsh w) { ret:=λx:{ t':TA // TOk r (dM l p) t' }=>.v x.1.val,own:=λ_=>[],p:=λx=>TF x.1 }:=by
 intro r
 induction r using Nat.strongRecOn with
 | ind r ih =>
 intro l t h p hr ht hs hk hsh hl
 obtain⟨D,hD⟩:∃D,(256-r)%256=D:=⟨_,rfl⟩;rw [hD];refine spec_S [.c (.v t.val),.c (.v (.pointer (some ⟨h,0,none⟩))),.c (.v (.int .u8 (D:Int)))] 71 Tryz.func75 rfl (by rw [Tryz.ntmps75];rfl) (more_ok trivial (two_ok trivial trivial)) λb=>?_;refine s_pure (OkT2 p) (λw hw _=>prPs_ok hw.2.1.2) λhp2=>?_;refine s_auto TY_ok rfl ?_;refine s_seq λK hK=>?_
 cases t with
 | nil =>
  obtain rfl:=ht.nil_inv;refine s_regD 23 (by decide) (by kernel_rfl) (by kernel_rfl) λK1 hK1 G S w0 hst=>?_;refine g_autoS TY_ok hst rfl ?_;refine g_skips rfl ?_;refine g_autoS TY_ok hst rfl ?_;refine g_endS hst ?_;refine s_end (hK1 _ ?_);refine s_yes rfl ?_;refine s_regA TY_ok rfl λK2 hK2=>?_;refine l_call0 [.pointer (some ⟨h,0,none⟩)] rfl rfl rfl own_tleaf rfl rfl (λ_ _=>rfl) (tleaf_S h p) (λ_ hw _=>⟨hw.2.1,hw.2.2⟩) λg=>?_;refine l_autoS TY_ok rfl ?_;refine s_end (hK2 _ ?_);exact s_ret (k_ret TY_ok ⟨.leaf g h p,TOk.leaf rfl⟩ rfl (by decide) rfl rfl rfl (λ_ hw _=>hw.1) (λ_ _=>trivial))
 | leaf g0 h0 q =>
  obtain rfl:=ht.leaf_inv;have hq:=hk q aP;refine s_regD 23 (by decide) (by kernel_rfl) (by kernel_rfl) λK1 hK1 G S w0 hst=>?_;refine g_autoS TY_ok hst rfl ?_;refine g_ldO TY_ok hst rfl rfl rfl rfl rfl rfl (obj_fact λ_ h _=>h.1.1) ?_;refine g_autoS TY_ok hst rfl ?_;refine g_ldO TY_ok hst rfl rfl rfl rfl rfl rfl (obj_fact λ_ h _=>h.1.1) ?_;refine g_autoS TY_ok hst rfl ?_;refine g_ldO TY_ok hst rfl rfl rfl rfl rfl rfl (obj_fact λ_ h _=>h.1.2) ?_;refine g_autoS TY_ok hst rfl ?_;refine g_ldO TY_ok hst rfl rfl rfl rfl rfl rfl (obj_fact λ_ h _=>h.2.1) ?_;refine g_autoS TY_ok hst rfl ?_;refine g_opS (.b (decide (q.1=p.1))) trivial rfl rfl rfl (run_eqY rfl rfl rfl Tryz.underlying45 (by kernel_rfl) hq hp2.1) ?_
  by_cases he:q.1=p.1
  ·refine g_is 29 true rfl (by simp [he]) ?_
   refine g_autoS TY_ok hst rfl ?_;refine g_endS hst ?_;refine s_end (hK1 _ ?_);refine s_yes rfl ?_;refine s_regA TY_ok rfl λK2 hK2=>?_;refine l_call0 [.pointer (some ⟨h,0,none⟩)] rfl rfl rfl own_tleaf rfl rfl (λ_ _=>rfl) (tleaf_S h p) (λ_ hw _=>⟨hw.2.1,hw.2.2⟩) λg=>?_;refine l_autoS TY_ok rfl ?_;refine s_end (hK2 _ ?_)
   have e2:dM [q] p=[p]:=by simp [dM,he,cH]
   exact s_ret (k_ret TY_ok ⟨.leaf g h p,TOk.leaf e2⟩ rfl (by decide) rfl rfl rfl (λ_ hw _=>hw.1) (λ_ _=>trivial))
  refine g_is 29 false rfl (by simp [he]) ?_;refine g_autoS TY_ok hst rfl ?_;refine g_endS hst ?_;refine s_end (hK1 _ ?_);refine s_no rfl ?_;refine s_skip (hK _ ?_)
  obtain⟨r,rfl⟩:∃q,r=q+1:=⟨r-1,by
   by_cases e:r=0
   ·subst e
    exact absurd (qG.all hq hp2.1 (hsh q (by simp) p (by simp))) he
   ·omega⟩
  obtain rfl:255-r=D:=by omega
  clear hst hK1;rw [show 256-(r+1)=255-r by omega] at hsh;obtain⟨d,hdr⟩:∃d,255-r=d:=⟨_,rfl⟩;obtain⟨e8,he8⟩:∃e,(256-r)%256=e:=⟨_,rfl⟩;have ih2:=λl t h p ht hs hk=>ih r (by omega) l t h p (by omega) ht hs hk;simp only [he8] at ih2;clear ih
  have hd:d<256:=by omega
  rw [hdr] at hsh ⊢
  have h2:2<=(dM [q] p).length:=by
   by_cases h3:cY q.1 p.1=true
   ·simp [dM,h3]
   ·simp [dM,h3,he]
  refine s_keep [0,1,2] [] rfl rfl ?_;refine s_regA TY_ok rfl λK1 hK1=>?_;refine l_ldO TY_ok rfl rfl rfl rfl rfl rfl (obj_fact λ_ h _=>h.1.1) ?_;refine l_autoS TY_ok rfl ?_;refine s_end (hK1 _ ?_);refine s_seq λK2 hK2=>?_;refine s_regA TY_ok rfl λK6 hK6=>?_;refine l_ldO TY_ok rfl rfl rfl rfl rfl rfl (obj_fact λ_ h _=>h.1.1) ?_;refine l_autoS TY_ok rfl ?_;refine s_end (hK6 _ ?_);refine s_yes rfl ?_
  have hrest:∀x y:TA,TOk r (bR d [q]) x->TOk r (bB d [q]) y->∀en,Weak en ⟨[(1,.v (.pointer (some ⟨h,0,none⟩))),(2,.v (.int .u8 (d:Int))),(7,.a 7 0)],[⟨7,none,137,sdPs x y⟩],[],λw=>TF x w/\TF y w/\ObjF h 135 (prPs p) w/\Tsh w,λ_=>True⟩->kS b K2 71 en:=by
   intro x y hx hy en hw
   refine k_weak hw (hK2 _ ?_);have hb2:=iY p.1 d;refine s_regA TY_ok rfl λK3 hK3=>?_;refine l_ldO TY_ok rfl rfl rfl rfl rfl rfl (obj_fact λ_ h _=>h.2.2.1) ?_;refine l_autoS TY_ok rfl ?_;refine l_call0 [.agg (By p.1).toArray,.int .u8 (d:Int)] rfl rfl rfl own_tbit rfl rfl (λ_ _=>rfl) (tbit_S hp2.1 d hd) (λ_ _ _=>trivial) λ_=>?_;refine l_autoS TY_ok rfl ?_
   have hlen:∀t':TA,TOk (r+1) (dM [q] p) t'->t'.len<=1000000:=λt' ht'=>by
    rw [ht'.len];exact bN (putT_len [q] p).2 hl
   by_cases hbit:b6 p.1 d=0
   ·refine l_num 8 0 rfl (by rw [hbit];rfl) ?_
    refine s_end (hK3 _ ?_);refine s_keep [1,2,7,8] [7] rfl rfl ?_;refine s_regA TY_ok rfl λK4 hK4=>?_;refine l_op (.a 7 (0+1*0)) trivial rfl rfl rfl (runO_ixA 0 rfl Tryz.underlying137 rfl rfl rfl (by decide)) ?_;refine l_opV (.v x.val) trivial rfl rfl rfl (runO_ldA _ rfl rfl rfl rfl Tryz.underlying29 rfl) ?_;refine l_autoS TY_ok rfl ?_;refine l_num 66 (e8:Int) rfl (wrapB2 ⟨hdr.symm,by omega⟩ he8) ?_
    have eL:bR d (dM [q] p)=dM (bR d [q]) p:=by rw [lY hs hk hp2.1,if_pos hbit]
    have eR:bB d (dM [q] p)=bB d [q]:=by rw [kU hs hk hp2.1,if_pos hbit]
    have hsh2:c7 (256-r) (p::bR d [q]):=by
     have:=hsh.left;rw [show bR d (p::[q])=p::bR d [q] by simp [bR,hbit],show d+1=256-r by omega] at this;exact this
    refine l_call0 [x.val,.pointer (some ⟨h,0,none⟩),.int .u8 (e8:Int)] rfl rfl rfl own_tput rfl rfl (λ_ _=>rfl) (ih2 (bR d [q]) x h p hx (hs.filter _) (hk.filter _) hsh2 (bN (jM (cD _ _) 1) hl)) (λ_ h _=>⟨h.2.1,h.2.2.2.1,h.2.2.2.2⟩) λx'=>?_;refine l_autoS TY_ok rfl ?_;refine l_op (.a 7 (0+1*0)) trivial rfl rfl rfl (runO_ixA 0 rfl Tryz.underlying137 rfl rfl rfl (by decide)) ?_;refine l_stA (sdPs x'.1 y) rfl rfl rfl rfl rfl rfl rfl (val_cells _) (val_one _) (show _<2 by decide) (sdPs_ok _ _) rfl ?_;refine s_end (hK4 _ ?_);have hT:∀g,TOk (r+1) (dM [q] p) (.node g x'.1 y):=λg=>⟨h2,by show TOk r (bR (255-r) (dM [q] p)) x'.1;rw [hdr,eL];exact x'.2,by show TOk r (bB (255-r) (dM [q] p)) y;rw [hdr,eR];exact hy⟩;refine s_keep [7] [7] rfl rfl ?_;refine s_regA TY_ok rfl λK5 hK5=>?_;refine l_call0 [.agg #[x'.1.val,y.val]] rfl rfl rfl own_tinner rfl rfl (λ_ _=>rfl) (tinner_S x'.1 y (hlen _ (hT 0))) (λ_ h _=>⟨h.1,h.2.2.2.1,h.2.2.2.2.2⟩) λg=>?_;refine l_autoS TY_ok rfl ?_;refine s_end (hK5 _ ?_);exact s_ret (k_ret TY_ok ⟨.node g x'.1 y,hT g⟩ rfl (by decide) rfl rfl rfl (λ_ hw _=>hw.1) (λ_ _=>trivial))
   ·refine l_num 8 1 rfl (by rw [show b6 p.1 d=1 by omega];rfl) ?_
    refine s_end (hK3 _ ?_);refine s_keep [1,2,7,8] [7] rfl rfl ?_;refine s_regA TY_ok rfl λK4 hK4=>?_;refine l_op (.a 7 (0+1*1)) trivial rfl rfl rfl (runO_ixA 1 rfl Tryz.underlying137 rfl rfl rfl (by decide)) ?_;refine l_opV (.v y.val) trivial rfl rfl rfl (runO_ldA _ rfl rfl rfl rfl Tryz.underlying29 rfl) ?_;refine l_autoS TY_ok rfl ?_;refine l_num 66 (e8:Int) rfl (wrapB2 ⟨hdr.symm,by omega⟩ he8) ?_
    have eL:bR d (dM [q] p)=bR d [q]:=by rw [lY hs hk hp2.1,if_neg hbit]
    have eR:bB d (dM [q] p)=dM (bB d [q]) p:=by rw [kU hs hk hp2.1,if_neg hbit]
    have hsh2:c7 (256-r) (p::bB d [q]):=by
     have:=hsh.right;rw [show bB d (p::[q])=p::bB d [q] by simp [bB,hbit],show d+1=256-r by omega] at this;exact this
    refine l_call0 [y.val,.pointer (some ⟨h,0,none⟩),.int .u8 (e8:Int)] rfl rfl rfl own_tput rfl rfl (λ_ _=>rfl) (ih2 (bB d [q]) y h p hy (hs.filter _) (hk.filter _) hsh2 (bN (jM (cD _ _) 1) hl)) (λ_ h _=>⟨h.2.2.1,h.2.2.2.1,h.2.2.2.2⟩) λy'=>?_;refine l_autoS TY_ok rfl ?_;refine l_op (.a 7 (0+1*1)) trivial rfl rfl rfl (runO_ixA 1 rfl Tryz.underlying137 rfl rfl rfl (by decide)) ?_;refine l_stA (sdPs x y'.1) rfl rfl rfl rfl rfl rfl rfl (val_cells _) (val_one _) (show _<2 by decide) (sdPs_ok _ _) rfl ?_;refine s_end (hK4 _ ?_);have hT:∀g,TOk (r+1) (dM [q] p) (.node g x y'.1):=λg=>⟨h2,by show TOk r (bR (255-r) (dM [q] p)) x;rw [hdr,eL];exact hx,by show TOk r (bB (255-r) (dM [q] p)) y'.1;rw [hdr,eR];exact y'.2⟩;refine s_keep [7] [7] rfl rfl ?_;refine s_regA TY_ok rfl λK5 hK5=>?_;refine l_call0 [.agg #[x.val,y'.1.val]] rfl rfl rfl own_tinner rfl rfl (λ_ _=>rfl) (tinner_S x y'.1 (hlen _ (hT 0))) (λ_ h _=>⟨h.2.2.1,h.1,h.2.2.2.2.2⟩) λg=>?_;refine l_autoS TY_ok rfl ?_;refine s_end (hK5 _ ?_);exact s_ret (k_ret TY_ok ⟨.node g x y'.1,hT g⟩ rfl (by decide) rfl rfl rfl (λ_ hw _=>hw.1) (λ_ _=>trivial))
  have hb3:=iY q.1 d;refine s_lit ?_;refine l_autoS TY_ok rfl ?_;refine l_ldO TY_ok rfl rfl rfl rfl rfl rfl (obj_fact λ_ h _=>h.1.1) ?_;refine l_autoS TY_ok rfl ?_;refine l_ldO TY_ok rfl rfl rfl rfl rfl rfl (obj_fact λ_ h _=>h.1.2) ?_;refine l_autoS TY_ok rfl ?_;refine l_call0 [.agg (By q.1).toArray,.int .u8 (d:Int)] rfl rfl rfl own_tbit rfl rfl (λ_ _=>rfl) (tbit_S hq d hd) (λ_ _ _=>trivial) λ_=>?_;refine l_autoS TY_ok rfl ?_
  by_cases hqb:b6 q.1 d=0
  ·obtain⟨e1,e2⟩:=leftT_one hqb
   refine l_num 51 0 rfl (by rw [hqb];rfl) ?_;refine l_op (.a 7 (0+1*0)) trivial rfl rfl rfl (runO_ixA 0 rfl Tryz.underlying137 rfl rfl rfl (by decide)) ?_;refine l_stA (sdPs (.leaf g0 h0 q) .nil) rfl rfl rfl rfl rfl rfl rfl (val_cells (.leaf g0 h0 q)) (val_one (.leaf g0 h0 q)) (show _<2 by decide) (sdPs_ok _ _) rfl ?_;exact s_end (hrest (.leaf g0 h0 q) .nil (TOk.leaf e1) (TOk.nil e2) _ ⟨⟨rfl,rfl,rfl,trivial⟩,⟨rfl,rfl,trivial⟩,.refl _,λ_ h _=>⟨h.2.1,trivial,h.2.2.1,h.2.2.2⟩,λ_ _=>trivial⟩)
  ·obtain⟨e1,e2⟩:=rightT_one hqb
   refine l_num 51 1 rfl (by rw [show b6 q.1 d=1 by omega];rfl) ?_;refine l_op (.a 7 (0+1*1)) trivial rfl rfl rfl (runO_ixA 1 rfl Tryz.underlying137 rfl rfl rfl (by decide)) ?_;refine l_stA (sdPs .nil (.leaf g0 h0 q)) rfl rfl rfl rfl rfl rfl rfl (val_cells (.leaf g0 h0 q)) (val_one (.leaf g0 h0 q)) (show _<2 by decide) (sdPs_ok _ _) rfl ?_;exact s_end (hrest .nil (.leaf g0 h0 q) (TOk.nil e1) (TOk.leaf e2) _ ⟨⟨rfl,rfl,rfl,trivial⟩,⟨rfl,rfl,trivial⟩,.refl _,λ_ h _=>⟨trivial,h.2.1,h.2.2.1,h.2.2.2⟩,λ_ _=>trivial⟩)
 | node g0 x0 y0 =>
  obtain⟨r,rfl⟩:∃q,r=q+1:=⟨r-1,by
   cases r with
   | zero=>exact ht.elim
   | succ r=>rfl⟩
  obtain rfl:255-r=D:=by omega
  rw [show 256-(r+1)=255-r by omega] at hsh;obtain⟨d,hdr⟩:∃d,255-r=d:=⟨_,rfl⟩;obtain⟨e8,he8⟩:∃e,(256-r)%256=e:=⟨_,rfl⟩;have ih2:=λl t h p ht hs hk=>ih r (by omega) l t h p (by omega) ht hs hk;simp only [he8] at ih2;clear ih
  have hd:d<256:=by omega
  rw [hdr] at hsh ⊢;obtain⟨hl2,hx0,hy0⟩:=ht;rw [hdr] at hx0 hy0;have h2:2<=(dM l p).length:=bN hl2 (putT_len l p).1;refine s_regD 23 (by decide) (by kernel_rfl) (by kernel_rfl) λK1 hK1 G S w0 hst=>?_;refine g_autoS TY_ok hst rfl ?_;refine g_ldO TY_ok hst rfl rfl rfl rfl rfl rfl (obj_fact λ_ h _=>h.1.1) ?_;refine g_autoS TY_ok hst rfl ?_;refine g_endS hst ?_;refine s_end (hK1 _ ?_);refine s_no rfl ?_;refine s_skip (hK _ ?_);clear hst hK1;refine s_keep [0,1,2] [] rfl rfl ?_;refine s_regA TY_ok rfl λK1 hK1=>?_;refine l_ldO TY_ok rfl rfl rfl rfl rfl rfl (obj_fact λ_ h _=>h.1.1) ?_;refine l_autoS TY_ok rfl ?_;refine s_end (hK1 _ ?_);refine s_seq λK2 hK2=>?_;refine s_regA TY_ok rfl λK6 hK6=>?_;refine l_ldO TY_ok rfl rfl rfl rfl rfl rfl (obj_fact λ_ h _=>h.1.1) ?_;refine l_autoS TY_ok rfl ?_;refine s_end (hK6 _ ?_);refine s_no rfl ?_
  have hrest:∀x y:TA,TOk r (bR d l) x->TOk r (bB d l) y->∀en,Weak en ⟨[(1,.v (.pointer (some ⟨h,0,none⟩))),(2,.v (.int .u8 (d:Int))),(7,.a 7 0)],[⟨7,none,137,sdPs x y⟩],[],λw=>TF x w/\TF y w/\ObjF h 135 (prPs p) w/\Tsh w,λ_=>True⟩->kS b K2 71 en:=by
   intro x y hx hy en hw
   refine k_weak hw (hK2 _ ?_);have hb2:=iY p.1 d;refine s_regA TY_ok rfl λK3 hK3=>?_;refine l_ldO TY_ok rfl rfl rfl rfl rfl rfl (obj_fact λ_ h _=>h.2.2.1) ?_;refine l_autoS TY_ok rfl ?_;refine l_call0 [.agg (By p.1).toArray,.int .u8 (d:Int)] rfl rfl rfl own_tbit rfl rfl (λ_ _=>rfl) (tbit_S hp2.1 d hd) (λ_ _ _=>trivial) λ_=>?_;refine l_autoS TY_ok rfl ?_
   have hlen:∀t':TA,TOk (r+1) (dM l p) t'->t'.len<=1000000:=λt' ht'=>by
    rw [ht'.len];exact bN (putT_len l p).2 hl
   by_cases hbit:b6 p.1 d=0
   ·refine l_num 8 0 rfl (by rw [hbit];rfl) ?_
    refine s_end (hK3 _ ?_);refine s_keep [1,2,7,8] [7] rfl rfl ?_;refine s_regA TY_ok rfl λK4 hK4=>?_;refine l_op (.a 7 (0+1*0)) trivial rfl rfl rfl (runO_ixA 0 rfl Tryz.underlying137 rfl rfl rfl (by decide)) ?_;refine l_opV (.v x.val) trivial rfl rfl rfl (runO_ldA _ rfl rfl rfl rfl Tryz.underlying29 rfl) ?_;refine l_autoS TY_ok rfl ?_;refine l_num 66 (e8:Int) rfl (wrapB2 ⟨hdr.symm,by omega⟩ he8) ?_
    have eL:bR d (dM l p)=dM (bR d l) p:=by rw [lY hs hk hp2.1,if_pos hbit]
    have eR:bB d (dM l p)=bB d l:=by rw [kU hs hk hp2.1,if_pos hbit]
    have hsh2:c7 (256-r) (p::bR d l):=by
     have:=hsh.left;rw [show bR d (p::l)=p::bR d l by simp [bR,hbit],show d+1=256-r by omega] at this;exact this
    refine l_call0 [x.val,.pointer (some ⟨h,0,none⟩),.int .u8 (e8:Int)] rfl rfl rfl own_tput rfl rfl (λ_ _=>rfl) (ih2 (bR d l) x h p hx (hs.filter _) (hk.filter _) hsh2 (bN (jM (cD _ _) 1) hl)) (λ_ h _=>⟨h.2.1,h.2.2.2.1,h.2.2.2.2⟩) λx'=>?_;refine l_autoS TY_ok rfl ?_;refine l_op (.a 7 (0+1*0)) trivial rfl rfl rfl (runO_ixA 0 rfl Tryz.underlying137 rfl rfl rfl (by decide)) ?_;refine l_stA (sdPs x'.1 y) rfl rfl rfl rfl rfl rfl rfl (val_cells _) (val_one _) (show _<2 by decide) (sdPs_ok _ _) rfl ?_;refine s_end (hK4 _ ?_);have hT:∀g,TOk (r+1) (dM l p) (.node g x'.1 y):=λg=>⟨h2,by show TOk r (bR (255-r) (dM l p)) x'.1;rw [hdr,eL];exact x'.2,by show TOk r (bB (255-r) (dM l p)) y;rw [hdr,eR];exact hy⟩;refine s_keep [7] [7] rfl rfl ?_;refine s_regA TY_ok rfl λK5 hK5=>?_;refine l_call0 [.agg #[x'.1.val,y.val]] rfl rfl rfl own_tinner rfl rfl (λ_ _=>rfl) (tinner_S x'.1 y (hlen _ (hT 0))) (λ_ h _=>⟨h.1,h.2.2.2.1,h.2.2.2.2.2⟩) λg=>?_;refine l_autoS TY_ok rfl ?_;refine s_end (hK5 _ ?_);exact s_ret (k_ret TY_ok ⟨.node g x'.1 y,hT g⟩ rfl (by decide) rfl rfl rfl (λ_ hw _=>hw.1) (λ_ _=>trivial))
   ·refine l_num 8 1 rfl (by rw [show b6 p.1 d=1 by omega];rfl) ?_
    refine s_end (hK3 _ ?_);refine s_keep [1,2,7,8] [7] rfl rfl ?_;refine s_regA TY_ok rfl λK4 hK4=>?_;refine l_op (.a 7 (0+1*1)) trivial rfl rfl rfl (runO_ixA 1 rfl Tryz.underlying137 rfl rfl rfl (by decide)) ?_;refine l_opV (.v y.val) trivial rfl rfl rfl (runO_ldA _ rfl rfl rfl rfl Tryz.underlying29 rfl) ?_;refine l_autoS TY_ok rfl ?_;refine l_num 66 (e8:Int) rfl (wrapB2 ⟨hdr.symm,by omega⟩ he8) ?_
    have eL:bR d (dM l p)=bR d l:=by rw [lY hs hk hp2.1,if_neg hbit]
    have eR:bB d (dM l p)=dM (bB d l) p:=by rw [kU hs hk hp2.1,if_neg hbit]
    have hsh2:c7 (256-r) (p::bB d l):=by
     have:=hsh.right;rw [show bB d (p::l)=p::bB d l by simp [bB,hbit],show d+1=256-r by omega] at this;exact this
    refine l_call0 [y.val,.pointer (some ⟨h,0,none⟩),.int .u8 (e8:Int)] rfl rfl rfl own_tput rfl rfl (λ_ _=>rfl) (ih2 (bB d l) y h p hy (hs.filter _) (hk.filter _) hsh2 (bN (jM (cD _ _) 1) hl)) (λ_ h _=>⟨h.2.2.1,h.2.2.2.1,h.2.2.2.2⟩) λy'=>?_;refine l_autoS TY_ok rfl ?_;refine l_op (.a 7 (0+1*1)) trivial rfl rfl rfl (runO_ixA 1 rfl Tryz.underlying137 rfl rfl rfl (by decide)) ?_;refine l_stA (sdPs x y'.1) rfl rfl rfl rfl rfl rfl rfl (val_cells _) (val_one _) (show _<2 by decide) (sdPs_ok _ _) rfl ?_;refine s_end (hK4 _ ?_);have hT:∀g,TOk (r+1) (dM l p) (.node g x y'.1):=λg=>⟨h2,by show TOk r (bR (255-r) (dM l p)) x;rw [hdr,eL];exact hx,by show TOk r (bB (255-r) (dM l p)) y'.1;rw [hdr,eR];exact y'.2⟩;refine s_keep [7] [7] rfl rfl ?_;refine s_regA TY_ok rfl λK5 hK5=>?_;refine l_call0 [.agg #[x.val,y'.1.val]] rfl rfl rfl own_tinner rfl rfl (λ_ _=>rfl) (tinner_S x y'.1 (hlen _ (hT 0))) (λ_ h _=>⟨h.2.2.1,h.1,h.2.2.2.2.2⟩) λg=>?_;refine l_autoS TY_ok rfl ?_;refine s_end (hK5 _ ?_);exact s_ret (k_ret TY_ok ⟨.node g x y'.1,hT g⟩ rfl (by decide) rfl rfl rfl (λ_ hw _=>hw.1) (λ_ _=>trivial))
  exact s_skip (hrest x0 y0 hx0 hy0 _ ⟨⟨rfl,rfl,rfl,trivial⟩,⟨rfl,rfl,trivial⟩,.refl _,λ_ h _=>⟨h.1.2.1,h.1.2.2,h.2.1,h.2.2⟩,λ_ _=>trivial⟩)
theorem own_tPut:Own 52:=λ_ _=>by go_simp
theorem own_tRoot:Own 33:=λ_ _=>by go_simp
theorem own_tLen:Own 25:=λ_ _=>by go_simp
theorem own_tLeaf:Own 76:=λ_ _=>by go_simp
theorem own_tSides:Own 77:=λ_ _=>by go_simp
def trPs(t:TA)(d:Nat):List Pt:=[.one (.v t.val),.one (.v (.int .u8 (d:Int)))]
def eTr(t:TA)(d:Nat):SQ:=.p (trPs t d)
theorem val_cells1(t:TA):t.val.cells = #[t.val]:=by cases t<;>rfl
theorem trPs_ok(t:TA)(d:Nat):OkP (trPs t d):=λp hp=>by
 rcases aL.1 hp with rfl|hp
 ·exact⟨trivial,val_one t,val_cells1 t⟩
 ·rw [aF.1 hp]
  exact⟨trivial,rfl,rfl⟩
theorem tRoot_S(t:TA)(d:Nat):Spec 33 [(eTr t d).den] [] (TF t) (one (.q (eY 32 t.root))):=by
 refine spec_S [eTr t d] 6 Tryz.func33 rfl (by rw [Tryz.ntmps33];rfl) (one_ok (trPs_ok t d)) λb=>?_;refine s_auto TY_ok rfl ?_;refine s_regA TY_ok rfl λK hK=>?_;refine l_call0 [t.val] rfl rfl rfl own_thash rfl rfl (λ_ _=>rfl) (thash_S t) (λ_ h _=>h) λ_=>?_;refine l_autoS TY_ok rfl ?_;refine s_end (hK _ ?_);exact s_ret (k_ret TY_ok () rfl (by decide) rfl rfl rfl (λ_ _ _=>trivial) (λ_ _=>trivial))
theorem tLen_S(t:TA)(d:Nat):Spec 25 [(eTr t d).den] [] (TF t) (one (.v (.int .i64 (t.len:Int)))):=by
 refine spec_S [eTr t d] 6 Tryz.func25 rfl (by rw [Tryz.ntmps25];rfl) (one_ok (trPs_ok t d)) λb=>?_;refine s_auto TY_ok rfl ?_;refine s_regA TY_ok rfl λK hK=>?_;refine l_call0 [t.val] rfl rfl rfl own_tsize rfl rfl (λ_ _=>rfl) (tsize_S t) (λ_ h _=>h) λ_=>?_;refine l_autoS TY_ok rfl ?_;refine s_end (hK _ ?_);exact s_ret (k_ret TY_ok () rfl (by decide) rfl rfl rfl (λ_ _ _=>trivial) (λ_ _=>trivial))
def retL:TA->RV
  | .leaf _ _ p=>.t [eY 32 p.1,eY 32 p.2,.c (.v (.bool true))]
  | _=>.t [eY 32 dE,eY 32 dE,.c (.v (.bool false))]
def retSd(d:Nat):TA->RV
  | .node _ a b=>.t [eTr a d,eTr b d,.c (.v (.bool true))]
  | _=>.t [eTr .nil 0,eTr .nil 0,.c (.v (.bool false))]
theorem tLeaf_S(t:TA)(d:Nat):Spec 76 [(eTr t d).den] [] (TF t) { ret:=λ_:Unit=>retL t,own:=λ_=>[] }:=by
 refine spec_S [eTr t d] 34 Tryz.func76 rfl (by rw [Tryz.ntmps76];rfl) (one_ok (trPs_ok t d)) λb=>?_;refine s_auto TY_ok rfl ?_;refine s_seq λK hK=>?_
 cases t with
 | nil =>
  refine s_auto TY_ok rfl ?_;refine s_yes rfl ?_;refine s_auto TY_ok rfl ?_;exact s_ret (k_ret TY_ok () rfl (by decide) rfl rfl rfl (λ_ _ _=>trivial) (λ_ _=>trivial))
 | leaf g h p =>
  refine s_regA TY_ok rfl λK2 hK2=>?_;refine l_ldO TY_ok rfl rfl rfl rfl rfl rfl (obj_fact λ_ h _=>h.1) ?_;refine l_autoS TY_ok rfl ?_;refine s_end (hK2 _ ?_);refine s_no rfl ?_;refine s_skip (hK _ ?_);refine s_pure (OkP (lfPs h p)/\OkP (prPs p)) (λw hw _=>⟨hw.1.2,hw.2.2⟩) λ⟨ho1,ho2⟩=>?_;refine s_locs λG=>?_
  have hsub:∀x∈[(⟨1,some (G 1),31,trPs (.leaf g h p) d⟩:LV)],x∈withG G [⟨3,none,45,[.agg 32 (By dE).toArray]⟩,⟨2,none,45,[.agg 32 (By dE).toArray]⟩,⟨1,none,31,trPs (.leaf g h p) d⟩]/\x.g.isSome=true:=λx hx=>by
   rw [aF.1 hx];exact⟨aK _ (aK _ aP),rfl⟩
  refine s_seq λK3 hK3=>?_;refine s_anyP [0,1,2,3,4,5,6,7,8,9,10,11,12,13,14,15] 17 2 (λw=>InvL [⟨1,some (G 1),31,trPs (.leaf g h p) d⟩] w/\TF (.leaf g h p) w) (by kernel_rfl) rfl (inv_two hsub λ_ h _=>h) ?_;refine p_frontS TY_ok 0 (by kernel_rfl) rfl rfl rfl rfl rfl rfl (λx hx=>(hsub x hx).1) (λ_ h=>h.1) ?_;refine p_frontS TY_ok 1 (by kernel_rfl) rfl rfl rfl rfl rfl rfl (λx hx=>(hsub x hx).1) (λ_ h=>h.1) ?_;refine p_frontS TY_ok 2 (by kernel_rfl) rfl rfl rfl rfl rfl rfl (λx hx=>(hsub x hx).1) (λ_ h=>h.1) ?_;refine p_frontS TY_ok 3 (by kernel_rfl) rfl rfl rfl rfl rfl rfl (λx hx=>(hsub x hx).1) (λ_ h=>h.1) ?_;refine p_ldO TY_ok 4 (by kernel_rfl) rfl rfl rfl rfl rfl rfl rfl ho1 (λ_ h=>h.2.1) ?_;refine p_frontS TY_ok 5 (by kernel_rfl) rfl rfl rfl rfl rfl rfl (λx hx=>(hsub x hx).1) (λ_ h=>h.1) ?_;refine p_frontS TY_ok 6 (by kernel_rfl) rfl rfl rfl rfl rfl rfl (λx hx=>(hsub x hx).1) (λ_ h=>h.1) ?_;refine p_ldO TY_ok 7 (by kernel_rfl) rfl rfl rfl rfl rfl rfl rfl ho2 (λ_ h=>h.2.2) ?_;refine p_frontS TY_ok 8 (by kernel_rfl) rfl rfl rfl rfl rfl rfl (λx hx=>(hsub x hx).1) (λ_ h=>h.1) ?_;refine p_frontS TY_ok 9 (by kernel_rfl) rfl rfl rfl rfl rfl rfl (λx hx=>(hsub x hx).1) (λ_ h=>h.1) ?_;refine p_frontS TY_ok 10 (by kernel_rfl) rfl rfl rfl rfl rfl rfl (λx hx=>(hsub x hx).1) (λ_ h=>h.1) ?_;refine p_frontS TY_ok 11 (by kernel_rfl) rfl rfl rfl rfl rfl rfl (λx hx=>(hsub x hx).1) (λ_ h=>h.1) ?_;refine p_ldO TY_ok 12 (by kernel_rfl) rfl rfl rfl rfl rfl rfl rfl ho1 (λ_ h=>h.2.1) ?_;refine p_frontS TY_ok 13 (by kernel_rfl) rfl rfl rfl rfl rfl rfl (λx hx=>(hsub x hx).1) (λ_ h=>h.1) ?_;refine p_frontS TY_ok 14 (by kernel_rfl) rfl rfl rfl rfl rfl rfl (λx hx=>(hsub x hx).1) (λ_ h=>h.1) ?_;refine p_ldO TY_ok 15 (by kernel_rfl) rfl rfl rfl rfl rfl rfl rfl ho2 (λ_ h=>h.2.2) ?_;refine p_step 16 (by kernel_rfl) rfl λK4 hK4=>?_;refine l_autoS TY_ok rfl ?_
  refine s_end (hK4 _ (inv_two (λx hx=>by
   rw [aF.1 hx]
   exact⟨aK _ (aK _ aP),rfl⟩) λ_ h _=>h) ?_)
  refine p_tail [17,18] (by kernel_rfl) rfl ?_;refine l_autoS TY_ok rfl ?_;refine s_end (hK3 _ ?_);exact s_ret (k_ret TY_ok () rfl (by decide) rfl rfl rfl (λ_ _ _=>trivial) (λ_ _=>trivial))
 | node g x y =>
  refine s_regA TY_ok rfl λK2 hK2=>?_;refine l_ldO TY_ok rfl rfl rfl rfl rfl rfl (obj_fact λ_ h _=>h.1) ?_;refine l_autoS TY_ok rfl ?_;refine s_end (hK2 _ ?_);refine s_yes rfl ?_;refine s_auto TY_ok rfl ?_;exact s_ret (k_ret TY_ok () rfl (by decide) rfl rfl rfl (λ_ _ _=>trivial) (λ_ _=>trivial))
theorem tSides_S(t:TA)(d d':Nat)(hd:IntKind.u8.wrap ((d:Int)+1)=(d':Int)):Spec 77 [(eTr t d).den] [] (TF t) { ret:=λ_:Unit=>retSd d' t,own:=λ_=>[] }:=by
 refine spec_S [eTr t d] 36 Tryz.func77 rfl (by rw [Tryz.ntmps77];rfl) (one_ok (trPs_ok t d)) λb=>?_;refine s_auto TY_ok rfl ?_;refine s_seq λK hK=>?_
 cases t with
 | nil =>
  refine s_auto TY_ok rfl ?_;refine s_yes rfl ?_;refine s_auto TY_ok rfl ?_;exact s_ret (k_ret TY_ok () rfl (by decide) rfl rfl rfl (λ_ _ _=>trivial) (λ_ _=>trivial))
 | leaf g h p =>
  refine s_regA TY_ok rfl λK2 hK2=>?_;refine l_ldO TY_ok rfl rfl rfl rfl rfl rfl (obj_fact λ_ h _=>h.1) ?_;refine l_autoS TY_ok rfl ?_;refine s_end (hK2 _ ?_);refine s_yes rfl ?_;refine s_auto TY_ok rfl ?_;exact s_ret (k_ret TY_ok () rfl (by decide) rfl rfl rfl (λ_ _ _=>trivial) (λ_ _=>trivial))
 | node g x y =>
  refine s_regA TY_ok rfl λK2 hK2=>?_;refine l_ldO TY_ok rfl rfl rfl rfl rfl rfl (obj_fact λ_ h _=>h.1) ?_;refine l_autoS TY_ok rfl ?_;refine s_end (hK2 _ ?_);refine s_no rfl ?_;refine s_skip (hK _ ?_);refine s_regA TY_ok rfl λK4 hK4=>?_;refine l_ldO TY_ok rfl rfl rfl rfl rfl rfl (obj_fact λ_ h _=>h.1) ?_;refine l_autoS TY_ok rfl ?_;refine s_end (hK4 _ ?_);refine s_locs λG=>?_
  have hsub:∀u∈([⟨5,some (G 5),137,sdPs x y⟩,⟨1,some (G 1),31,trPs (.node g x y) d⟩]:List LV),u∈withG G [⟨5,none,137,sdPs x y⟩,⟨3,none,31,trPs .nil 0⟩,⟨2,none,31,trPs .nil 0⟩,⟨1,none,31,trPs (.node g x y) d⟩]/\u.g.isSome=true:=λu hu=>by
   rcases aL.1 hu with rfl|hu
   ·exact⟨aP,rfl⟩
   ·rw [aF.1 hu]
    exact⟨aK _ (aK _ (aK _ aP)),rfl⟩
  refine s_seq λK3 hK3=>?_;refine s_anyP [0,1,2,3,4,5,6,7,8,9,10,11] 13 2 (InvL [⟨5,some (G 5),137,sdPs x y⟩,⟨1,some (G 1),31,trPs (.node g x y) d⟩]) (by kernel_rfl) rfl (inv_of hsub) ?_;refine p_frontO (.a 5 (0+1*0)) trivial 0 (by kernel_rfl) rfl rfl rfl rfl rfl (runO_ixA 0 rfl Tryz.underlying137 rfl rfl rfl (by decide)) ?_;refine p_frontA (.v x.val) trivial 1 (by kernel_rfl) rfl rfl rfl rfl rfl (λx hx=>(hsub x hx).1) (λ_ h=>h) (runO_ldL _ rfl rfl rfl rfl Tryz.underlying29 rfl) ?_;refine p_frontS TY_ok 2 (by kernel_rfl) rfl rfl rfl rfl rfl rfl (λx hx=>(hsub x hx).1) (λ_ h=>h) ?_;refine p_frontS TY_ok 3 (by kernel_rfl) rfl rfl rfl rfl rfl rfl (λx hx=>(hsub x hx).1) (λ_ h=>h) ?_;refine p_frontS TY_ok 4 (by kernel_rfl) rfl rfl rfl rfl rfl rfl (λx hx=>(hsub x hx).1) (λ_ h=>h) ?_;refine p_frontS TY_ok 5 (by kernel_rfl) rfl rfl rfl rfl rfl rfl (λx hx=>(hsub x hx).1) (λ_ h=>h) ?_;refine p_frontO (.a 5 (0+1*1)) trivial 6 (by kernel_rfl) rfl rfl rfl rfl rfl (runO_ixA 1 rfl Tryz.underlying137 rfl rfl rfl (by decide)) ?_;refine p_frontA (.v y.val) trivial 7 (by kernel_rfl) rfl rfl rfl rfl rfl (λx hx=>(hsub x hx).1) (λ_ h=>h) (runO_ldL _ rfl rfl rfl rfl Tryz.underlying29 rfl) ?_;refine p_frontS TY_ok 8 (by kernel_rfl) rfl rfl rfl rfl rfl rfl (λx hx=>(hsub x hx).1) (λ_ h=>h) ?_;refine p_frontS TY_ok 9 (by kernel_rfl) rfl rfl rfl rfl rfl rfl (λx hx=>(hsub x hx).1) (λ_ h=>h) ?_;refine p_frontS TY_ok 10 (by kernel_rfl) rfl rfl rfl rfl rfl rfl (λx hx=>(hsub x hx).1) (λ_ h=>h) ?_;refine p_frontS TY_ok 11 (by kernel_rfl) rfl rfl rfl rfl rfl rfl (λx hx=>(hsub x hx).1) (λ_ h=>h) ?_;refine p_step 12 (by kernel_rfl) rfl λK5 hK5=>?_;refine l_autoS TY_ok rfl ?_
  refine s_end (hK5 _ (inv_of λu hu=>by
   rcases aL.1 hu with rfl|hu
   ·exact⟨aP,rfl⟩
   ·rw [aF.1 hu]
    exact⟨aK _ (aK _ (aK _ aP)),rfl⟩) ?_)
  refine p_tail [13,14] (by kernel_rfl) rfl ?_;refine l_autoS TY_ok rfl ?_;refine s_end (hK3 _ ?_);exact s_ret (k_ret TY_ok () rfl (by decide) rfl (congrArg (λz:Int=>RV.t [.p [.one (.v x.val),.one (.v (.int .u8 z))],.p [.one (.v y.val),.one (.v (.int .u8 z))],.c (.v (.bool true))]) hd.symm) rfl (λ_ _ _=>trivial) (λ_ _=>trivial))
theorem tPut_S(r:Nat)(l:List PairT)(t:TA)(p:PairT)(hp:OkT2 p)(hr:r<=256)(ht:TOk r l t)(hs:cP l)(hk:gP l)(hsh:c7 (256-r) (p::l))(hl:l.length+1<=1000000) :
  Spec 52 [(eTr t ((256-r)%256)).den,(eY 32 p.1).den,(eY 32 p.2).den] [] (λw=>TF t w/\Tsh w) { ret:=λx:{ t':TA // TOk r (dM l p) t' }=>.q (eTr x.1 ((256-r)%256)),own:=λ_=>[],p:=λx=>TF x.1 }:=by
 have hput:=λh=>tput_S r l t h p hr ht hs hk hsh hl;obtain⟨D,hD⟩:∃D,(256-r)%256=D:=⟨_,rfl⟩;rw [hD] at hput ⊢;refine spec_S [eTr t D,eY 32 p.1,eY 32 p.2] 19 Tryz.func52 rfl (by rw [Tryz.ntmps52];rfl) (more_ok (trPs_ok t _) (two_ok (eY_ok hp.1).1 (eY_ok hp.2).1)) λb=>?_;refine s_auto TY_ok rfl ?_;refine s_locs λG=>?_
 have hsub:∀u∈([⟨5,some (G 5),45,[.agg 32 (By p.2).toArray]⟩,⟨4,some (G 4),45,[.agg 32 (By p.1).toArray]⟩,⟨3,some (G 3),31,trPs t D⟩]:List LV),u∈withG G [⟨6,none,31,trPs .nil 0⟩,⟨5,none,45,[.agg 32 (By p.2).toArray]⟩,⟨4,none,45,[.agg 32 (By p.1).toArray]⟩,⟨3,none,31,trPs t D⟩]/\u.g.isSome=true:=λu hu=>by
  rcases aL.1 hu with rfl|hu
  ·exact⟨aK _ aP,rfl⟩
  rcases aL.1 hu with rfl|hu
  ·exact⟨aK _ (aK _ aP),rfl⟩
  rw [aF.1 hu];exact⟨aK _ (aK _ (aK _ aP)),rfl⟩
 refine s_seq λK3 hK3=>?_;refine s_anyP [0,1,2,3,4,6,7,9,10] 11 2 (InvL [⟨5,some (G 5),45,[.agg 32 (By p.2).toArray]⟩,⟨4,some (G 4),45,[.agg 32 (By p.1).toArray]⟩,⟨3,some (G 3),31,trPs t D⟩]) (by kernel_rfl) rfl (inv_of hsub) ?_;refine p_frontS TY_ok 0 (by kernel_rfl) rfl rfl rfl rfl rfl rfl (λx hx=>(hsub x hx).1) (λ_ h=>h) ?_;refine p_frontS TY_ok 1 (by kernel_rfl) rfl rfl rfl rfl rfl rfl (λx hx=>(hsub x hx).1) (λ_ h=>h) ?_;refine p_frontS TY_ok 2 (by kernel_rfl) rfl rfl rfl rfl rfl rfl (λx hx=>(hsub x hx).1) (λ_ h=>h) ?_;refine p_frontS TY_ok 3 (by kernel_rfl) rfl rfl rfl rfl rfl rfl (λx hx=>(hsub x hx).1) (λ_ h=>h) ?_;refine p_frontS TY_ok 4 (by kernel_rfl) rfl rfl rfl rfl rfl rfl (λx hx=>(hsub x hx).1) (λ_ h=>h) ?_;refine p_frontS TY_ok 6 (by kernel_rfl) rfl rfl rfl rfl rfl rfl (λx hx=>(hsub x hx).1) (λ_ h=>h) ?_;refine p_frontS TY_ok 7 (by kernel_rfl) rfl rfl rfl rfl rfl rfl (λx hx=>(hsub x hx).1) (λ_ h=>h) ?_;refine p_frontS TY_ok 9 (by kernel_rfl) rfl rfl rfl rfl rfl rfl (λx hx=>(hsub x hx).1) (λ_ h=>h) ?_;refine p_frontS TY_ok 10 (by kernel_rfl) rfl rfl rfl rfl rfl rfl (λx hx=>(hsub x hx).1) (λ_ h=>h) ?_;refine p_step 5 (by kernel_rfl) rfl λK5 hK5=>?_;refine l_autoS TY_ok rfl ?_;refine l_give 12 (E':=[(8,.v t.val),(14,.v (.int .u8 (D:Int))),(17,.v (.int .u8 (D:Int))),(6,.a 6 0)]) rfl ⟨rfl,rfl,rfl,rfl,trivial⟩ λh=>?_;refine l_objOut 0 rfl ?_;refine s_end (hK5 _ (inv_of hsub) ?_);refine p_step 8 (by kernel_rfl) rfl λK6 hK6=>?_;refine l_call0 [t.val,.pointer (some ⟨h,0,none⟩),.int .u8 (D:Int)] rfl rfl rfl own_tput rfl rfl (λ_ _=>rfl) (hput h) (λ_ h _=>⟨h.2.1,h.1,h.2.2⟩) λx=>?_;refine s_end (hK6 _ (inv_of hsub) ?_);refine p_tail [11,12] (by kernel_rfl) rfl ?_;refine l_autoS TY_ok rfl ?_;refine s_end (hK3 _ ?_);exact s_ret (k_ret TY_ok x rfl (by decide) rfl rfl rfl (λ_ h _=>h.1) (λ_ _=>trivial))
end Go.Proofs.YtlhlkofpjhpaoaaGreatDoor
namespace Go.Proofs.YtlhlkofpjhpaoaaGreatDoor
open Go.RowKit Go.IntWalk
end Go.Proofs.YtlhlkofpjhpaoaaGreatDoor
namespace Go.Proofs.YtlhlkofpjhpaoaaGreatDoor
open Go.RowKit Go.IntWalk Nums
theorem laidOut9:laidOutB Tryz.prog=true:=by kernel_rfl
theorem hash_keyed:Maps.Keyed Tryz.prog 45:=Maps.Keyed.of_law (deep_law_laid (m:=4) laidOut9 (by decide) (of_decide_eq_true (by kernel_rfl)) (by kernel_rfl) (by kernel_rfl))
def KVT(s:List UInt8):Value:=.agg (By s).toArray
theorem KVT_inj:∀{l m:List UInt8},KVT l=KVT m->l=m:=by
 intro l m h
 have h8:By l=By m:=by
  injection h with h
  exact List.toArray_inj h
 clear h
 induction l generalizing m with
 | nil=>cases m with
  | nil=>rfl
  | cons=>cases h8
 | cons x l ih=>cases m with
  | nil=>cases h8
  | cons y m =>
   injection h8 with h1 h2
   injection h1 with _ h1
   rw [ih h2,rY.1 (by omega:x.toNat=y.toNat)]
theorem key_u8T(d:Nat)(n:Nat)(h:n<256):Tryz.prog.keyLits (d+1) 5 [.int .u8 (n:Int)]=some [.int .u8 (n:Int)]:=by
 have hw:(Lit.int .u8 (n:Int)).wf=true:=by
  simp [Lit.wf,IntKind.min,IntKind.max,pW,rL]
  omega
 simp [Program.keyLits,Tryz.underlying5,hw]
theorem key_hashL(d:Nat){s:List UInt8}(hs:s.length=32):∃l,Tryz.prog.keyLits (d+2) 45 (By s)=some l:=by
 have hc:Tryz.prog.cellsOf 45 = 32:=by kernel_rfl
 have h8:Tryz.prog.cellsOf 5 = 1:=by kernel_rfl
 have hm:∀i,i<32->∃l,Tryz.prog.keyLits (d+1) 5 (((By s).drop (i*1)).take 1)=some l:=λi hi=>by
  have e:((By s).drop (i*1)).take 1=[.int .u8 ((s[i]'(by omega)).toNat:Int)]:=by
   rw [Nat.mul_one,List.drop_eq_getElem_cons (by rw [By_len];omega)]
   simp [By]
  rw [e];exact⟨_,key_u8T d _ (UInt8.toNat_lt _)⟩
 have key:∀(is:List Nat),(∀i∈is,i<32)->∃L,is.mapM (λi=>Tryz.prog.keyLits (d+1) 5 (((By s).drop (i*1)).take 1))=some L:=by
  intro is
  induction is with
  | nil=>intro _;exact⟨[],rfl⟩
  | cons i is ih =>
   intro h
   obtain⟨l,hl⟩:=hm i (h i (by simp));obtain⟨L,hL⟩:=ih λj hj=>h j (by simp [hj]);exact⟨l::L,by simp only [List.mapM_cons,hl,hL];rfl⟩
 obtain⟨L,hL⟩:=key (List.range 32) (λi hi=>List.mem_range.1 hi);refine⟨L.flatten,?_⟩
 unfold Program.keyLits
 simp only [Tryz.underlying45];rw [if_pos (by rw [By_len,hs,hc]),h8,hL]
 rfl
theorem hash_key{s:List UInt8}(hs:s.length=32):∃l,keyOf Tryz.prog 45 (KVT s)=some l:=by
 have hk:Tryz.prog.keyType 45 = true:=by kernel_rfl
 have hc:Tryz.prog.cellsOf 45 = 32:=by kernel_rfl
 have hf:(KVT s).formed Tryz.prog 45 = true:=by
  unfold KVT Value.formed
  simp only [Tryz.underlying45,hc]
  simp [By_len,hs]
 obtain⟨n,hn⟩:∃n,Tryz.prog.types.size+1=n+2:=⟨Tryz.prog.types.size-1,by
  have:decide (2<=Tryz.prog.types.size)=true:=by kernel_rfl
  have:=of_decide_eq_true this
  omega⟩
 obtain⟨ls,hls⟩:=key_hashL n hs;have hcs:(KVT s).cells.toList=By s:=rfl;refine⟨.string (keyBytes ls),?_⟩
 unfold keyOf
 simp only [Tryz.underlying45,hk,hf,Bool.and_self,if_true,hn,hcs,hls]
 rfl
abbrev TH:MapT (List UInt8) HSeg:={ t:=28,kt:=45,vt:=43,kv:=eY 32,vv:=eHs }
abbrev ok32(k:List UInt8):Prop:=k.length=32
theorem TH_ok:TH.Ok ok32 where
 und:=Tryz.underlying28
 keyed:=hash_keyed
 key _ h:=hash_key h
 inj _ _ h:=KVT_inj h
theorem nilH_zero:∀w,(zeroValue TH.vt).run Tryz.prog w = .ok (TH.V nilH) w:=λw=>by
 have hi:(Tryz.prog.info? 43).bind (·.zero)=some (.slice none 0 0):=by kernel_rfl
 unfold zeroValue typeInfo
 cases h:Tryz.prog.info? 43 with
 | none=>rw [h] at hi;cases hi
 | some i =>
  rw [h] at hi;have hi:i.zero=some (.slice none 0 0):=hi
  simp [h,hi]
  rfl
structure DirV where
  ep:Int
  mv:Option Nat
  es:Array MapEntry
  clock:Nat
  n:Nat
  h:List UInt8->Option HSeg
  t:TA
  l:List EntD
def DirV.parts(d:DirV):List Pt:=[.one (.v (.int .i64 d.ep)),.one (.v (.map d.mv)),.agg 2 #[d.t.val,.int .u8 0]]
abbrev eDv(d:DirV):SQ:=.p d.parts
theorem dval_one(t:TA):t.val.oneCell'=true:=by cases t<;>rfl
theorem DirV.parts_ok(d:DirV):OkP d.parts:=λp hp=>by
 simp only [DirV.parts,aL,mN,or_false] at hp
 rcases hp with rfl|rfl|rfl
 ·exact⟨trivial,rfl,rfl⟩
 ·exact⟨trivial,rfl,rfl⟩
 ·refine⟨rfl,λv hv=>?_⟩
  simp only [aL,mN,or_false] at hv
  rcases hv with rfl|rfl
  ·exact dval_one _
  ·rfl
structure DirV.Ok(d:DirV):Prop where
  dir:DirOk d.l
  small:SmallD d.l
  tells:Tells d.h d.l
  tree:TOk 256 (pairsD d.l) d.t
  map:match d.mv with|none=>∀k,d.h k=none|some _=>MapH TH ok32 d.es d.clock d.n d.h
def DirV.F(d:DirV)(w:World):Prop:=(∀m,d.mv=some m->MapE m d.es d.clock w)/\(∀k s,d.h k=some s->s.rd w)/\TF d.t w
instance dirPst{d:DirV}:Pst d.F:=⟨λ_ _ ⟨h1,h2,h3⟩ hb=>⟨λm hm=>Pst.later _ _ (h1 m hm) hb,λk s hs=>Pst.later (p:=s.rd) _ _ (h2 k s hs) hb,h3.later hb⟩⟩
def zDirV:DirV:=⟨0,none,#[],0,0,λ_=>none,.nil,[]⟩
theorem zDirV_ok:zDirV.Ok:=⟨DirOk.nil,λ_ h=>(by cases h),Tells.nil,rfl,λ_=>rfl⟩
theorem zDirV_F(w:World):zDirV.F w:=⟨λ_ h=>(by cases h),λ_ _ h=>(by cases h),trivial⟩
def DirV.cnt(d:DirV):Nat:=match d.mv with
  | none=>0
  | some _=>d.n
def DirV.seg(d:DirV)(k:List UInt8):HSeg:=(d.h k).getD nilH
theorem DirV.Ok.seg_l{d:DirV}(h:d.Ok)(k:List UInt8):(d.seg k).l=bS d.l k:=by
 unfold DirV.seg
 cases hk:d.h k with
 | none=>exact((h.tells k).2 hk).symm
 | some s=>exact((h.tells k).1 s hk).2.symm
theorem DirV.F.seg_rd{d:DirV}{w:World}(h:d.F w)(k:List UInt8):(d.seg k).rd w:=by
 unfold DirV.seg
 cases hk:d.h k with
 | none=>exact Rd.nil _ _ _
 | some s=>exact h.2.1 k s hk
section
variable{N:Nat}{E:SE}{L:List LV}{R:List Res}{F M:World->Prop}{o:Oper}{x y:Operand}
theorem runO_hist{d:DirV}(hd:d.Ok)(hF:∀G S w,View G S L R F M w->d.F w)(k:List UInt8)(hk:k.length=32)(ho:o.op = .lookup TH.t x y false)(hx:evS E x=some (.v (.map d.mv)))(hy:evS E y=some (.q (eY 32 k))) :
  ∀(G:Nat->Nat) (S:Nat->Prop) (a:Act) (w:World),Fr N (denE G E) a->View G S L R F M w->(execOp a.eval o).run Tryz.prog w = .ok (.value ((SV.q (eHs (d.seg k))).den G)) w:=by
 have hm:=hd.map
 unfold DirV.seg
 cases hmv:d.mv with
 | none =>
  rw [hmv] at hm hx;rw [hm k];exact runO_noneN TH_ok k nilH hk nilH_zero ho hx hy
 | some m =>
  rw [hmv] at hm hx;have hA:∀G S w,View G S L R F M w->MapA TH ok32 m d.n d.h w:=λG S w h=>⟨d.es,d.clock,(hF G S w h).1 m hmv,hm⟩
  cases hs:d.h k with
  | none=>exact runO_noneA TH_ok hA k nilH hk hs nilH_zero ho hx hy
  | some s=>exact runO_lookA TH_ok hA k s hk hs ho hx hy
theorem runO_grown{m n:Nat}{g:List UInt8->Option HSeg}(hA:∀G S w,View G S L R F M w->MapA TH ok32 m n g w)(k:List UInt8)(hk:k.length=32)(ho:o.op = .lookup TH.t x y true)(hx:evS E x=some (.v (.map (some m))))(hy:evS E y=some (.q (eY 32 k))) :
  ∀(G:Nat->Nat) (S:Nat->Prop) (a:Act) (w:World),Fr N (denE G E) a->View G S L R F M w->(execOp a.eval o).run Tryz.prog w = .ok (.value ((SV.t [eHs ((g k).getD nilH),.c (.b (g k).isSome)]).den G)) w:=by
 cases hs:g k with
 | none=>exact runO_noneA2 TH_ok hA k nilH hk hs nilH_zero ho hx hy
 | some s=>exact runO_lookA2 TH_ok hA k s hk hs ho hx hy
theorem runO_lenD{d:DirV}(hd:d.Ok)(hF:∀G S w,View G S L R F M w->d.F w)(ho:o.op = .call { callee:=.builtin .len,args:=#[x],argTypes:=#[TH.t] })(hx:evS E x=some (.v (.map d.mv))) :
  ∀(G:Nat->Nat) (S:Nat->Prop) (a:Act) (w:World),Fr N (denE G E) a->View G S L R F M w->(execOp a.eval o).run Tryz.prog w = .ok (.value ((SV.v (.int .i64 (d.cnt:Int))).den G)) w:=by
 have hm:=hd.map
 unfold DirV.cnt
 cases hmv:d.mv with
 | none =>
  rw [hmv] at hx;exact runO_lenN TH_ok ho hx
 | some m =>
  rw [hmv] at hm hx;exact runO_lenA TH_ok (λG S w h=>⟨d.es,d.clock,(hF G S w h).1 m hmv,hm⟩) ho hx
end
theorem eY_all{k:List UInt8}(h:ok32 k):(TH.kv k).Ok:=(eY_ok h).1
theorem eHs_all(s:HSeg):(TH.vv s).Ok:=trivial
def HasM(h:List UInt8->Option HSeg)(done:List (List UInt8×HSeg)):Prop:=∀k s,h k=some s↔(k,s)∈done
theorem HasM.nil:HasM (λ_=>none) []:=λk s=>by simp
theorem HasM.put{h:List UInt8->Option HSeg}{done:List (List UInt8×HSeg)}(hh:HasM h done){k:List UInt8}(s:HSeg)(hn:∀d∈done,d.1≠k):HasM (putF h k s) (done++[(k,s)]):=λx y=>by
 unfold putF
 rw [List.mem_append,aF]
 by_cases c:x=k
 ·subst c
  rw [if_pos rfl]
  constructor
  ·exact λe=>.inr (by injection e with e;rw [e])
  ·rintro(e|e)
   ·exact absurd rfl (hn _ e)
   ·injection e with _ e
    rw [e]
 ·rw [if_neg c,hh x y]
  exact⟨.inl,λe=>e.resolve_right λe=>c (by injection e)⟩
theorem HasM.eq{h g:List UInt8->Option HSeg}{done:List (List UInt8×HSeg)}(hh:HasM h done)(h1:∀d∈done,g d.1=some d.2)(h2:∀k s,g k=some s->(k,s)∈done):h=g:=by
 funext k
 cases hg:g k with
 | some s=>exact(hh k s).2 (h2 k s hg)
 | none =>
  cases hk:h k with
  | none=>rfl
  | some s =>
   have:=h1 _ ((hh k s).1 hk);rw [hg] at this
   cases this
theorem own_mcopy:Own 51:=λ_ _=>by go_simp
theorem mcopy_S{d:DirV}(hd:d.Ok)(m:Nat):Spec 51 [.map (some m),.map d.mv] [MapG TH ok32 m 0 λ_=>none] d.F { ret:=λ_=>.t [],own:=λn:Nat=>[MapG TH ok32 m n d.h] }:=by
 refine spec_S [.c (.v (.map (some m))),.c (.v (.map d.mv))] 16 Tryz.func51 rfl (by rw [Tryz.ntmps51];rfl) (two_ok trivial trivial) λb=>?_;have hm:=hd.map
 cases hmv:d.mv with
 | none =>
  rw [hmv] at hm;have hh:d.h=λ_=>none:=funext hm;refine s_regA TY_ok rfl λK hK=>?_;refine l_rangeN rfl rfl rfl rfl Tryz.underlying28 rfl λr=>?_;refine s_end (hK _ ?_);refine s_block ?_
  let Fs:Unit->Env:=λ_=>⟨[(7,.v (.pointer (some ⟨r,0,none⟩)))],[],[ItR none r 0 #[],MapG TH ok32 m 0 λ_=>none],λ_=>True,λ_=>True⟩
  refine c_weak (e':=Fs ()) ⟨⟨rfl,trivial⟩,trivial,.refl _,λ_ _ _=>trivial,λ_ _=>trivial⟩ (s_loop (λ_=>0) Fs (λ_=>True) ?_ () trivial)
  intro _ _
  refine s_regA TY_ok rfl λK2 hK2=>?_;refine l_nextN 0 rfl rfl rfl rfl rfl rfl ?_;refine l_autoS TY_ok rfl ?_;refine s_end (hK2 _ ?_);refine s_seq λK3 hK3=>?_;refine s_no rfl ?_;refine s_exit (k_pass (k_pass (k_out ?_)));refine k_drop 0 rfl ?_;exact k_ret TY_ok 0 rfl (by decide) rfl rfl (by rw [hh];rfl) (λ_ _ _=>trivial) (λ_ _=>trivial)
 | some m2 =>
  rw [hmv] at hm;have hH:MapH TH ok32 d.es d.clock d.n d.h:=hm;refine s_regA TY_ok rfl λK hK=>?_;refine l_rangeM rfl rfl rfl rfl Tryz.underlying28 rfl (es:=d.es) (clock:=d.clock) (λ_ _ _ h=>h.fact.1 m2 hmv) λr=>?_;refine s_end (hK _ ?_);refine s_block ?_
  let Fs:Array Nat×List (List UInt8×HSeg)×Nat×(List UInt8->Option HSeg)->Env:=λx=>⟨[(7,.v (.pointer (some ⟨r,0,none⟩))),(0,.v (.map (some m)))],[],[ItR (some m2) r d.clock x.1,MapG TH ok32 m x.2.2.1 x.2.2.2],MapE m2 d.es d.clock,λ_=>True⟩
  refine c_weak (e':=Fs (#[],[],0,λ_=>none)) ⟨⟨rfl,rfl,trivial⟩,trivial,.refl _,λ_ h _=>h.1 m2 hmv,λ_ _=>trivial⟩ (s_loop (λx=>(leftOf d.es x.1).size) Fs (λx=>DidM TH ok32 d.es d.h x.1 x.2.1/\HasM x.2.2.2 x.2.1) ?_ (#[],[],0,λ_=>none) ⟨DidM.nil,HasM.nil⟩)
  rintro⟨seen,done,n,f⟩ ⟨hD,hB⟩
  dsimp only at hD hB
  refine s_regA TY_ok rfl λK2 hK2=>?_;refine l_nextM hH hD (λ_ h=>eY_all h) eHs_all 0 rfl rfl rfl rfl rfl rfl (λ_ _ _ h=>h.fact) (λh0=>?_) λq v seen' hq hv hne hlt hl hD'=>?_
  ·refine l_autoS TY_ok rfl ?_
   refine s_end (hK2 _ ?_);refine s_seq λK3 hK3=>?_;refine s_no rfl ?_;refine s_exit (k_pass (k_pass (k_out ?_)));refine k_drop 0 rfl ?_;exact k_ret TY_ok n rfl (by decide) rfl rfl (by rw [hB.eq (λd hd=>(hD.in_ d hd).2) λk s h=>hD.all TH_ok hH h0 h];rfl) (λ_ _ _=>trivial) (λ_ _=>trivial)
  refine l_autoS TY_ok rfl ?_;refine s_end (hK2 _ ?_);refine s_seq λK3 hK3=>?_;refine s_yes rfl ?_;refine s_skip (hK3 _ ?_);refine s_block ?_;refine s_regA TY_ok rfl λK4 hK4=>?_;refine l_opV (.t [eY 32 q,eHs v]) (two_ok (eY_all hq) trivial) rfl rfl rfl (runO_entry hH 0 rfl hl (λ_ _ _ h=>h.fact) rfl rfl) ?_;refine l_autoS TY_ok rfl ?_;refine s_end (hK4 _ ?_);refine s_lit ?_;refine l_autoS TY_ok rfl ?_;refine l_updG TH_ok 1 rfl q v hq rfl rfl rfl rfl rfl rfl ?_;refine s_end ?_;exact(k_next (seen',done++[(q,v)],_,putF f q v) ⟨hD',hB.put v hne⟩ hlt ⟨⟨rfl,rfl,trivial⟩,trivial,.refl _,λ_ h _=>h,λ_ h=>h⟩)
def isI:TypeDesc->Bool
  | .interface _=>true
  | _=>false
section
variable{P:Program}{a t ti:TypeId}{d:TypeDesc}{v z:Value}{w:World}
theorem assert_yes(hu:P.underlying a=some d)(hd:isI d=false):(lI (.iface a v) ti a true).run P w = .ok (.tuple #[v,.bool true]) w:=by
 simp only [lI,aG,run_underlying hu,aD]
 cases d<;>first|(simp;done)|cases hd
theorem assert_no(hu:P.underlying a=some d)(hd:isI d=false)(ht:t≠a)(hz:(P.info? a).map (·.zero)=some (some z)):(lI (.iface t v) ti a true).run P w = .ok (.tuple #[z,.bool false]) w:=by
 obtain⟨j,hj,hz'⟩:=Option.map_eq_some_iff.1 hz;simp only [lI,aG,run_underlying hu,aD]
 cases d<;>first|(simp [ht,zeroValue,typeInfo,hj,hz'];done)|cases hd
def ownM(P:Program)(t:TypeId)(name:String)(f:FuncId):Bool:=match P.info? t,P.underlying t with
  | some i,some d=>(match i.methods.find? (·.name==name) with
    | some m=>m.path.isEmpty&&(m.func==some (f,false)) && !(match d with | .pointer _=>true|_=>false)
    | none=>false)
  | _,_=>false
end
section
variable{N:Nat}{E:SE}{o:Oper}{x y:Operand}{t ti a t':TypeId}{d:TypeDesc}{q z:SQ}{v:Value}
theorem run_mkI(ho:o.op = .makeInterface t x)(hu:Tryz.prog.underlying t=some d)(hd:isI d=false)(hx:evS E x=some (.q q)) :
  ∀(G:Nat->Nat) (a:Act) (w:World),Fr N (denE G E) a->(execOp a.eval o).run Tryz.prog w = .ok (.value ((SV.v (.iface t q.den)).den G)) w:=λG a w ha=>by
 have h1:a.eval x=q.den:=ha.eval (evS_ok hx)
 unfold execOp
 simp only [ho,h1,Instr.makeInterface,aG,run_underlying hu,aD]
 cases d<;>first|rfl|cases hd
theorem run_asYes(ho:o.op = .typeAssert x ti a true)(hu:Tryz.prog.underlying a=some d)(hd:isI d=false)(hx:evS E x=some (.v (.iface a v)))(hv:v=q.den) :
  ∀(G:Nat->Nat) (ac:Act) (w:World),Fr N (denE G E) ac->(execOp ac.eval o).run Tryz.prog w = .ok (.value ((SV.t [q,.c (.v (.bool true))]).den G)) w:=λG ac w ha=>by
 have h1:ac.eval x = .iface a v:=ha.eval (evS_ok hx);subst hv
 unfold execOp
 simp only [ho,h1,assert_yes hu hd,aG,aD,aH]
 rfl
theorem run_asNo(ho:o.op = .typeAssert x ti a true)(hu:Tryz.prog.underlying a=some d)(hd:isI d=false)(hx:evS E x=some (.v (.iface t v)))(ht:t≠a)(hz:(Tryz.prog.info? a).map (·.zero)=some (some z.den)) :
  ∀(G:Nat->Nat) (ac:Act) (w:World),Fr N (denE G E) ac->(execOp ac.eval o).run Tryz.prog w = .ok (.value ((SV.t [z,.c (.v (.bool false))]).den G)) w:=λG ac w ha=>by
 have h1:ac.eval x = .iface t v:=ha.eval (evS_ok hx)
 unfold execOp
 simp only [ho,h1,assert_no hu hd ht hz,aG,aD,aH]
 rfl
theorem run_eqNilI(ms:Array (String×TypeId))(hu:Tryz.prog.underlying ti=some (.interface ms))(ho:o.op = .binOp .eql ti x (.const .nilIface) t')(hx:evS E x=some (.v (.iface t v))) :
  ∀(G:Nat->Nat) (ac:Act) (w:World),Fr N (denE G E) ac->(execOp ac.eval o).run Tryz.prog w = .ok (.value ((SV.v (.bool false)).den G)) w:=λG ac w ha=>by
 have h1:ac.eval x = .iface t v:=ha.eval (evS_ok hx)
 unfold execOp
 simp only [ho,h1]
 go_simp
 rfl
theorem run_eqNilN(ms:Array (String×TypeId))(hu:Tryz.prog.underlying ti=some (.interface ms))(ho:o.op = .binOp .eql ti x (.const .nilIface) t')(hx:evS E x=some (.v .nilIface)) :
  ∀(G:Nat->Nat) (ac:Act) (w:World),Fr N (denE G E) ac->(execOp ac.eval o).run Tryz.prog w = .ok (.value ((SV.v (.bool true)).den G)) w:=λG ac w ha=>by
 have h1:ac.eval x = .nilIface:=ha.eval (evS_ok hx)
 unfold execOp
 simp only [ho,h1]
 go_simp
 rfl
end
theorem run_method{P:Program}{t:TypeId}{v:Value}{name:String}{f:FuncId}{fuel:Nat}{w:World}(h:ownM P t name f=true):(method (fuel+1) t v name).run P w = .ok (f,v) w:=by
 unfold ownM at h
 cases hi:P.info? t with
 | none=>rw [hi] at h;cases h
 | some i =>
  cases hu:P.underlying t with
  | none=>rw [hi,hu] at h;cases h
  | some d =>
   rw [hi,hu] at h
   dsimp only at h
   cases hm:i.methods.find? (·.name==name) with
   | none=>rw [hm] at h;cases h
   | some m =>
    rw [hm] at h;simp only [Bool.and_eq_true,beq_iff_eq,Bool.not_eq_true',Array.isEmpty_iff] at h;obtain⟨⟨h1,h2⟩,h3⟩:=h
    have hti:∀w,(typeInfo t).run P w = .ok i w:=λw=>by simp [typeInfo,hi]
    have hrc:∀w wr,(receiverAt t (.val v) false wr).run P w = .ok v w:=λw wr=>by
     unfold receiverAt
     simp only [run_underlying hu,aG,aD]
     cases d<;>first|rfl|cases h3
    unfold method
    simp only [aG,hti,aD,hm];rw [h1];simp only [follow,aH,aD,h2,aG,hrc]
theorem run_callI{a:Act}{o:Oper}{f:FuncId}{x:Operand}{name:String}{xs:Array Operand}{ats:Array TypeId}{t:TypeId}{v:Value}(hf:Own f)(hm:ownM Tryz.prog t name f=true)(ho:o.op = .call { callee:=.invoke x name,args:=xs,argTypes:=ats })(hx:a.eval x = .iface t v)(w:World) :
  (execOp a.eval o).run Tryz.prog w = .ok (.enter f (#[v]++xs.map a.eval)) w:=by
 obtain⟨dst,op,ty,pos,af,gd⟩:=o;simp only at ho;subst ho;have h:=hf (#[v]++xs.map a.eval) w;have h2:∀fuel w,(method (fuel+1) t v name).run Tryz.prog w = .ok (f,v) w:=λfuel w=>run_method hm
 have e0:(#[pD t v]++xs.map a.eval)[0]?=some (.iface t v):=by
  rw [Array.getElem?_append_left (show 0<1 from oG)]
  rfl
 have e1:(#[pD t v]++xs.map a.eval).extract 1 (#[pD t v]++xs.map a.eval).size=xs.map a.eval:=by
  apply Array.toList_inj.1
  rw [Array.toList_extract,dC,<-a7,dC]
  show List.take (([pD t v]++(Array.map a.eval xs).toList).length-1) (Array.map a.eval xs).toList=_
  exact bE (by rw [List.length_append,List.length_singleton];omega)
 have h3:=λw=>h2 (Tryz.prog.types.size+99) w
 unfold execOp
 simp only [resolve,hx,aG,aH,aD]
 unfold invoke
 dsimp only
 rw [e0]
 dsimp only
 rw [e1]
 unfold callMethod
 dsimp only
 generalize Tryz.prog=P at *;simp only [aG,run_program,aD];rw [show P.types.size+Made.depth=P.types.size+99+1 from rfl,h3];exact h
section
variable{b:Base}{ops:Array Oper}{Q:Exit->Act->World->Prop}{N:Nat}{E:SE}{L:List LV}{R R' own:List Res}{F M F':World->Prop}{o:Oper}{rest:List Oper}{k:Nat}{α:Type}{post:Post α}{f:FuncId}{x:Operand}{name:String}{xs:Array Operand}{ats:Array TypeId}{svs:List SV}{t:TypeId}{v:Value}
theorem l_callI(args:List Value)(hg:o.guard=none)(hd:o.dst=some k)(hk:Nat.blt k N=true)(hf:Own f)(ho:o.op = .call { callee:=.invoke x name,args:=xs,argTypes:=ats })(hx0:evS E x=some (.v (.iface t v)))(hm:ownM Tryz.prog t name f=true)(hx:evSs E xs.toList=some svs)
 (ha:∀G:Nat->Nat,(∀x∈L,∀g,x.g=some g->G x.j=g)->svs.map (SV.den G)=args)(hs:Spec f (v::args) own F' post)(hF:∀w,F w->M w->F' w)
 (hn:∀x,lS Tryz.prog b ops Q N rest ⟨(k,(post.ret x).sv)::E,L,post.own x++R',λw=>post.p x w/\F w,λw=>post.n x w/\M w⟩):lS Tryz.prog b ops Q N (o::rest) ⟨E,L,own++R',F,M⟩:=λa w ⟨G,S,h1,h2,h3⟩=>by
 have hr:=run_callI hf hm ho (show a.eval x = .iface t v from h1.eval (evS_ok hx0)) w;rw [map_eval (args:=(svs.map (SV.den G)).toArray) (h1.evals _ _ (by rw [evSs_ok hx])),ha G λx hx=>(h3.var x hx).2.2,show #[v]++args.toArray=(v::args).toArray by simp] at hr
 unfold wpList
 rw [if_pos (by simp [Region.wanted,hg])];refine .inl ?_
 unfold Oper.wp
 rw [hr];simp only [Oper.upon,hd];refine(h3.callA hs hF).mono ?_
 rintro e w' ⟨x,S',rfl,hok,h4⟩
 have h5:=h1.put hk (post.ret x).den;rw [<-RV.sv_den _ G] at h5;have h6:=hn x _ w' ⟨G,S',h5,h2.cons hok,h4⟩;rw [RV.sv_den] at h6;exact h6
end
end Go.Proofs.YtlhlkofpjhpaoaaGreatDoor
