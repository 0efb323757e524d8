import Derived.Test.YtlhlkofpjhpaoaaGreatDoorMf
import Derived.Test.YtlhlkofpjhpaoaaGreatDoorMj
import Derived.Test.YtlhlkofpjhpaoaaGreatDoorMg
import Derived.Test.YtlhlkofpjhpaoaaGreatDoorMa
import Derived.Test.YtlhlkofpjhpaoaaGreatDoorMh
import Derived.StillTailTactics
import Derived.Deep.OwnRows
import Derived.OwnWalk
import Derived.Test.YtlhlkofpjhpaoaaGreatDoorMd
set_option maxRecDepth 100000
set_option maxHeartbeats 1000000
open Go.Act renaming put->pC
open Go.Ending renaming returned->rK
open Go.Instr renaming field->tR
open Go.IntKind renaming wrap_u64->a8
open Go.Obj renaming cells->iJ
open Go.Op renaming equalIn->cC
open Go.Result renaming andThen_ok->aD
open Go.Sem renaming run_bind->aG,run_pure->aH
open List renaming replicate->aA,mem_singleton->aE,mem_cons_of_mem->aJ,mem_cons_self->aP,size_toArray->aT,length_take->aU,take_of_length_le->bG,ext_getElem->cJ,setIfInBounds_toArray->dL,map_set->dM,set_cons_zero->fH,set_cons_succ->fI,mem_range'_1->iF,drop_zero->kT,range->mF,append_inj->qR,extract_eq_take_drop->rP,forIn_cons->tL
open Nat renaming le_refl->aF,zero_le->aI,mod_eq_of_lt->aY,zero_add->aZ,reducePow->cI,min_eq_left->cM,pow_succ->cN,mul_comm->eN,mul_assoc->fQ,sub_self->g9,pow_le_pow_right->iC,mul_le_mul->iW,pow_add->j9,pow_mul->mL,div_lt_of_lt_mul->pM,add_mul_div_left->pN,pow_pos->tO
open Std.Legacy.Range renaming size->eQ
namespace Go.Proofs.YtlhlkofpjhpaoaaGreatDoor
open Go.RowKit Go.IntWalk Nums
theorem Us_oneA(l:List Nat):∀v∈(Us l).toArray.toList,v.oneCell'=true:=λv hv=>Us_one l v (by simpa using hv)
theorem us_size{l:List Nat}{n:Nat}(h:l.length=n):(Us l).toArray.size=n:=by rw [aT,Us_len,h]
theorem eb_zero:EB [0,0,0,0,0] 0:=EB.mk5 (by omega) (by omega) (by omega) (by omega) (by omega) kL
def zl:List Nat:=[0,0,0,0,0]
abbrev eE(l:List Nat):SQ:=.p [.agg 5 (Us l).toArray]
theorem eE_p{l:List Nat}(h:l.length=5):OkP [.agg 5 (Us l).toArray]:=λq hq=>by
 rw [aE.1 hq];exact⟨us_size h,Us_oneA l⟩
abbrev elP(v:Nums.F):Post {r:List Nat // EB r v}:={ ret:=λr=>.q (eE r.1) }
theorem Spec.el{f:FuncId}{args:List Value}{F:World->Prop}{v:Nums.F}(h:∀w,F w->Calls Tryz.prog f args.toArray w λe w'=>∃r,EB r v/\e = .returned (.agg (Us r).toArray)/\Below w.heap.size w w'):Spec f args [] F (elP v):=λw S _ hS _ hF =>
 (h w hF.now).mono λ_ _ ⟨r,hr,he,hb⟩=>⟨⟨r,hr⟩,S,he,eE_p hr.len,Chg.of_up hb,hS.keep λk hk=>hb.block k (hS.lt k hk),λ_ h _=>h,λ_ _=>trivial, zU⟩
instance:Pst Tw:=⟨λ_ _ h hb=>h.below hb⟩
section
variable{b:Base}{fn:Func}{N:Nat}{E:SE}{L:List LV}{F M:World->Prop}{rs:List ResultVar}
theorem k_el{v:Nums.F}(r:List Nat)(hv:EB r v)(hr:fn.results=rs.toArray)(hs:rs.length<=3)(h:resS TY E L rs=some [eE r]):kS b (bodyPost Tryz.prog fn (endS b (elP v)) .ret) N ⟨E,L,[],F,M⟩:=zR zY ⟨r,hv⟩ hr hs h rfl rfl (λ_ _ _=>trivial) λ_ _=>trivial
end
theorem arr5:Arr 191 5:=⟨_,Tryz.underlying191,by kernel_rfl⟩
theorem carried_C{F:World->Prop}(a0 a1 a2 a3 a4:Nat)(h0:a0<18446744073709551616)(h1:a1<18446744073709551616)(h2:a2<18446744073709551616)(h3:a3<18446744073709551616)(h4:a4<18446744073709551616):Ct F 175 [eE [a0,a1,a2,a3,a4]] (one (.q (eE (crd a0 a1 a2 a3 a4)))):=⟨own_carried,Spec.pure (eE_p rfl) λw _=>carried_f a0 a1 a2 a3 a4 h0 h1 h2 h3 h4 w⟩
abbrev eM(s:Nat):SQ:=.p [.agg 2 (W2 s)]
abbrev eJ(n:Nat):SQ:=.c (.v (.int .u64 ((n:Nat):Int)))
theorem eM_ok(s:Nat):OkP [.agg 2 (W2 s)]:=λq hq=>by
 rw [aE.1 hq];exact⟨W2_size s,λv hv=>W2_one s v hv⟩
section
variable{b:Base}{Q:Exit->Act->World->Prop}{N:Nat}{E:SE}{L:List LV}{R:List Res}{F M:World->Prop}{y:Code}
theorem s_ps(j:Nat){ps:List Pt}(ps':List Pt)(hl:lookL L j=some ps)(he:catP ps'=catP ps)(hok:OkP ps')(hn:cS Tryz.prog b y Q N ⟨E,putL L j ps',R,F,M⟩):cS Tryz.prog b y Q N ⟨E,L,R,F,M⟩:=λa w ⟨G,S,g1,g2,g3⟩=>by
 obtain⟨u,hu,rfl,hps⟩:=lookL_mem hl;have hb:=g3.at u hu;have h:=g3.set (lookL_name hl) hok;rw [he,<-hps,setRow_self w (G u.j) _ u.t (0,0) hb] at h;exact hn a w ⟨G,S,g1,g2,h⟩
end
section
variable{F:World->Prop}
theorem eplus_C{s a b:Nat}(ha:a<18446744073709551616)(hb:b<18446744073709551616)(hs:s+a*b<340282366920938463463374607431768211456):Ct F 172 [eM s,eJ a,eJ b] (one (.q (eM (s+a*b)))):=⟨λ_ _=>by go_simp,Spec.pure (eM_ok _) λw _=>plus_f s a b ha hb hs w⟩
theorem low_C{s:Nat}:Ct F 173 [eM s] (one (.q (eJ ((s%2251799813685248:Nat))))):=⟨own_low,Spec.pure trivial λw _=>low_f s w⟩
theorem high_C{s:Nat}(hs:s<41538374868278621028243970633760768):Ct F 174 [eM s] (one (.q (eJ (s/2251799813685248:Nat)))):=⟨own_high,Spec.pure trivial λw _=>high_f s hs w⟩
end
theorem sub1r{x y:LV}{L:List LV}:∀z∈[x],z∈y::x::L:=λz hz=>by
 rw [aE.1 hz];exact .tail _ (.head _)
theorem inv1r{b:Base}{N:Nat}{E:SE}{x y:LV}{L:List LV}{R:List Res}{F M:World->Prop}(hx:x.g.isSome=true):∀a w,St b N ⟨E,y::x::L,R,F,M⟩ a w->InvL [x] w:=inv_of λz hz=>⟨sub1r z hz,by
 rw [aE.1 hz]
 exact hx⟩
theorem quoI(a c:Nat)(h:a<9223372036854775808):IntKind.i64.wrap ((a:Int).tdiv (c:Int))=((a/c:Nat):Int):=by
 have h2:=Nat.div_le_self a c;rw [show(a:Int).tdiv (c:Int)=((a/c:Nat):Int) from rfl];generalize a/c=d at *;rw [i64_left,wrap64_in _ (by omega)]
structure MV where
  k:Nat
  c0:Nat
  c1:Nat
  c2:Nat
  c3:Nat
  c4:Nat
  s0:Nat
  s1:Nat
  s2:Nat
  s3:Nat
  s4:Nat
section
variable{F:World->Prop}[Pst F]{a b:List Nat}{x y:Nums.F}
theorem mul_C(ha:EB a x)(hb:EB b y):Ct F 142 [eE a,eE b] (elP (x*y)):=⟨own_elmul,by
 obtain⟨b0,b1,b2,b3,b4,rfl,r0,r1,r2,r3,r4,rv⟩:=hb.oF;refine zQ [eE a,eE [b0,b1,b2,b3,b4]] 95 Tryz.func142 rfl (by rw [Tryz.ntmps142];rfl) (two_ok (eE_p ha.len) (eE_p rfl)) λB=>?_;refine zA rfl ?_;refine s_locs λG=>?_;refine zM λK hK=>?_;refine s_anyP [0,1,2,3,4,5,6,7,8,9,10,11,12,13,14] 20 0 (InvL [⟨3,some (G 3),193,[.agg 5 (Us [b0,b1,b2,b3,b4]).toArray]⟩]) (by kernel_rfl) rfl (inv1r rfl) ?_;refine p_front zY 0 (by kernel_rfl) rfl rfl rfl rfl rfl rfl sub1r ?_;refine p_frontO (.a 3 (0+1*0)) trivial 1 (by kernel_rfl) rfl rfl rfl rfl rfl (runO_ixA 0 rfl Tryz.underlying191 rfl rfl rfl (by decide)) ?_;refine p_frontA (.v (.int .u64 (b0:Int))) trivial 2 (by kernel_rfl) rfl rfl rfl rfl rfl sub1r (λ_ h=>h) (runO_ldL _ rfl rfl rfl rfl Tryz.underlying123 rfl) ?_;refine p_front zY 3 (by kernel_rfl) rfl rfl rfl rfl rfl rfl sub1r ?_;refine p_frontO (.a 3 (0+1*1)) trivial 4 (by kernel_rfl) rfl rfl rfl rfl rfl (runO_ixA 1 rfl Tryz.underlying191 rfl rfl rfl (by decide)) ?_;refine p_frontA (.v (.int .u64 (b1:Int))) trivial 5 (by kernel_rfl) rfl rfl rfl rfl rfl sub1r (λ_ h=>h) (runO_ldL _ rfl rfl rfl rfl Tryz.underlying123 rfl) ?_;refine p_front zY 6 (by kernel_rfl) rfl rfl rfl rfl rfl rfl sub1r ?_;refine p_frontO (.a 3 (0+1*2)) trivial 7 (by kernel_rfl) rfl rfl rfl rfl rfl (runO_ixA 2 rfl Tryz.underlying191 rfl rfl rfl (by decide)) ?_;refine p_frontA (.v (.int .u64 (b2:Int))) trivial 8 (by kernel_rfl) rfl rfl rfl rfl rfl sub1r (λ_ h=>h) (runO_ldL _ rfl rfl rfl rfl Tryz.underlying123 rfl) ?_;refine p_front zY 9 (by kernel_rfl) rfl rfl rfl rfl rfl rfl sub1r ?_;refine p_frontO (.a 3 (0+1*3)) trivial 10 (by kernel_rfl) rfl rfl rfl rfl rfl (runO_ixA 3 rfl Tryz.underlying191 rfl rfl rfl (by decide)) ?_;refine p_frontA (.v (.int .u64 (b3:Int))) trivial 11 (by kernel_rfl) rfl rfl rfl rfl rfl sub1r (λ_ h=>h) (runO_ldL _ rfl rfl rfl rfl Tryz.underlying123 rfl) ?_;refine p_front zY 12 (by kernel_rfl) rfl rfl rfl rfl rfl rfl sub1r ?_;refine p_frontO (.a 3 (0+1*4)) trivial 13 (by kernel_rfl) rfl rfl rfl rfl rfl (runO_ixA 4 rfl Tryz.underlying191 rfl rfl rfl (by decide)) ?_;refine p_frontA (.v (.int .u64 (b4:Int))) trivial 14 (by kernel_rfl) rfl rfl rfl rfl rfl sub1r (λ_ h=>h) (runO_ldL _ rfl rfl rfl rfl Tryz.underlying123 rfl) ?_;refine p_step 15 (by kernel_rfl) rfl λK2 hK2=>l_E rfl (hK2 _ (inv1r rfl) ?_);refine p_step 16 (by kernel_rfl) rfl λK2 hK2=>l_E rfl (hK2 _ (inv1r rfl) ?_);refine p_step 17 (by kernel_rfl) rfl λK2 hK2=>l_E rfl (hK2 _ (inv1r rfl) ?_);refine p_step 18 (by kernel_rfl) rfl λK2 hK2=>l_E rfl (hK2 _ (inv1r rfl) ?_);refine p_step 19 (by kernel_rfl) rfl λK2 hK2=>l_E rfl (hK2 _ (inv1r rfl) ?_);refine p_tail [] (by kernel_rfl) rfl (l_E rfl (hK _ ?_));refine zA rfl ?_
 refine s_ps 10 [.agg 2 (W2 0)] rfl rfl (eM_ok 0) (s_ps 11 [.agg 2 (W2 0)] rfl rfl (eM_ok 0) (s_ps 12 [.agg 2 (W2 0)] rfl rfl (eM_ok 0) (s_ps 13 [.agg 2 (W2 0)] rfl rfl (eM_ok 0) (s_ps 14 [.agg 2 (W2 0)] rfl rfl (eM_ok 0) ?_))));refine zM λK1 hK1=>?_;refine zA rfl (zN ?_)
 let V:MV->Env:=λs=>⟨[(32,.v (.int .i64 ((s.k:Nat):Int))),(5,.v (.int .u64 ((s.c0:Nat):Int))),(6,.v (.int .u64 ((s.c1:Nat):Int))),(7,.v (.int .u64 ((s.c2:Nat):Int))),(8,.v (.int .u64 ((s.c3:Nat):Int))),(9,.v (.int .u64 ((s.c4:Nat):Int))),(2,.a 2 0),(4,.a 4 0),(10,.a 10 0),(11,.a 11 0),(12,.a 12 0),(13,.a 13 0),(14,.a 14 0)],[⟨14,none,269,[.agg 2 (W2 s.s4)]⟩,⟨13,none,269,[.agg 2 (W2 s.s3)]⟩,⟨12,none,269,[.agg 2 (W2 s.s2)]⟩,⟨11,none,269,[.agg 2 (W2 s.s1)]⟩,⟨10,none,269,[.agg 2 (W2 s.s0)]⟩,⟨4,some (G 4),193,[.agg 5 (Us [0,0,0,0,0]).toArray]⟩,⟨2,some (G 2),193,[.agg 5 (Us a).toArray]⟩],[],F,λ_=>True⟩
 refine c_weak (e':=V ⟨0,b0,b1,b2,b3,b4,0,0,0,0,0⟩) ⟨zE rfl, zL rfl rfl, .refl _,λ_ h _=>h, zU⟩ (s_loop (λs=>5-s.k) V (λs=>s.k<=5/\MM a y s.k s.c0 s.c1 s.c2 s.c3 s.c4 s.s0 s.s1 s.s2 s.s3 s.s4) ?_ ⟨0,b0,b1,b2,b3,b4,0,0,0,0,0⟩ ⟨aI _,MM.start r0 r1 r2 r3 r4 rv⟩)
 rintro⟨k,c0,c1,c2,c3,c4,s0,s1,s2,s3,s4⟩ ⟨hk,hM⟩
 dsimp only at hk hM
 refine zA rfl (zM λK2 hK2=>?_);refine zW ((k:Int)<5) rfl (λhlt=>?_) (λhge=>?_)
 ·have hlt:k<5:=by omega
  have hN:=hM.next ha hlt;have hv:=eb_get ha hlt
  obtain⟨g0,g1,g2,g3,g4,u4,t0,t1,t2,t3,t4⟩:c0<42784196465000448/\c1<42784196465000448/\c2<42784196465000448/\c3<42784196465000448/\c4<42784196465000448/\c4<2251799813947392/\s0<=385365782560107868259994584612864/\s1<=385365782560107868259994584612864/\s2<=385365782560107868259994584612864/\s3<=385365782560107868259994584612864/\s4<=385365782560107868259994584612864:=by
   obtain⟨_,_,g0,g1,g2,g3,g4,u0,u1,u2,u3,u4,t0,t1,t2,t3,t4⟩:=hM;exact⟨g0,g1,g2,g3,g4,u4 (by omega),by omega,by omega,by omega,by omega,by omega⟩
  have p0:=prod_le hv g0;have p1:=prod_le hv g1;have p2:=prod_le hv g2;have p3:=prod_le hv g3;have p4:=prod_le hv g4;have rd:(catP [.agg 5 (Us a).toArray])[0+k]?=some (.int .u64 ((a[k]! : Nat):Int)):=Us_in (by rw [ha.len];exact hlt);obtain⟨v,hve⟩:∃v,v=a[k]!:=⟨_,rfl⟩;rw [<-hve] at hN hv p0 p1 p2 p3 p4 rd;refine zO (hK2 _ (zM λK3 hK3=>?_));refine zN (zA rfl ?_);refine s_reg λK hK=>l_auto2 rfl (l_cell rfl arr5 hlt (.int .u64 (v:Int)) rd (l_N hK rfl ?_));refine s_reg λK hK=>l_X (eplus_C (s:=s0) (a:=v) (b:=c0) (by omega) (by omega) (by omega)) (λ_=>rfl) rfl λ_=>l_N hK rfl ?_;refine s_reg λK hK=>l_X (eplus_C (s:=s1) (a:=v) (b:=c1) (by omega) (by omega) (by omega)) (λ_=>rfl) rfl λ_=>l_N hK rfl ?_;refine s_reg λK hK=>l_X (eplus_C (s:=s2) (a:=v) (b:=c2) (by omega) (by omega) (by omega)) (λ_=>rfl) rfl λ_=>l_N hK rfl ?_;refine s_reg λK hK=>l_X (eplus_C (s:=s3) (a:=v) (b:=c3) (by omega) (by omega) (by omega)) (λ_=>rfl) rfl λ_=>l_N hK rfl ?_;refine s_reg λK hK=>l_X (eplus_C (s:=s4) (a:=v) (b:=c4) (by omega) (by omega) (by omega)) (λ_=>rfl) rfl λ_=>l_N hK rfl ?_;refine zD rfl (hK3 _ ?_);refine zD rfl ?_;exact zX ⟨k+1,19*c4,c0,c1,c2,c3,s0+v*c0,s1+v*c1,s2+v*c2,s3+v*c3,s4+v*c4⟩ ⟨hlt,hN⟩ (by show 5-(k+1)<5-k;omega) ⟨⟨congrArg (λx=>some (SV.v (.int .i64 x))) (addI k 1 (by omega)),congrArg (λx=>some (SV.v (.int .u64 x))) (by show IntKind.u64.wrap (19*(c4:Int))=((19*c4:Nat):Int);rw [a8];omega),rfl,rfl,rfl,rfl,rfl,rfl,rfl,rfl,rfl,rfl,rfl,trivial⟩,zL rfl rfl, .refl _,λ_ h _=>h,λ_ h=>h⟩
 ·obtain rfl:k=5:=by omega
  obtain⟨hv,m0,m1,m2,m3,m4,d0,d1,d2,d3,d4⟩:=hM.fin ha
  have hE:EB (crd (s0%2251799813685248+19*(s4/2251799813685248)) (s1%2251799813685248+s0/2251799813685248) (s2%2251799813685248+s1/2251799813685248) (s3%2251799813685248+s2/2251799813685248) (s4%2251799813685248+s3/2251799813685248)) (x*y):=by
   have hE:=rZ (a0:=s0%2251799813685248+19*(s4/2251799813685248)) (a1:=s1%2251799813685248+s0/2251799813685248) (a2:=s2%2251799813685248+s1/2251799813685248) (a3:=s3%2251799813685248+s2/2251799813685248) (a4:=s4%2251799813685248+s3/2251799813685248) (by omega) (by omega) (by omega) (by omega) (by omega);have h:fof (lv (crd s0 s1 s2 s3 s4))=x*y:=hv
   unfold crd at h
   rw [h] at hE;exact hE
  refine s_exit (zS (zS (k_out (hK1 _ ?_))));refine s_N 29 [] (by kernel_rfl) λK hK G S w0 hst=>?_;refine n_X hst (low_C (s:=s0)) rfl λ_=>n_X hst (high_C m4) rfl λ_=>n_X hst (low_C (s:=s1)) rfl λ_=>n_X hst (high_C m0) rfl λ_=>n_X hst (low_C (s:=s2)) rfl λ_=>n_X hst (high_C m1) rfl λ_=>n_X hst (low_C (s:=s3)) rfl λ_=>n_X hst (high_C m2) rfl λ_=>n_X hst (low_C (s:=s4)) rfl λ_=>n_X hst (high_C m3) rfl λ_=>?_;refine n_auto2 hst rfl (n_num 71 ((s0%2251799813685248+19*(s4/2251799813685248):Nat):Int) rfl (by rw [a8,a8];omega) (n_num 76 ((s1%2251799813685248+s0/2251799813685248:Nat):Int) rfl (by rw [a8];omega) (n_num 81 ((s2%2251799813685248+s1/2251799813685248:Nat):Int) rfl (by rw [a8];omega) (n_num 86 ((s3%2251799813685248+s2/2251799813685248:Nat):Int) rfl (by rw [a8];omega) (n_num 91 ((s4%2251799813685248+s3/2251799813685248:Nat):Int) rfl (by rw [a8];omega) ?_)))));refine n_f hst (.q (.p [.agg 5 (Us [s0%2251799813685248+19*(s4/2251799813685248),s1%2251799813685248+s0/2251799813685248,s2%2251799813685248+s1/2251799813685248,s3%2251799813685248+s2/2251799813685248,s4%2251799813685248+s3/2251799813685248]).toArray])) (eE_p rfl) (λC0 Q' _ hQ=>f_build ([s0%2251799813685248+19*(s4/2251799813685248),s1%2251799813685248+s0/2251799813685248,s2%2251799813685248+s1/2251799813685248,s3%2251799813685248+s2/2251799813685248,s4%2251799813685248+s3/2251799813685248].zipIdx.map λx=>(x.2,.int .u64 ((x.1:Nat):Int))) (Us [s0%2251799813685248+19*(s4/2251799813685248),s1%2251799813685248+s0/2251799813685248,s2%2251799813685248+s1/2251799813685248,s3%2251799813685248+s2/2251799813685248,s4%2251799813685248+s3/2251799813685248]).toArray rfl rfl rfl rfl rfl (by kernel_rfl) hQ) ?_;refine n_X hst (carried_C (s0%2251799813685248+19*(s4/2251799813685248)) (s1%2251799813685248+s0/2251799813685248) (s2%2251799813685248+s1/2251799813685248) (s3%2251799813685248+s2/2251799813685248) (s4%2251799813685248+s3/2251799813685248) (by omega) (by omega) (by omega) (by omega) (by omega)) rfl λ_=>n_N hst rfl hK rfl (zP ?_)
  exact k_el _ hE rfl (by decide) rfl⟩
omit [Pst F] in
theorem add_C(ha:EB a x)(hb:EB b y):Ct F 149 [eE a,eE b] (elP (x+y)):=⟨own_eladd,by
 refine zQ [eE a,eE b] 23 Tryz.func149 rfl (by rw [Tryz.ntmps149];rfl) (two_ok (eE_p ha.len) (eE_p hb.len)) λB=>?_;refine zA rfl (zM λK1 hK1=>?_);refine zA rfl (zN ?_)
 let f:Nat->Nat:=λj=>a[j]! + b[j]!
 let V:Nat->Env:=λk=>⟨[(6,.v (.int .i64 ((k:Nat):Int))),(2,.a 2 0),(3,.a 3 0),(4,.a 4 0)],[⟨4,none,193,[.agg 5 (Us [0,0,0,0,0]).toArray]⟩,⟨3,none,193,[.agg 5 (Us b).toArray]⟩,⟨2,none,193,[.agg 5 (Us (mx f a k)).toArray]⟩],[],F,λ_=>True⟩
 have eL:(some ⟨2,none,193,[.agg 5 (Us a).toArray]⟩:Option LV)=some ⟨2,none,193,[.agg 5 (Us (mx f a 0)).toArray]⟩:=by rw [mx_zero _ ha.len]
 refine c_weak (e':=V 0) ⟨zE rfl, ⟨rfl,rfl,rfl,rfl,eL,rfl,trivial⟩,.refl _,λ_ h _=>h, zU⟩ (s_loop (λk=>5-k) V (λk=>k<=5) ?_ 0 (aI _))
 intro k hk
 refine zA rfl (zM λK2 hK2=>?_);refine zW ((k:Int)<5) rfl (λhlt=>?_) (λhge=>?_)
 ·have hlt:k<5:=by omega
  have ra:(catP [.agg 5 (Us (mx f a k)).toArray])[0+k]?=some (.int .u64 ((a[k]! : Nat):Int)):=(Us_in (by rw [mx_len];exact hlt)).trans (by rw [mx_get _ _ hlt]);have rb:(catP [.agg 5 (Us b).toArray])[0+k]?=some (.int .u64 ((b[k]! : Nat):Int)):=Us_in (by rw [hb.len];exact hlt);have b0:=eb_get ha hlt;have b1:=eb_get hb hlt;refine zO (hK2 _ (zM λK3 hK3=>?_));refine zN (zA rfl ?_);refine s_drawnN 10 (by kernel_rfl) λG S w0 hst=>?_;refine n_auto2 hst rfl (n_cell hst rfl arr5 hlt (.int .u64 ((a[k]! : Nat):Int)) ra ?_);refine n_auto2 hst rfl (n_cell hst rfl arr5 hlt (.int .u64 ((b[k]! : Nat):Int)) rb ?_);refine n_auto2 hst rfl (n_num 17 ((f k:Nat):Int) rfl (by show _=((a[k]! + b[k]! : Nat):Int);rw [a8];omega) (n_L hst rfl ?_));refine l_put rfl arr5 hlt [.agg 5 (Us (mx f a (k+1))).toArray] (eE_p (mx_len _ _ _)) ?_ ?_ (zJ (hK3 _ ?_))
  ·show 0+k<(Us (mx f a k)).toArray.size
   rw [aT,Us_len,mx_len]
   omega
  ·show Us (mx f a (k+1))=(Us (mx f a k)).set (0+k) (.int .u64 ((f k:Nat):Int))
   rw [aZ,Us,Us,<-mx_set,dM]
  refine zD rfl ?_;exact zX (k+1) hlt (by show 5-(k+1)<5-k;omega) ⟨⟨congrArg (λx=>some (SV.v (.int .i64 x))) (addI k 1 (by omega)),rfl,rfl,rfl,trivial⟩,zL rfl rfl, .refl _,λ_ h _=>h,λ_ h=>h⟩
 ·obtain rfl:k=5:=by omega
  obtain⟨a0,a1,a2,a3,a4,rfl,p0,p1,p2,p3,p4,pv⟩:=ha.oF;obtain⟨b0,b1,b2,b3,b4,rfl,r0,r1,r2,r3,r4,rv⟩:=hb.oF;have hE:=rZ (a0:=a0+b0) (a1:=a1+b1) (a2:=a2+b2) (a3:=a3+b3) (a4:=a4+b4) (by omega) (by omega) (by omega) (by omega) (by omega);rw [wZ,iY,pv,rv] at hE;refine s_exit (zS (zS (k_out (hK1 _ ?_))));refine s_reg λK hK=>l_X (carried_C (a0+b0) (a1+b1) (a2+b2) (a3+b3) (a4+b4) (by omega) (by omega) (by omega) (by omega) (by omega)) (λ_=>rfl) rfl λ_=>l_N hK rfl (zP ?_)
  exact k_el _ hE rfl (by decide) rfl⟩
theorem sub_C(ha:EB a x)(hb:EB b y):Ct Tw 147 [eE a,eE b] (elP (x-y)):=⟨own_elsub,by
 refine zQ [eE a,eE b] 27 Tryz.func147 rfl (by rw [Tryz.ntmps147];rfl) (two_ok (eE_p ha.len) (eE_p hb.len)) λB=>?_;refine zA rfl (zM λK1 hK1=>?_);refine zA rfl (zN ?_)
 let f:Nat->Nat:=λj=>a[j]! + (twl[j]! - b[j]!)
 let V:Nat->Env:=λk=>⟨[(6,.v (.int .i64 ((k:Nat):Int))),(2,.a 2 0),(3,.a 3 0),(4,.a 4 0)],[⟨4,none,193,[.agg 5 (Us [0,0,0,0,0]).toArray]⟩,⟨3,none,193,[.agg 5 (Us b).toArray]⟩,⟨2,none,193,[.agg 5 (Us (mx f a k)).toArray]⟩],[],Tw,λ_=>True⟩
 have eL:(some ⟨2,none,193,[.agg 5 (Us a).toArray]⟩:Option LV)=some ⟨2,none,193,[.agg 5 (Us (mx f a 0)).toArray]⟩:=by rw [mx_zero _ ha.len]
 refine c_weak (e':=V 0) ⟨zE rfl, ⟨rfl,rfl,rfl,rfl,eL,rfl,trivial⟩,.refl _,λ_ h _=>h, zU⟩ (s_loop (λk=>5-k) V (λk=>k<=5) ?_ 0 (aI _))
 intro k hk
 refine zA rfl (zM λK2 hK2=>?_);refine zW ((k:Int)<5) rfl (λhlt=>?_) (λhge=>?_)
 ·have hlt:k<5:=by omega
  have ra:(catP [.agg 5 (Us (mx f a k)).toArray])[0+k]?=some (.int .u64 ((a[k]! : Nat):Int)):=(Us_in (by rw [mx_len];exact hlt)).trans (by rw [mx_get _ _ hlt]);have rb:(catP [.agg 5 (Us b).toArray])[0+k]?=some (.int .u64 ((b[k]! : Nat):Int)):=Us_in (by rw [hb.len];exact hlt);have b0:=eb_get ha hlt;have b1:=eb_get hb hlt;have b2:=twl_get hlt;refine zO (hK2 _ (zM λK3 hK3=>?_));refine zN (zA rfl ?_);refine s_drawnN 14 (by kernel_rfl) λG S w0 hst=>?_;refine n_auto2 hst rfl (n_cell hst rfl arr5 hlt (.int .u64 ((a[k]! : Nat):Int)) ra ?_);refine n_auto2 hst rfl (n_tab hst rfl rfl rfl rfl arr5 hlt Tryz.underlying123 rfl (λw h=>h.at hlt) ?_);refine n_auto2 hst rfl (n_cell hst rfl arr5 hlt (.int .u64 ((b[k]! : Nat):Int)) rb ?_);refine n_auto2 hst rfl (n_num 21 ((f k:Nat):Int) rfl (by show _=((a[k]! + (twl[k]! - b[k]!):Nat):Int);rw [a8,a8];omega) (n_L hst rfl ?_));refine l_put rfl arr5 hlt [.agg 5 (Us (mx f a (k+1))).toArray] (eE_p (mx_len _ _ _)) ?_ ?_ (zJ (hK3 _ ?_))
  ·show 0+k<(Us (mx f a k)).toArray.size
   rw [aT,Us_len,mx_len]
   omega
  ·show Us (mx f a (k+1))=(Us (mx f a k)).set (0+k) (.int .u64 ((f k:Nat):Int))
   rw [aZ,Us,Us,<-mx_set,dM]
  refine zD rfl ?_;exact zX (k+1) hlt (by show 5-(k+1)<5-k;omega) ⟨⟨congrArg (λx=>some (SV.v (.int .i64 x))) (addI k 1 (by omega)),rfl,rfl,rfl,trivial⟩,zL rfl rfl, .refl _,λ_ h _=>h,λ_ h=>h⟩
 ·obtain rfl:k=5:=by omega
  obtain⟨a0,a1,a2,a3,a4,rfl,p0,p1,p2,p3,p4,pv⟩:=ha.oF;obtain⟨b0,b1,b2,b3,b4,rfl,r0,r1,r2,r3,r4,rv⟩:=hb.oF;have hE:=rZ (a0:=a0+(4503599627370458-b0)) (a1:=a1+(4503599627370494-b1)) (a2:=a2+(4503599627370494-b2)) (a3:=a3+(4503599627370494-b3)) (a4:=a4+(4503599627370494-b4)) (by omega) (by omega) (by omega) (by omega) (by omega);rw [wN r0 r1 r2 r3 r4,pv,rv] at hE;refine s_exit (zS (zS (k_out (hK1 _ ?_))));refine s_reg λK hK=>l_X (carried_C (a0+(4503599627370458-b0)) (a1+(4503599627370494-b1)) (a2+(4503599627370494-b2)) (a3+(4503599627370494-b3)) (a4+(4503599627370494-b4)) (by omega) (by omega) (by omega) (by omega) (by omega)) (λ_=>rfl) rfl λ_=>l_N hK rfl (zP ?_)
  exact k_el _ hE rfl (by decide) rfl⟩
omit [Pst F] in
theorem ewhole_C(ha:EB a x):Ct F 176 [eE a] (one (.q (eE (whole a)))):=⟨own_whole,Spec.pure (eE_p (gP ha).1) λw _=>whole_f ha w⟩
omit [Pst F] in
theorem hash_C(ha:EB a x):Ct F 143 [eE a] (one (.q (eY 32 (enc x)))):=⟨own_hash,by
 obtain⟨hl,hb,hL⟩:=gP ha;have hbl:(enc x).length=32:=gM x
 have hby:∀k,k<4->∀j,j<8->((enc x)[8*k+j]!).toNat=wd (lv (whole a)) k/2^(8*j)%256:=λk hk j hj=>by
  rw [wd_byte _ _ _ hj,hL];exact bytes_get 32 x.val (by omega)
 have hC:=ewhole_C (F:=F) ha;generalize enc x=e at *;generalize whole a=l at *;have fok:∀n,OkP [.agg 32 (By (fb e n)).toArray]:=λn=>(eY_ok (fb_len e n)).1;refine zQ [eE a] 51 Tryz.func143 rfl (by rw [Tryz.ntmps143];rfl) (one_ok (eE_p ha.len)) λB=>?_;refine zA rfl ?_;refine s_reg λK hK=>l_X hC (λ_=>rfl) rfl λ_=>l_N hK rfl ?_;refine zA rfl (zM λK1 hK1=>?_);refine zA rfl (zN ?_)
 let W:SE->Nat->Env:=λE n=>⟨E++[(2,.a 2 0),(3,.a 3 0),(4,.a 4 0)],[⟨4,none,45,[.agg 32 (By (fb e n)).toArray]⟩,⟨3,none,193,[.agg 5 (Us l).toArray]⟩,⟨2,none,45,[.agg 32 (By (aA 32 0)).toArray]⟩],[],F,λ_=>True⟩
 let V:Nat->Env:=λk=>W [(11,.v (.int .i64 ((k:Nat):Int)))] (8*k)
 have eL:(some ⟨4,none,45,[.agg 32 (By (aA 32 0)).toArray]⟩:Option LV)=some ⟨4,none,45,[.agg 32 (By (fb e (8*0))).toArray]⟩:=by rw [fb_zero]
 refine c_weak (e':=V 0) ⟨zE rfl, ⟨eL,rfl,rfl,rfl,rfl,rfl,trivial⟩,.refl _,λ_ h _=>h, zU⟩ (s_loop (λk=>4-k) V (λk=>k<=4) ?_ 0 (aI _))
 intro k hk
 refine zA rfl (zM λK2 hK2=>?_);refine zW ((k:Int)<4) rfl (λhlt=>?_) (λhge=>?_)
 ·have hlt:k<4:=by omega
  have hwd:=wd_limbs hl hb hlt;have hW:=hby k hlt;have q:∀i,i<5->(catP [.agg 5 (Us l).toArray])[0+i]?=some (.int .u64 ((l[i]! : Nat):Int)):=λi hi=>Us_in (by rw [hl];exact hi);have r1:=q (64*k/51) (by omega);have r2:=q (64*k/51+1) (by omega)
  have hr:64*k%51<=51:=by omega
  obtain⟨wk,hwk⟩:∃wk,wk=wd (lv l) k:=⟨_,rfl⟩;rw [<-hwk] at hwd hW;refine zO (hK2 _ (zM λK3 hK3=>?_));refine zN (zA rfl ?_);refine s_reg λK hK=>l_auto2 rfl (l_num 6 ((64*k:Nat):Int) rfl (mulI 64 k (by omega)) (zJ (hK _ ?_)));refine s_N 19 [] (by kernel_rfl) λK hK G S w0 hst=>?_;refine n_auto2 hst rfl (n_num 17 ((64*k/51:Nat):Int) rfl (quoI (64*k) 51 (by omega)) (n_cell hst rfl arr5 (by show 64*k/51<5;omega) _ r1 ?_));refine n_auto2 hst rfl (n_num 26 ((64*k/51+1:Nat):Int) rfl ((congrArg (λx=>IntKind.i64.wrap (x+1)) (quoI (64*k) 51 (by omega))).trans (addI _ 1 (by omega))) (n_cell hst rfl arr5 (by show 64*k/51+1<5;omega) _ r2 ?_));refine n_auto zY hst rfl (n_num 32 ((51-64*k%51:Nat):Int) rfl (subI 51 (64*k%51) hr (by omega)) ?_);refine n_auto2 hst rfl (n_num 34 ((wk:Nat):Int) rfl (by rw [kw64.shr (64*k%51) (Nat.le_trans hr (by decide)),cM (by show 51-64*k%51<=64;omega),<-hwd,Int.natCast_ediv,Int.natCast_pow];rfl) (n_N hst rfl hK rfl ?_));refine zA rfl (zN ?_)
  let V2:Nat->Env:=λj=>W [(35,.v (.int .i64 ((j:Nat):Int))),(11,.v (.int .i64 ((k:Nat):Int))),(5,.v (.int .i64 ((k:Nat):Int))),(7,.v (.int .u64 ((wk:Nat):Int)))] (8*k+j)
  refine c_weak (e':=V2 0) ⟨zE rfl, zL rfl rfl, .refl _,λ_ h _=>h,λ_ h=>h⟩ (s_loop (λj=>8-j) V2 (λj=>j<=8) ?_ 0 (aI _))
  intro j hj
  refine zA rfl (zM λK4 hK4=>?_);refine zW ((j:Int)<8) rfl (λhlj=>?_) (λhge=>?_)
  ·have hlj:j<8:=by omega
   have hbj:=hW j hlj;refine zO (hK4 _ (zM λK5 hK5=>?_));refine zN (zA rfl ?_);refine s_lit (zB rfl (l_num 44 ((8*j:Nat):Int) rfl (mulI 8 j (by omega)) ?_));refine l_auto2 rfl (l_num 41 ((8*k+j:Nat):Int) rfl ((congrArg (λx=>IntKind.i64.wrap (x+(j:Int))) (mulI 8 k (by omega))).trans (addI _ j (by omega))) ?_);refine l_num 46 (((e[8*k+j]!).toNat:Nat):Int) rfl (by rw [kw64.shr (8*j) (by omega),IntKind.wrap_u8',hbj];omega) ?_;refine l_put rfl arr32 (by show 8*k+j<32;omega) [.agg 32 (By (fb e (8*k+(j+1)))).toArray] (fok _) ?_ ?_ (l_E rfl (hK5 _ ?_))
   ·show 0+(8*k+j)<(By (fb e (8*k+j))).toArray.size
    rw [aT,By_len,fb_len]
    omega
   ·show By (fb e (8*k+j+1))=(By (fb e (8*k+j))).set (0+(8*k+j)) (.int .u8 ((e[8*k+j]!).toNat:Int))
    rw [aZ,By,By,<-fb_set,dM]
   refine zD rfl ?_;exact zX (j+1) hlj (by show 8-(j+1)<8-j;omega) ⟨⟨congrArg (λx=>some (SV.v (.int .i64 x))) (addI j 1 (by omega)),rfl,rfl,rfl,rfl,rfl,rfl,trivial⟩,zL rfl rfl, .refl _,λ_ h _=>h,λ_ h=>h⟩
  ·obtain rfl:j=8:=by omega
   refine s_exit (zS (zS (k_out (hK3 _ ?_))));refine zD rfl ?_;exact zX (k+1) hlt (by show 4-(k+1)<4-k;omega) ⟨⟨congrArg (λx=>some (SV.v (.int .i64 x))) (addI k 1 (by omega)),rfl,rfl,rfl,trivial⟩,zL rfl rfl, .refl _,λ_ h _=>h,λ_ h=>h⟩
 ·obtain rfl:k=4:=by omega
  have eL2:(some ⟨4,none,45,[.agg 32 (By (fb e (8*4))).toArray]⟩:Option LV)=some ⟨4,none,45,[.agg 32 (By e).toArray]⟩:=by rw [show 8*4=32 from rfl,fb_all hbl]
  refine s_exit (zS (zS (k_out (hK1 _ ?_))));refine c_weak (e':=⟨[(2,.a 2 0),(4,.a 4 0)],[⟨4,none,45,[.agg 32 (By e).toArray]⟩,⟨2,none,45,[.agg 32 (By (aA 32 0)).toArray]⟩],[],F,λ_=>True⟩) ⟨⟨rfl,rfl,trivial⟩,⟨eL2,rfl,rfl,rfl,trivial⟩,.refl _,λ_ h _=>h,λ_ h=>h⟩ ?_;refine zA rfl (zP ?_)
  exact zR zY () rfl (by decide) rfl rfl rfl (λ_ _ _=>trivial) λ_ _=>trivial⟩
end
end Go.Proofs.YtlhlkofpjhpaoaaGreatDoor
namespace Go.Proofs.YtlhlkofpjhpaoaaGreatDoor
open Go.RowKit Nums
end Go.Proofs.YtlhlkofpjhpaoaaGreatDoor
namespace Nums
end Nums
namespace Nums
end Nums
namespace Nums
end Nums
namespace Go.Proofs.YtlhlkofpjhpaoaaGreatDoor
open Go.RowKit Go.IntWalk Nums
end Go.Proofs.YtlhlkofpjhpaoaaGreatDoor
namespace Nums
end Nums
namespace Go.Proofs.YtlhlkofpjhpaoaaGreatDoor
open Go.RowKit Go.IntWalk Nums
def isGood(b:List UInt8):Bool:=decide ((b[31]!).toNat<128)&&decide (enc (fof (le b%57896044618658097711785492504343953926634992332820282019728792003956564819968))=b)
theorem wd_more(T y q r:Nat)(hr:r<8)(hT:T<256^(8*q+r))(hy:y<256)(j:Nat) :
  wd (T+256^(8*q+r)*y) j=if j=q then wd T j+256^r*y else wd T j:=by
 have hp:(256:Nat)^(8*q+r)=18446744073709551616^q*256^r:=by rw [j9,mL]
 have hr8:(256:Nat)^(r+1)<=18446744073709551616:=iC (by omega) (show r+1<=8 by omega);have hr9:(256:Nat)^(r+1)=256^r*256:=cN ..;have hm:(256:Nat)^r*y<=256^r*255:=iW (aF _) (by omega);rw [hp] at hT ⊢;have hPq:0<(18446744073709551616:Nat)^q:=tO (by omega)
 unfold wd
 by_cases hjq:j=q
 ·subst hjq
  rw [if_pos rfl,fQ,pN _ _ hPq];have hz:T/18446744073709551616^j<256^r:=pM hT;rw [aY (by omega),aY (by omega)]
 ·rw [if_neg hjq]
  rcases Nat.lt_or_gt_of_ne hjq with hlt|hgt
  ·obtain⟨d,rfl⟩:∃d,q=j+1+d:=⟨q-j-1,by omega⟩
   have e:(18446744073709551616:Nat)^(j+1+d)*256^r*y=18446744073709551616^j*(18446744073709551616*(18446744073709551616^d*256^r*y)):=by
    rw [j9,cN];simp only [fQ]
   rw [e,pN _ _ (tO (by omega)),Nat.add_mul_mod_self_left]
  ·obtain⟨d,rfl⟩:∃d,j=q+1+d:=⟨j-q-1,by omega⟩
   have e:(18446744073709551616:Nat)^(q+1+d)=18446744073709551616^q*18446744073709551616*18446744073709551616^d:=by rw [j9,cN]
   have hd:0<(18446744073709551616:Nat)^d:=tO (by omega)
   have hb:18446744073709551616^q*18446744073709551616<=(18446744073709551616:Nat)^(q+1+d):=by
    rw [e];exact Nat.le_mul_of_pos_right _ hd
   have h1:18446744073709551616^q*256^r+18446744073709551616^q*256^r*y<=18446744073709551616^q*18446744073709551616:=by
    rw [fQ,<-Nat.mul_add];exact iW (aF _) (by omega)
   rw [Nat.div_eq_of_lt (by omega),Nat.div_eq_of_lt (by omega)]
theorem le_take{b:List UInt8}{n:Nat}(h:n<b.length):le (b.take (n+1))=le (b.take n)+256^n*(b[n]!).toNat:=by
 rw [List.take_succ_eq_append_getElem h,gR,aU,cM (by omega),getElem!_pos b n h]
 show le (b.take n)+256^n*((b[n]).toNat+256*0)=_
 rw [Nat.mul_zero,Nat.add_zero]
def wds(b:List UInt8)(n:Nat):List Nat:=(mF 5).map λj=>wd (le (b.take n)) j
theorem wds_len(b:List UInt8)(n:Nat):(wds b n).length=5:=by simp [wds]
theorem wds_get(b:List UInt8)(n:Nat){j:Nat}(h:j<5):(wds b n)[j]! = wd (le (b.take n)) j:=by
 rw [getElem!_pos _ j (by rw [wds_len];exact h)]
 simp [wds]
theorem wds_zero(b:List UInt8):wds b 0=[0,0,0,0,0]:=by
 have e:∀j,wd (le (b.take 0)) j=0:=λj=>by
  show 0/_%_=0
  rw [Nat.zero_div]
 simp only [wds,e]
 rfl
theorem wd_small{T n:Nat}(hT:T<256^n):wd T (n/8)<2^(8*(n%8)):=by
 have e:(256:Nat)^n=18446744073709551616^(n/8)*2^(8*(n%8)):=by
  have h:(256:Nat)^n=256^(8*(n/8)+n%8):=by congr 1;omega
  rw [h,j9,mL,mL]
 rw [e] at hT;have hz:=pM hT;exact Nat.lt_of_le_of_lt (Nat.mod_le _ _) hz
theorem wds_set{b:List UInt8}{n:Nat}(h:n<b.length):(wds b n).set (n/8) (wd (le (b.take n)) (n/8)+2^(8*(n%8))*(b[n]!).toNat)=wds b (n+1):=by
 have hT:=n5 (b.take n);rw [aU,cM (by omega)] at hT
 have e2:(256:Nat)^n=256^(8*(n/8)+n%8):=by congr 1;omega
 have e3:(2:Nat)^(8*(n%8))=256^(n%8):=by rw [mL]
 have hy:=(b[n]!).toNat_lt
 apply cJ (by simp [wds])
 intro j h1 h2
 have hj:j<5:=by simpa [wds] using h2
 rw [List.getElem_set];simp only [wds,List.getElem_map,List.getElem_range];rw [le_take h,e2,wd_more _ _ _ _ (by omega) (by rw [<-e2];exact hT) hy]
 by_cases hjq:n/8=j
 ·subst hjq
  rw [if_pos rfl,if_pos rfl,e3]
 ·rw [if_neg hjq,if_neg (λe=>hjq e.symm)]
theorem or_byte{old y m:Nat}(hm:m<=56)(hold:old<2^m)(hy:y<256) :
  bits .or .u64 (old:Int) (IntKind.u64.wrap ((y:Int)*2^m))=((old+2^m*y:Nat):Int):=by
 have hp:(2:Nat)^m<=2^56:=iC (by omega) hm
 have h56:(2:Nat)^56=72057594037927936:=by decide
 have hx:y*2^m<=255*2^56:=iW (by omega) hp
 have f2:IntKind.u64.wrap ((y:Int)*2^m)=((y*2^m:Nat):Int):=by
  have:((y:Int)*2^m)=((y*2^m:Nat):Int):=by simp
  rw [this,wrapN _ (by omega)]
 rw [f2,u64_or_nat _ _ (by omega) (by omega),Nat.or_comm,nat_join m _ _ (Nat.mul_mod_left ..) hold,Nat.add_comm,eN]
def lbs(L:Nat):List Nat:=(mF 5).map λi=>L/2251799813685248^i%2251799813685248
theorem lbs_eb(L:Nat):EB (lbs L) (fof (L%57896044618658097711785492504343953926634992332820282019728792003956564819968)):=by
 refine EB.mk5 (a0:=L/2251799813685248^0%2251799813685248) (a1:=L/2251799813685248^1%2251799813685248) (a2:=L/2251799813685248^2%2251799813685248) (a3:=L/2251799813685248^3%2251799813685248) (a4:=L/2251799813685248^4%2251799813685248) (by omega) (by omega) (by omega) (by omega) (by omega) ?_
 congr 1
 rw [lv5];simp only [cI]
 omega
theorem lb_words{L:Nat}(hL:L<115792089237316195423570985008687907853269984665640564039457584007913129639936){i:Nat}(hi:i<5) :
  bits .and .u64 (bits .or .u64 ((wd L (51*i/64):Nat)/2^(51*i%64):Int) (IntKind.u64.wrap ((wd L (51*i/64+1):Nat)*2^(64-51*i%64):Int))) 2251799813685247=((L/2251799813685248^i%2251799813685248:Nat):Int):=by
 have key:∀(k x y r t R:Nat),y*2^t%18446744073709551616%2^k=0->x/2^r<2^k->x/2^r<18446744073709551616->y*2^t%18446744073709551616+x/2^r<18446744073709551616->(y*2^t%18446744073709551616+x/2^r)%2251799813685248=R ->
   bits .and .u64 (bits .or .u64 ((x:Nat)/2^r:Int) (IntKind.u64.wrap ((y:Nat)*2^t:Int))) 2251799813685247=(R:Int):=by
  intro k x y r t R e1 e2 e3 e5 e4
  have f1:((x:Int)/2^r)=((x/2^r:Nat):Int):=by simp
  have f2:IntKind.u64.wrap ((y:Int)*2^t)=((y*2^t%18446744073709551616:Nat):Int):=by
   rw [a8]
   simp
  rw [f1,f2,u64_or_nat _ _ e3 (by omega),Nat.or_comm,nat_join k _ _ e1 e2,maskW _ e5,e4]
 have h5:i=0\/i=1\/i=2\/i=3\/i=4:=by omega
 unfold wd
 rcases h5 with rfl|rfl|rfl|rfl|rfl
 ·exact key 64 (L/18446744073709551616^0%18446744073709551616) (L/18446744073709551616^1%18446744073709551616) 0 64 _ (by omega) (by omega) (by omega) (by omega) (by simp only [cI];omega)
 ·exact key 13 (L/18446744073709551616^0%18446744073709551616) (L/18446744073709551616^1%18446744073709551616) 51 13 _ (by omega) (by omega) (by omega) (by omega) (by simp only [cI];omega)
 ·exact key 26 (L/18446744073709551616^1%18446744073709551616) (L/18446744073709551616^2%18446744073709551616) 38 26 _ (by omega) (by omega) (by omega) (by omega) (by simp only [cI];omega)
 ·exact key 39 (L/18446744073709551616^2%18446744073709551616) (L/18446744073709551616^3%18446744073709551616) 25 39 _ (by omega) (by omega) (by omega) (by omega) (by simp only [cI];omega)
 ·exact key 52 (L/18446744073709551616^3%18446744073709551616) (L/18446744073709551616^4%18446744073709551616) 12 52 _ (by omega) (by omega) (by omega) (by omega) (by simp only [cI];omega)
theorem own_newE:Own 136:=λ_ _=>by go_simp
theorem new_W{F:World->Prop}[Pst F]{b:List UInt8}{α:Type}{g:α->RV}(hb:b.length=32)(hy:isGood b=true->∀r,EB r (fof (le b%57896044618658097711785492504343953926634992332820282019728792003956564819968))->∃v,g v = .t [eE r,.c (.v (.bool true))])(hn:isGood b=false->∃v,g v = .t [eE zl,.c (.v (.bool false))]):Ct F 136 [eY 32 b] { ret:=g }:=⟨own_newE,by
 have hG:isGood b=decide (enc (fof (le b%57896044618658097711785492504343953926634992332820282019728792003956564819968))=b):=by
  unfold isGood
  by_cases he:enc (fof (le b%57896044618658097711785492504343953926634992332820282019728792003956564819968))=b
  ·have h128:(b[31]!).toNat<128:=by
    have:=qM (fof (le b%57896044618658097711785492504343953926634992332820282019728792003956564819968))
    rwa [he] at this
   rw [decide_eq_true h128,Bool.true_and]
  ·rw [decide_eq_false he,Bool.and_false]
 rw [hG] at hy hn;clear hG
 let f:Nat->Nat:=λi=>le b/2251799813685248^i%2251799813685248
 have hE:EB (mx f [0,0,0,0,0] 5) (fof (le b%57896044618658097711785492504343953926634992332820282019728792003956564819968)):=lbs_eb (le b);generalize fof (le b%57896044618658097711785492504343953926634992332820282019728792003956564819968)=z at *;have hL:=n5 b;rw [hb] at hL;have hC:Ct F 143 [eE (mx f [0,0,0,0,0] 5)] (one (.q (eY 32 (enc z)))):=hash_C hE;have hez:=gM z;generalize enc z=ez at *;refine zQ [eY 32 b] 60 Tryz.func136 rfl (by rw [Tryz.ntmps136];rfl) (one_ok (eY_ok hb).1) λB=>?_;refine zA rfl (zA rfl ?_);refine zM λK1 hK1=>?_;refine zA rfl (zN ?_)
 let V:Nat->Env:=λn=>⟨[(9,.v (.int .i64 ((n:Nat):Int))),(1,.a 1 0),(2,.a 2 0),(4,.a 4 0)],[⟨4,none,191,[.agg 5 (Us (wds b n)).toArray]⟩,⟨2,none,193,[.agg 5 (Us zl).toArray]⟩,⟨1,none,45,[.agg 32 (By b).toArray]⟩],[],F,λ_=>True⟩
 have eL:(some ⟨4,none,191,[.agg 5 (Us [0,0,0,0,0]).toArray]⟩:Option LV)=some ⟨4,none,191,[.agg 5 (Us (wds b 0)).toArray]⟩:=by rw [wds_zero]
 refine c_weak (e':=V 0) ⟨zE rfl, ⟨eL,rfl,rfl,rfl,rfl,rfl,trivial⟩,.refl _,λ_ h _=>h, zU⟩ (s_loop (λn=>32-n) V (λn=>n<=32) ?_ 0 (aI _))
 intro n hn2
 refine zA rfl (zM λK2 hK2=>?_);refine zW ((n:Int)<32) rfl (λhlt=>?_) (λhge=>?_)
 ·have hlt:n<32:=by omega
  have hT:=n5 (b.take n);rw [aU,cM (by omega)] at hT;have hsm:=wd_small hT
  have h0:n/8<5:=by omega
  have ra:(catP [.agg 5 (Us (wds b n)).toArray])[0+n/8]?=some (.int .u64 ((wd (le (b.take n)) (n/8):Nat):Int)):=(Us_in (by rw [wds_len];exact h0)).trans (by rw [wds_get b n h0])
  have rb:(catP [.agg 32 (By b).toArray])[0+n]?=some (.int .u8 ((b[n]!).toNat:Int)):=by rw [aZ];exact By_get (by omega)
  have hy8:=(b[n]!).toNat_lt
  have hm:8*(n%8)<=56:=by omega
  have hmm:8*(n%8)<=64:=by omega
  refine zO (hK2 _ (zM λK3 hK3=>?_));refine zN (zA rfl ?_);refine s_drawnN 13 (by kernel_rfl) λG S w0 hst=>?_;refine n_auto zY hst rfl (n_num 13 ((n/8:Nat):Int) rfl (quoI n 8 (by omega)) (n_cell hst rfl arr5 h0 _ ra ?_));refine n_auto zY hst rfl (n_cell hst rfl arr32 hlt _ rb ?_);refine n_auto zY hst rfl (n_num 22 ((8*(n%8):Nat):Int) rfl ((mulI (n%8) 8 (by omega)).trans (by rw [eN])) ?_);refine n_auto2 hst rfl (n_num 24 ((wd (le (b.take n)) (n/8)+2^(8*(n%8))*(b[n]!).toNat:Nat):Int) rfl (by rw [wrapN _ (by omega),show min (8*(n%8)) IntKind.u64.bits=8*(n%8) from cM hmm];exact or_byte hm hsm hy8) (n_L hst rfl ?_));refine l_put rfl arr5 h0 [.agg 5 (Us (wds b (n+1))).toArray] (eE_p (wds_len _ _)) ?_ ?_ (zJ (hK3 _ ?_))
  ·show 0+n/8<(Us (wds b n)).toArray.size
   rw [aT,Us_len,wds_len]
   omega
  ·show Us (wds b (n+1))=(Us (wds b n)).set (0+n/8) (.int .u64 _)
   rw [aZ,Us,Us,<-wds_set (by omega),dM]
  refine zD rfl ?_;exact zX (n+1) hlt (by show 32-(n+1)<32-n;omega) ⟨⟨congrArg (λx=>some (SV.v (.int .i64 x))) (addI n 1 (by omega)),rfl,rfl,rfl,trivial⟩,zL rfl rfl, .refl _,λ_ h _=>h,λ_ h=>h⟩
 obtain rfl:n=32:=by omega
 have hT:b.take 32=b:=bG (by omega);have rw5:∀j,j<5->(catP [.agg 5 (Us (wds b 32)).toArray])[0+j]?=some (.int .u64 ((wd (le b) j:Nat):Int)):=λj hj=>(Us_in (by rw [wds_len];exact hj)).trans (by rw [wds_get b 32 hj,hT]);refine s_exit (zS (zS (k_out (hK1 _ ?_))));refine zA rfl (zM λK1 hK1=>?_);refine zA rfl (zN ?_)
 let U:Nat->Env:=λk=>⟨[(27,.v (.int .i64 ((k:Nat):Int))),(1,.a 1 0),(2,.a 2 0),(4,.a 4 0),(6,.a 6 0)],[⟨6,none,193,[.agg 5 (Us (mx f [0,0,0,0,0] k)).toArray]⟩,⟨4,none,191,[.agg 5 (Us (wds b 32)).toArray]⟩,⟨2,none,193,[.agg 5 (Us zl).toArray]⟩,⟨1,none,45,[.agg 32 (By b).toArray]⟩],[],F,λ_=>True⟩
 refine c_weak (e':=U 0) ⟨zE rfl, zL rfl rfl, .refl _,λ_ h _=>h,λ_ h=>h⟩ (s_loop (λk=>5-k) U (λk=>k<=5) ?_ 0 (aI _))
 intro k hk
 refine zA rfl (zM λK2 hK2=>?_);refine zW ((k:Int)<5) rfl (λhlt=>?_) (λhge=>?_)
 ·have hlt:k<5:=by omega
  have hlb:=lb_words hL hlt
  have h0:51*k/64<5:=by omega
  have h1:51*k/64+1<5:=by omega
  have hr:51*k%64<=64:=by omega
  refine zO (hK2 _ (zM λK3 hK3=>?_));refine zN (zA rfl ?_);refine s_reg λK hK=>l_auto2 rfl (l_num 8 ((51*k:Nat):Int) rfl (mulI 51 k (by omega)) (zJ (hK _ ?_)));refine s_drawnN 20 (by kernel_rfl) λG S w0 hst=>?_;refine n_auto zY hst rfl (n_num 34 ((51*k/64:Nat):Int) rfl (quoI (51*k) 64 (by omega)) (n_cell hst rfl arr5 h0 _ (rw5 _ h0) ?_));refine n_auto2 hst rfl (n_num 42 ((51*k/64+1:Nat):Int) rfl ((congrArg (λx=>IntKind.i64.wrap (x+1)) (quoI (51*k) 64 (by omega))).trans (addI _ 1 (by omega))) (n_cell hst rfl arr5 h1 _ (rw5 _ h1) ?_));refine n_auto zY hst rfl (n_num 47 ((64-51*k%64:Nat):Int) rfl (subI 64 (51*k%64) hr (by omega)) ?_);refine n_auto2 hst rfl (n_num 50 ((f k:Nat):Int) rfl (by rw [kw64.shr (51*k%64) hr,cM (by show 64-51*k%64<=64;omega),Int.natCast_ediv,Int.natCast_pow];exact hlb) (n_L hst rfl ?_));refine l_put rfl arr5 hlt [.agg 5 (Us (mx f [0,0,0,0,0] (k+1))).toArray] (eE_p (mx_len _ _ _)) ?_ ?_ (zJ (hK3 _ ?_))
  ·show 0+k<(Us (mx f [0,0,0,0,0] k)).toArray.size
   rw [aT,Us_len,mx_len]
   omega
  ·show Us (mx f [0,0,0,0,0] (k+1))=(Us (mx f [0,0,0,0,0] k)).set (0+k) (.int .u64 ((f k:Nat):Int))
   rw [aZ,Us,Us,<-mx_set,dM]
  refine zD rfl ?_;exact zX (k+1) hlt (by show 5-(k+1)<5-k;omega) ⟨⟨congrArg (λx=>some (SV.v (.int .i64 x))) (addI k 1 (by omega)),rfl,rfl,rfl,rfl,trivial⟩,zL rfl rfl, .refl _,λ_ h _=>h,λ_ h=>h⟩
 obtain rfl:k=5:=by omega
 refine s_exit (zS (zS (k_out (hK1 _ ?_))));refine zM λK1 hK1=>?_;refine s_N 4 [] (by kernel_rfl) λK hK G S w0 hst=>n_X hst hC rfl λ_=>?_;refine n_auto2 hst rfl (n_op hst (.b (!decide (ez=b))) trivial rfl rfl rfl (run_neqY rfl rfl rfl Tryz.underlying45 (by kernel_rfl) hez hb) ?_);refine n_N hst rfl hK rfl ?_;refine s_if (!decide (ez=b)) rfl (λh=>?_) (λh=>?_)
 ·obtain⟨v,hv⟩:=hn (by rwa [Bool.not_eq_true'] at h)
  refine zA rfl (zP ?_);exact zR zY v rfl (by decide) rfl hv rfl (λ_ _ _=>trivial) λ_ _=>trivial
 ·obtain⟨v,hv⟩:=hy (by rwa [Bool.not_eq_false'] at h) _ hE
  refine zO (hK1 _ ?_);refine zA rfl (zP ?_)
  exact zR zY v rfl (by decide) rfl hv rfl (λ_ _ _=>trivial) λ_ _=>trivial⟩
theorem info64:(Tryz.prog.info? 123).map (λi=>(i.zero,i.size,i.bytes))=some (some (.int .u64 0),1,8):=by kernel_rfl
theorem partU_at(w:World)(l:List Nat)(i:Nat)(hi:i<l.length):(part 123 (Us l).toArray (i*1)).run Tryz.prog w = .ok (.int .u64 (l[i]:Nat)) w:=by
 have hagg:(isAgg 123).run Tryz.prog w = .ok false w:=by
  unfold isAgg
  rw [aG,run_underlying Tryz.underlying123 w]
  rfl
 have hc:(Us l)[i]?=some (.int .u64 (l[i]:Nat)):=by simp [Us,List.getElem?_eq_getElem hi]
 unfold part
 simp [aG,hagg,hc,aH]
theorem oneU_eq(d x y:Nat)(w:World):(cC (d+1) 123 (.int .u64 (x:Int)) (.int .u64 (y:Int))).run Tryz.prog w = .ok (decide (x=y)) w:=by
 simp [cC,run_underlying Tryz.underlying123]
 by_cases h:x=y
 ·simp [h]
 ·simp [h]
  omega
theorem equalIn_words(d n t:Nat)(l m:List Nat)(ht:Tryz.prog.underlying t=some (.array n 123))(hl:l.length=n)(hm:m.length=n)(w:World) :
  (cC (d+2) t (.agg (Us l).toArray) (.agg (Us m).toArray)).run Tryz.prog w = .ok (decide (l=m)) w:=by
 obtain⟨i0,hi0,hz0,hz1,hz2⟩:=info_parts info64
 have hI:∀(I:List Nat),(∀i∈I,i<n)->(forIn I ((none:Option Bool),()) λi _=>do
   let a <-part 123 (Us l).toArray (i*1)
   let b <-part 123 (Us m).toArray (i*1)
   let r <-cC (d+1) 123 a b
   if (!r)=true then pure (ForInStep.done (some false,())) else pure (ForInStep.yield (none,()))).run Tryz.prog w = .ok (if ∀i∈I,l[i]! = m[i]! then(none,()) else(some false,())) w:=by
  intro I
  induction I with
  | nil=>intro _;simp [aH]
  | cons i I ih =>
   intro h
   have hi:i<l.length:=by have:=h i (by simp);omega
   have hj:i<m.length:=by have:=h i (by simp);omega
   have hp:=partU_at w l i hi;have hq:=partU_at w m i hj;have he:=oneU_eq d l[i] m[i] w;have e1:l[i]! = l[i]:=getElem!_pos l i hi;have e2:m[i]! = m[i]:=getElem!_pos m i hj
   by_cases hx:l[i]=m[i]
   ·rw [show decide (l[i]=m[i])=true by simp [hx]] at he
    simp only [tL,aG,hp,hq,aD,he,Bool.not_true,Bool.false_eq_true,if_false,aH];rw [ih (λj hj=>h j (by simp [hj]))]
    congr 1
    by_cases ha:∀i∈I,l[i]! = m[i]!
    ·have hb:∀j∈i::I,l[j]! = m[j]!:=by
      intro j hj
      rcases List.mem_cons.mp hj with rfl|hj
      ·rw [e1,e2,hx]
      ·exact ha j hj
     rw [if_pos ha,if_pos hb]
    ·rw [if_neg ha,if_neg (λhb=>ha λj hj=>hb j (aJ _ hj))]
   ·rw [show decide (l[i]=m[i])=false by simp [hx]] at he
    simp only [tL,aG,hp,hq,aD,he,Bool.not_false,if_true,aH];rw [if_neg (λhb=>hx (by have:=hb i (aP ..);rw [e1,e2] at this;exact this))]
 rw [cC];simp only [aG,run_underlying ht,aD,sizeOf,typeInfo,run_program,hi0,hz1,aH,Std.Legacy.Range.forIn_eq_forIn_range']
 rw [hI _ (λi hi=>by
  have:=iF.1 hi
  simp [eQ] at this
  omega)]
 by_cases hlm:l=m
 ·subst hlm
  simp [aH]
 ·have hne:¬ ∀i∈List.range' 0 n 1,l[i]! = m[i]!:=λha=>hlm (by
   apply cJ (by rw [hl,hm])
   intro i h1 h2
   have:=ha i (iF.2 (by omega))
   rwa [getElem!_pos l i h1,getElem!_pos m i h2] at this)
  have hs:eQ [:n]=n:=by simp [eQ]
  rw [hs,if_neg hne,show decide (l=m)=false by simp [hlm]]
  rfl
theorem partEl(w:World)(l:List Nat)(hl:l.length=5):(part 191 (Us l).toArray 0).run Tryz.prog w = .ok (.agg (Us l).toArray) w:=by
 have hagg:(isAgg 191).run Tryz.prog w = .ok true w:=by
  unfold isAgg
  rw [aG,run_underlying Tryz.underlying191 w]
  rfl
 have hs:(sizeOf 191).run Tryz.prog w = .ok 5 w:=by kernel_rfl
 have he:(Us l).toArray.extract 0 (0+5)=(Us l).toArray:=by
  apply Array.ext'
  simp only [List.extract_toArray,rP,aZ,Nat.sub_zero,kT];exact bG (by rw [Us_len,hl];exact aF _)
 unfold part
 simp only [aG,hagg,aD,if_true,hs,aH,he]
theorem run_field_el(l:List Nat)(hl:l.length=5)(w:World):(tR 193 (.agg (Us l).toArray) 0).run Tryz.prog w = .ok (.agg (Us l).toArray) w:=by
 have hp:=partEl w l hl
 unfold tR
 simp only [aG,run_underlying Tryz.underlying193,aD];exact hp
theorem equal_el(l m:List Nat)(hl:l.length=5)(hm:m.length=5)(w:World) :
  (cC 10000 193 (.agg (Us l).toArray) (.agg (Us m).toArray)).run Tryz.prog w = .ok (decide (l=m)) w:=by
 have he:=equalIn_words 9997 5 191 l m Tryz.underlying191 hl hm w
 have hst:Tryz.prog.stoodInHeld 193 = false:=by kernel_rfl
 rw [cC];simp only [aG,run_underlying Tryz.underlying193,aD,run_program,hst];have he':(cC 9999 191 (.agg (Us l).toArray) (.agg (Us m).toArray)).run Tryz.prog w = .ok (decide (l=m)) w:=he;rw [if_neg (by decide)];have hp:=partEl w l hl;have hq:=partEl w m hm;generalize decide (l=m)=q at *
 cases q<;>simp [aG,hp,hq,he',aH]
theorem lv_inj:∀{a b:List Nat},a.length=b.length->(∀y∈a,y<2251799813685248)->(∀y∈b,y<2251799813685248)->lv a=lv b->a=b
 | [],[],_,_,_,_=>rfl
 | x::a,y::b,hl,ha,hb,h=>by
  have h1:=ha x (aP ..);have h2:=hb y (aP ..);have h3:x+2251799813685248*lv a=y+2251799813685248*lv b:=h
  have h4:x=y:=by omega
  have h5:lv a=lv b:=by omega
  rw [h4,lv_inj (by simpa using hl) (λz hz=>ha z (aJ _ hz)) (λz hz=>hb z (aJ _ hz)) h5]
theorem whole_iff{a b:List Nat}{x y:F}(ha:EB a x)(hb:EB b y):whole a=whole b↔x=y:=by
 obtain⟨l1,b1,v1⟩:=gP ha;obtain⟨l2,b2,v2⟩:=gP hb
 constructor
 ·intro h
  apply Fin.ext
  rw [<-v1,<-v2,h]
 ·rintro rfl
  exact lv_inj (by rw [l1,l2]) b1 b2 (by rw [v1,v2])
theorem is_f{a b:List Nat}{x y:F}(ha:EB a x)(hb:EB b y)(w:World) :
  Calls Tryz.prog 177 #[.agg (Us a).toArray,.agg (Us b).toArray] w λe w'=>e = .returned (.bool (decide (x=y)))/\Below w.heap.size w w':=by
 have hq:decide (x=y)=decide (whole a=whole b):=decide_eq_decide.2 (whole_iff ha hb).symm;rw [hq];clear hq;have l1:=(gP ha).1;have l2:=(gP hb).1;have hE:=λw1=>equal_el (whole a) (whole b) l1 l2 w1;have H1:=λw1=>whole_f ha w1;have H2:=λw1=>whole_f hb w1;generalize decide (whole a=whole b)=q at *;generalize whole a=u at *;generalize whole b=v at *;have hza:=ha.len;have hzb:=hb.len;have h0:Blk ((w.alloc (iJ (Us a).toArray 193)).alloc (iJ (Us b).toArray 193)) w.heap.size 193 (Us a).toArray:=heap_alloc2_old w _ _;have h1:Blk ((w.alloc (iJ (Us a).toArray 193)).alloc (iJ (Us b).toArray 193)) (w.heap.size+1) 193 (Us b).toArray:=heap_alloc2_new w _ _;have hbel:Below w.heap.size w ((w.alloc (iJ (Us a).toArray 193)).alloc (iJ (Us b).toArray 193)):=((Below.refl _ _).alloc (aF _) _).alloc (by simp) _;clear ha hb
 go_enter Tryz.func177,Tryz.ntmps177
 go_wp2
 refine reg_q (by kernel_rfl) (tail_ok (by kernel_rfl)) (λ_ _ d _ _ h=>by cases d<;>exact h) ?_;refine b_el w.heap.size hza _ rfl rfl rfl (λ_ h=>h.blk h0) ?_;simp only [pC,dL,fH,fI];refine b_one rfl own_whole (λw1=>H1 w1) rfl rfl ?_;simp only [pC,dL,fH,fI];refine b_el (w.heap.size+1) hzb _ rfl rfl rfl (λ_ h=>h.blk h1) ?_;simp only [pC,dL,fH,fI];refine b_one rfl own_whole (λw1=>H2 w1) rfl rfl ?_;simp only [pC,dL,fH,fI];refine b_eq (Us u).toArray (Us v).toArray rfl rfl rfl rfl (by kernel_rfl) hE ?_;simp only [pC,dL,fH,fI];refine b_assign rfl rfl ?_;simp only [pC,dL,fH,fI];refine wpB_nil ?_
 intro w1 hw1
 have hb2:=below_up hbel hw1
 go_wp2
 go_ret
 exact⟨rfl,hb2⟩
theorem whole_odd{a:List Nat}{x:F}(ha:EB a x):(whole a)[0]! % 2=x.val%2:=by
 obtain⟨l1,_,v1⟩:=gP ha;obtain⟨a0,a1,a2,a3,a4,h⟩:=oF l1;rw [<-v1,h,lv5]
 show a0%2=_
 omega
theorem odd_f{a:List Nat}{x:F}(ha:EB a x)(w:World) :
  Calls Tryz.prog 144 #[.agg (Us a).toArray] w λe w'=>e = .returned (.bool (decide (x.val%2=1)))/\Below w.heap.size w w':=by
 have ho:=whole_odd ha;obtain⟨l1,l2,_⟩:=gP ha;have H1:=λw1=>Lib.hid (whole_f ha w1);rw [<-ho];clear ho;obtain⟨a0,a1,a2,a3,a4,h⟩:=oF l1;rw [h] at H1 l2 ⊢;have ha0:a0<2251799813685248:=l2 a0 (by simp);have e0:(Us [a0,a1,a2,a3,a4]).toArray = #[.int .u64 (a0:Int),.int .u64 (a1:Int),.int .u64 (a2:Int),.int .u64 (a3:Int),.int .u64 (a4:Int)]:=rfl;have e1:[a0,a1,a2,a3,a4][0]! = a0:=rfl;rw [e1];rw [e0] at H1;have hza:=len_us ha.len;have h0:=Blk.new w 193 (Us a).toArray;have hbel:Below w.heap.size w (w.alloc (iJ (Us a).toArray 193)):=(Below.refl _ _).alloc (aF _) _
 have hand:bits .and .u64 (a0:Int) 1=((a0%2:Nat):Int):=by
  have h:=u64_and_nat a0 1 (by omega) (by omega);rw [nat_mask1] at h;exact h
 go_enter Tryz.func144,Tryz.ntmps144
 go_wp2_with (refine wpList_load_row rfl 193 _ rfl w.heap.size rfl 193 (Us a).toArray (0,0) _ h0 Tryz.underlying193 rfl (size_el _ hza) ?_)
 refine(H1 _).out.mono ?_
 rintro e w1 ⟨rfl,hw1⟩
 have hb2:=below_up hbel hw1
 have hfl:∀w1,(tR 193 (.agg #[.int .u64 (a0:Int),.int .u64 (a1:Int),.int .u64 (a2:Int),.int .u64 (a3:Int),.int .u64 (a4:Int)]) 0).run Tryz.prog w1 = .ok (.agg #[.int .u64 (a0:Int),.int .u64 (a1:Int),.int .u64 (a2:Int),.int .u64 (a3:Int),.int .u64 (a4:Int)]) w1 :=
  λw1=>run_field_el [a0,a1,a2,a3,a4] rfl w1
 have hix:∀w1,(Instr.index 191 (.agg #[.int .u64 (a0:Int),.int .u64 (a1:Int),.int .u64 (a2:Int),.int .u64 (a3:Int),.int .u64 (a4:Int)]) (.int .i64 0)).run Tryz.prog w1 = .ok (.int .u64 (a0:Int)) w1:=λw1=>by kernel_rfl
 have hdec:(((a0%2:Nat):Int)==1)=decide (a0%2=1):=by
  rw [Bool.eq_iff_iff]
  simp
  omega
 generalize ha2:a0%2=m at hand;rw [ha2] at hdec;have HD:=Lib.hid (show decide (m=1)=decide (a0%2=1) by rw [ha2]);clear ha2
 go_wp2
 go_ret
 exact⟨congrArg (λq=>rK (Value.bool q)) HD.out,hb2⟩
theorem small1_f(w:World):Calls Tryz.prog 145 #[.int .u64 1] w λe w'=>∃r,EB r 1/\e = .returned (.agg (Us r).toArray)/\Below w.heap.size w w':=by
 have h:=small_f 1 (by omega) w;rw [gD] at h;exact h
section
variable{F:World->Prop}
theorem small1_C:Ct F 145 [.c (.v (.int .u64 1))] (elP 1):=⟨own_small,Spec.el λw _=>small1_f w⟩
end
section
variable{F:World->Prop}{a:List Nat}{x:Nums.F}
theorem own_odd:Own 144:=λ_ _=>by go_simp
theorem odd_C(ha:EB a x):Ct F 144 [eE a] (one (.q (.c (.b (decide (x.val%2=1)))))):=⟨own_odd,Spec.pure trivial λw _=>odd_f ha w⟩
end
end Go.Proofs.YtlhlkofpjhpaoaaGreatDoor
namespace Nums
namespace Ed
section
variable{n:Nat}[NeZero n]{d:Fin n}
theorem Rep.w9(hn:cB n){x y z t:Fin n}{P:Pt n}(r:Rep x y z P)(ht:t*z=x*y):t=P.x*P.y*z:=by
 refine cancel hn r.z ?_;rw [ht,r.x,r.y]
 grind only
theorem wR(px py qx qy z1 z2:Fin n):(py*z1+px*z1)*(qy*z2+qx*z2)-(py*z1-px*z1)*(qy*z2-qx*z2)=(px*qy+py*qx)*(2*(z1*z2)):=by grind only
theorem wQ(px py qx qy z1 z2:Fin n):(py*z1+px*z1)*(qy*z2+qx*z2)+(py*z1-px*z1)*(qy*z2-qx*z2)=(py*qy+px*qx)*(2*(z1*z2)):=by grind only
theorem uN(px py qx qy z1 z2 d:Fin n):px*py*z1*((qx*qy*z2+qx*qy*z2)*d)=d*px*qx*py*qy*(2*(z1*z2)):=by grind only
theorem uM(z1 z2:Fin n):z1*(z2+z2)=2*(z1*z2):=by grind only
theorem xL(k u:Fin n):u+k*u=(1+k)*u:=by grind only
theorem xM(k u:Fin n):u-k*u=(1-k)*u:=by grind only
theorem Rep.xN(g:Good n d){P Q:Pt n}(hP:On d P)(hQ:On d Q){e f gg h u:Fin n}(hu:u≠0)(he:e=(P.x*Q.y+P.y*Q.x)*u)(hf:f=(1-kk d P Q)*u)(hg:gg=(1+kk d P Q)*u)(hh:h=(P.y*Q.y+P.x*Q.x)*u) :
  Rep (e*f) (gg*h) (f*gg) (Ed.add d P Q):=by
 have hx:=o5 g hP hQ;have hy:=oZ g hP hQ;have n1:=jZ g hP hQ;have n2:=gZ g hP hQ;subst he hf hg hh;refine⟨cP g.pr (cP g.pr n2 hu) (cP g.pr n1 hu),?_,?_⟩
 ·rw [<-hx]
  grind only
 ·rw [<-hy]
  grind only
theorem Rep.plus(g:Good n d){P Q:Pt n}(hP:On d P)(hQ:On d Q){x1 y1 z1 t1 x2 y2 z2 t2:Fin n}(r:Rep x1 y1 z1 P)(h1:t1*z1=x1*y1)(s:Rep x2 y2 z2 Q)(h2:t2*z2=x2*y2){un li z t e f gg h:Fin n}
 (hun:un=(y1-x1)*(y2-x2))(hli:li=(y1+x1)*(y2+x2))(hz:z=z1*(z2+z2))(ht:t=t1*((t2+t2)*d))(he:e=li-un)(hf:f=z-t)(hg:gg=z+t)(hh:h=li+un) :
  Rep (e*f) (gg*h) (f*gg) (Ed.add d P Q)/\e*h*(f*gg)=e*f*(gg*h):=by
 have e1:=r.w9 g.pr h1;have e2:=s.w9 g.pr h2;have hu:(2:Fin n)*(z1*z2)≠0:=cP g.pr g.two (cP g.pr r.z s.z);refine⟨Rep.xN g hP hQ hu ?_ ?_ ?_ ?_,by grind only⟩
 ·rw [he,hli,hun,r.x,r.y,s.x,s.y,wR]
 ·rw [hf,hz,ht,e1,e2,uN,uM,<-xM]
  rfl
 ·rw [hg,hz,ht,e1,e2,uN,uM,<-xL]
  rfl
 ·rw [hh,hli,hun,r.x,r.y,s.x,s.y,wQ]
theorem xS(px py z:Fin n):px*z*(py*z)+px*z*(py*z)=(px*py+py*px)*(z*z):=by grind only
theorem xQ(px py z:Fin n):py*z*(py*z)-px*z*(px*z)=(py*py-px*px)*(z*z):=by grind only
theorem xP(px py z:Fin n):py*z*(py*z)+px*z*(px*z)=(py*py+px*px)*(z*z):=by grind only
theorem xR(k u:Fin n):u+u-(1+k)*u=(1-k)*u:=by grind only
theorem xI{P:Pt n}(hP:On d P):P.y*P.y-P.x*P.x=1+kk d P P:=by
 have h:P.y*P.y-P.x*P.x=1+d*P.x*P.x*P.y*P.y:=hP;rw [h]
 rfl
theorem Rep.dbl(g:Good n d){P:Pt n}(hP:On d P){x y z:Fin n}(r:Rep x y z P){xx yy zz xy e gg h f:Fin n}(hxx:xx=x*x)(hyy:yy=y*y)(hzz:zz=z*z)(hxy:xy=x*y)
 (he:e=xy+xy)(hg:gg=yy-xx)(hh:h=yy+xx)(hf:f=zz+zz-gg):Rep (e*f) (gg*h) (f*gg) (Ed.add d P P)/\e*h*(f*gg)=e*f*(gg*h):=by
 have hu:z*z≠0:=cP g.pr r.z r.z
 have hgg:gg=(1+kk d P P)*(z*z):=by rw [hg,hyy,hxx,r.x,r.y,xQ,xI hP]
 refine⟨Rep.xN g hP hP hu ?_ ?_ hgg ?_,by grind only⟩
 ·rw [he,hxy,r.x,r.y,xS]
 ·rw [hf,hzz,hgg,xR]
 ·rw [hh,hyy,hxx,r.x,r.y,xP]
theorem Rep.one(hn:cB n)(x y:Fin n):Rep x y 1 ⟨x,y⟩:=⟨λh=>lT hn h.symm,by show x=x*1;grind only,by show y=y*1;grind only⟩
theorem w6(g:Good n d){P:Pt n}(hP:On d P)(hy:P.y=1):P=zero:=by
 have h:P.y*P.y-P.x*P.x=1+d*P.x*P.x*P.y*P.y:=hP;rw [hy] at h
 have h2:P.x*P.x*(d+1)=0:=by grind only
 have hd:d+1≠0:=λh0=>by
  obtain⟨i,hi⟩:=g.i;refine g.d i ?_;rw [hi]
  grind only
 have hx:P.x=0:=by
  by_cases hx:P.x=0
  ·exact hx
  ·exact absurd h2 (cP g.pr (cP g.pr hx hx) hd)
 cases P
 simp only at hx hy;rw [hx,hy]
 rfl
theorem Rep.w7(g:Good n d){P:Pt n}(hP:On d P){x y z:Fin n}(r:Rep x y z P):y=z↔P=Ed.zero:=by
 constructor
 ·intro h
  refine w6 g hP (cancel g.pr r.z ?_);rw [<-r.y,h]
  grind only
 ·rintro rfl
  rw [r.y]
  show 1*z=z
  grind only
end
end Ed
end Nums
namespace Go.Proofs.YtlhlkofpjhpaoaaGreatDoor
open Go.RowKit Go.IntWalk Nums
def pc(X Y Z T:List Nat):List Nat:=X++(Y++(Z++T))
def pz:List Nat:=pc zl zl zl zl
theorem Us_pc(X Y Z T:List Nat):Us (pc X Y Z T)=Us X++(Us Y++(Us Z++Us T)):=by simp [pc,Us]
theorem pc_len{X Y Z T:List Nat}(hX:X.length=5)(hY:Y.length=5)(hZ:Z.length=5)(hT:T.length=5):(pc X Y Z T).length=20:=by simp [pc,hX,hY,hZ,hT]
theorem size_ad{n:Nat}(h:n=20):(Tryz.prog.info? 236).map (·.size)=some n:=by
 rw [h]
 kernel_rfl
theorem part_pt(w:World)(A V Z:List Nat)(off:Nat)(ho:A.length=off)(hV:V.length=5):(part 193 (Us A++(Us V++Us Z)).toArray off).run Tryz.prog w = .ok (.agg (Us V).toArray) w:=by
 have hagg:(isAgg 193).run Tryz.prog w = .ok true w:=by
  unfold isAgg
  rw [aG,run_underlying Tryz.underlying193 w]
  rfl
 have hs:(sizeOf 193).run Tryz.prog w = .ok 5 w:=by kernel_rfl
 have he:(Us A++(Us V++Us Z)).toArray.extract off (off+5)=(Us V).toArray:=by
  apply Array.ext'
  simp only [List.extract_toArray,rP];rw [List.drop_append,List.drop_eq_nil_of_le (by rw [Us_len];omega),Us_len,ho,g9,kT,List.nil_append,Nat.add_sub_cancel_left,List.take_append,Us_len,hV,g9,List.take_zero,List.append_nil,bG (by rw [Us_len,hV];exact aF _)]
 unfold part
 simp only [aG,hagg,aD,if_true,hs,aH,he]
theorem equal_elD(d:Nat)(l m:List Nat)(hl:l.length=5)(hm:m.length=5)(w:World) :
  (cC (d+3) 193 (.agg (Us l).toArray) (.agg (Us m).toArray)).run Tryz.prog w = .ok (decide (l=m)) w:=by
 have he:=equalIn_words d 5 191 l m Tryz.underlying191 hl hm w
 have hst:Tryz.prog.stoodInHeld 193 = false:=by kernel_rfl
 rw [cC];simp only [aG,run_underlying Tryz.underlying193,aD,run_program,hst];rw [if_neg (by decide)];have hp:=partEl w l hl;have hq:=partEl w m hm;generalize decide (l=m)=q at *
 cases q<;>simp [aG,hp,hq,he,aH]
theorem equal_pt(X Y Z T X' Y' Z' T':List Nat)(hX:X.length=5)(hY:Y.length=5)(hZ:Z.length=5)(hT:T.length=5)(hX':X'.length=5)(hY':Y'.length=5)(hZ':Z'.length=5)(hT':T'.length=5)(w:World) :
  (cC 10000 195 (.agg (Us (pc X Y Z T)).toArray) (.agg (Us (pc X' Y' Z' T')).toArray)).run Tryz.prog w = .ok (decide (X=X'/\Y=Y'/\Z=Z'/\T=T')) w:=by
 have e1:=equal_elD 9996 X X' hX hX' w;have e2:=equal_elD 9996 Y Y' hY hY' w;have e3:=equal_elD 9996 Z Z' hZ hZ' w;have e4:=equal_elD 9996 T T' hT hT' w
 have p1:∀X Y Z T:List Nat,X.length=5->(part 193 (Us (pc X Y Z T)).toArray 0).run Tryz.prog w = .ok (.agg (Us X).toArray) w:=λX Y Z T h=>by
  have:=part_pt w [] X (Y++(Z++T)) 0 rfl h
  simpa [pc,Us] using this
 have p2:∀X Y Z T:List Nat,X.length=5->Y.length=5->(part 193 (Us (pc X Y Z T)).toArray 5).run Tryz.prog w = .ok (.agg (Us Y).toArray) w:=λX Y Z T h h2=>by
  have:=part_pt w X Y (Z++T) 5 h h2
  simpa [pc,Us] using this
 have p3:∀X Y Z T:List Nat,X.length=5->Y.length=5->Z.length=5->(part 193 (Us (pc X Y Z T)).toArray 10).run Tryz.prog w = .ok (.agg (Us Z).toArray) w:=λX Y Z T h h2 h3=>by
  have:=part_pt w (X++Y) Z T 10 (by simp [h,h2]) h3
  simpa [pc,Us] using this
 have p4:∀X Y Z T:List Nat,X.length=5->Y.length=5->Z.length=5->T.length=5->(part 193 (Us (pc X Y Z T)).toArray 15).run Tryz.prog w = .ok (.agg (Us T).toArray) w:=λX Y Z T h h2 h3 h4=>by
  have:=part_pt w (X++(Y++Z)) T [] 15 (by simp [h,h2,h3]) h4
  simpa [pc,Us] using this
 have hst:Tryz.prog.stoodInHeld 195 = false:=by kernel_rfl
 have a1:=p1 X Y Z T hX;have a2:=p2 X Y Z T hX hY;have a3:=p3 X Y Z T hX hY hZ;have a4:=p4 X Y Z T hX hY hZ hT;have b1:=p1 X' Y' Z' T' hX';have b2:=p2 X' Y' Z' T' hX' hY';have b3:=p3 X' Y' Z' T' hX' hY' hZ';have b4:=p4 X' Y' Z' T' hX' hY' hZ' hT';generalize (Us (pc X Y Z T)).toArray=u at *;generalize (Us (pc X' Y' Z' T')).toArray=v at *;clear p1 p2 p3 p4;rw [cC];simp only [aG,run_underlying Tryz.underlying195,aD,run_program,hst];rw [if_neg (by decide)]
 by_cases h1:X=X'<;>by_cases h2:Y=Y'<;>by_cases h3:Z=Z'<;>by_cases h4:T=T' <;>
  simp only [h1,h2,h3,h4,decide_true,decide_false,and_true,and_false] at e1 e2 e3 e4 ⊢ <;>
  simp [aG,a1,a2,a3,a4,b1,b2,b3,b4,e1,e2,e3,e4,h1,h2,h3,h4,aH]
structure QB(l:List Nat)(A:Ed.Pt p):Prop where
  ex:∃X Y Z T x y z t,l=pc X Y Z T/\EB X x/\EB Y y/\EB Z z/\EB T t/\Ed.Rep x y z A/\t*z=x*y
  on:Ed.On dd A
def PB(l:List Nat)(A:Ed.Pt p):Prop:=(l=pz/\A=Ed.zero)\/QB l A
structure AB(l:List Nat)(A:Ed.Pt p):Prop where
  ex:∃X Y Z T x y z t,l=pc X Y Z T/\EB X (y+x)/\EB Y (y-x)/\EB Z (z+z)/\EB T ((t+t)*dd)/\Ed.Rep x y z A/\t*z=x*y
  on:Ed.On dd A
theorem PB.on{l:List Nat}{A:Ed.Pt p}(h:PB l A):Ed.On dd A:=by
 rcases h with⟨_,rfl⟩|h
 ·exact Ed.j1
 ·exact h.on
theorem ne_zl{l:List Nat}{z:F}(h:EB l z)(hz:z≠0):l≠zl:=by
 rintro rfl
 exact hz (h.val.symm.trans kL)
theorem QB.ne{X Y Z T:List Nat}{z:F}(hZ:EB Z z)(hz:z≠0):¬(X=zl/\Y=zl/\Z=zl/\T=zl):=λh=>ne_zl hZ hz h.2.2.1
theorem own_at:Own 137:=λ_ _=>by go_simp
theorem own_pwhole:Own 140:=λ_ _=>by go_simp
theorem own_factor:Own 148:=λ_ _=>by go_simp
theorem own_addend:Own 169:=λ_ _=>by go_simp
theorem own_plus:Own 167:=λ_ _=>by go_simp
theorem own_doubled:Own 150:=λ_ _=>by go_simp
theorem eq_pz(w:World):(cC 10000 195 (.agg (Us pz).toArray) (.agg (Us pz).toArray)).run Tryz.prog w = .ok true w:=by
 have:=equal_pt zl zl zl zl zl zl zl zl rfl rfl rfl rfl rfl rfl rfl rfl w;rw [decide_eq_true ⟨rfl,rfl,rfl,rfl⟩] at this;exact this
theorem ne_pz{l:List Nat}{A:Ed.Pt p}(h:QB l A)(w:World):(cC 10000 195 (.agg (Us l).toArray) (.agg (Us pz).toArray)).run Tryz.prog w = .ok false w:=by
 obtain⟨⟨X,Y,Z,T,x,y,z,t,rfl,hX,hY,hZ,hT,hr,_⟩,_⟩:=h;have:=equal_pt X Y Z T zl zl zl zl hX.len hY.len hZ.len hT.len rfl rfl rfl rfl w;rw [decide_eq_false (QB.ne hZ hr.z)] at this;exact this
def facB:List UInt8:=[163,120,89,19,202,77,235,117,171,216,65,65,77,10,112,0,152,232,121,119,121,64,199,140,115,254,111,43,238,108,3,82]
def bxB:List UInt8:=[26,213,37,143,96,45,86,201,178,167,37,149,96,199,44,105,92,220,214,253,49,226,164,192,254,83,110,205,211,54,105,33]
def byB:List UInt8:=[88,102,102,102,102,102,102,102,102,102,102,102,102,102,102,102,102,102,102,102,102,102,102,102,102,102,102,102,102,102,102,102]
theorem good_fac:isGood facB=true:=by decide +kernel
theorem good_bx:isGood bxB=true:=by decide +kernel
theorem good_by:isGood byB=true:=by decide +kernel
theorem le_fac:fof (le facB%57896044618658097711785492504343953926634992332820282019728792003956564819968)=dd:=iS (by decide +kernel)
theorem le_bx:fof (le bxB%57896044618658097711785492504343953926634992332820282019728792003956564819968)=fof bx:=iS (by decide +kernel)
theorem le_by:fof (le byB%57896044618658097711785492504343953926634992332820282019728792003956564819968)=fof bY:=iS (by decide +kernel)
structure PtV where
  X:List Nat
  Y:List Nat
  Z:List Nat
  T:List Nat
def PtV.l(P:PtV):List Nat:=pc P.X P.Y P.Z P.T
abbrev PtV.ps(P:PtV):List Pt:=[.agg 5 (Us P.X).toArray,.agg 5 (Us P.Y).toArray,.agg 5 (Us P.Z).toArray,.agg 5 (Us P.T).toArray]
abbrev ePt(P:PtV):SQ:=.p P.ps
structure PtV.Ok(P:PtV):Prop where
  X:P.X.length=5
  Y:P.Y.length=5
  Z:P.Z.length=5
  T:P.T.length=5
theorem PtV.Ok.ps{P:PtV}(h:P.Ok):OkP P.ps:=λq hq=>by
 simp only [PtV.ps,List.mem_cons,List.not_mem_nil,or_false] at hq
 rcases hq with rfl|rfl|rfl|rfl
 ·exact⟨us_size h.X,Us_oneA _⟩
 ·exact⟨us_size h.Y,Us_oneA _⟩
 ·exact⟨us_size h.Z,Us_oneA _⟩
 ·exact⟨us_size h.T,Us_oneA _⟩
theorem den_pt(P:PtV):(ePt P).den = .agg (Us P.l).toArray:=by
 show Value.agg (catP P.ps)=_
 unfold PtV.l
 rw [Us_pc,PtV.ps,catP_cons,catP_cons,catP_cons,catP_cons]
 simp [Pt.cells,catP]
theorem ptv_ok{X Y Z T:List Nat}{x y z t:Nums.F}(hX:EB X x)(hY:EB Y y)(hZ:EB Z z)(hT:EB T t):(⟨X,Y,Z,T⟩:PtV).Ok:=⟨hX.len,hY.len,hZ.len,hT.len⟩
abbrev ptP(V:List Nat->Prop):Post {P:PtV // V P.l/\P.Ok}:={ ret:=λP=>.q (ePt P.1) }
theorem pc_inj{P:PtV}(hP:P.Ok){X Y Z T:List Nat}{x y z:Nums.F}(hX:EB X x)(hY:EB Y y)(hZ:EB Z z)(e:P.l=pc X Y Z T):P=⟨X,Y,Z,T⟩:=by
 obtain⟨X',Y',Z',T'⟩:=P
 unfold PtV.l pc at e
 obtain⟨h1,e⟩:=qR e (hP.X.trans hX.len.symm);obtain⟨h2,e⟩:=qR e (hP.Y.trans hY.len.symm);obtain⟨h3,h4⟩:=qR e (hP.Z.trans hZ.len.symm)
 dsimp only at h1 h2 h3 h4
 rw [h1,h2,h3,h4]
theorem QB.nums{P:PtV}{A:Ed.Pt p}(h:QB P.l A)(hP:P.Ok):∃x y z t,EB P.X x/\EB P.Y y/\EB P.Z z/\EB P.T t/\Ed.Rep x y z A/\t*z=x*y:=by
 obtain⟨X,Y,Z,T,x,y,z,t,e,hX,hY,hZ,hT,hr⟩:=h.ex;obtain rfl:=pc_inj hP hX hY hZ e;exact⟨x,y,z,t,hX,hY,hZ,hT,hr⟩
theorem AB.nums{P:PtV}{A:Ed.Pt p}(h:AB P.l A)(hP:P.Ok):∃x y z t,EB P.X (y+x)/\EB P.Y (y-x)/\EB P.Z (z+z)/\EB P.T ((t+t)*dd)/\Ed.Rep x y z A/\t*z=x*y:=by
 obtain⟨X,Y,Z,T,x,y,z,t,e,hX,hY,hZ,hT,hr⟩:=h.ex;obtain rfl:=pc_inj hP hX hY hZ e;exact⟨x,y,z,t,hX,hY,hZ,hT,hr⟩
theorem QB.of{X Y Z T:List Nat}{x y z t:Nums.F}{A:Ed.Pt p}(hX:EB X x)(hY:EB Y y)(hZ:EB Z z)(hT:EB T t)(hR:Ed.Rep x y z A)(ht:t*z=x*y)(hon:Ed.On dd A):QB (PtV.l ⟨X,Y,Z,T⟩) A/\PtV.Ok ⟨X,Y,Z,T⟩:=⟨⟨⟨X,Y,Z,T,x,y,z,t,rfl,hX,hY,hZ,hT,hR,ht⟩,hon⟩,ptv_ok hX hY hZ hT⟩
section
variable{b:Base}{fn:Func}{N:Nat}{E:SE}{L:List LV}{F M:World->Prop}{rs:List ResultVar}
theorem k_pt{V:List Nat->Prop}(P:PtV)(hP:V P.l/\P.Ok)(hr:fn.results=rs.toArray)(hs:rs.length<=3)(h:resS TY E L rs=some [ePt P]):kS b (bodyPost Tryz.prog fn (endS b (ptP V)) .ret) N ⟨E,L,[],F,M⟩:=zR zY ⟨P,hP⟩ hr hs h rfl rfl (λ_ _ _=>trivial) λ_ _=>trivial
end
def iml:List Nat:=[1718705420411056,234908883556509,2233514472574048,2117202627021982,765476049583133]
def imf:F:=fof (lv iml)
theorem eb_im:EB iml imf:=EB.mk5 (by omega) (by omega) (by omega) (by omega) (by omega) rfl
theorem imf_sq:imf*imf = -1:=by
 unfold imf
 rw [<-dW];have:fof (lv iml*lv iml)=fof (p-1):=iS (by decide +kernel);rw [this,oM (by decide),gD,show fof p=0 from iS (a:=p) (b:=0) (by decide)];generalize (1:F)=u
 grind only
theorem cand3(u v:F)(c:F)(hc:eK (u*(v*v*v)*(v*v*v)*v) (2^252-3)=c) :
  u*(v*v*v)*c*(u*(v*v*v)*c)*v=u*eK (u*(v*v*v)*(v*v*v)*v) pq:=by
 have e:pq=(2^252-3)+(2^252-3)+1:=by decide
 rw [e,dY,lV,hc];generalize hs:u*(v*v*v)*(v*v*v)*v=s;subst hs
 grind only
theorem quarter{u v y:F}(hu:u≠0)(h:v*y*y=u) :
  eK (u*(v*v*v)*(v*v*v)*v) pq=1\/eK (u*(v*v*v)*(v*v*v)*v) pq = -1:=by
 have hs:u*(v*v*v)*(v*v*v)*v=(v*v*v*v*y)*(v*v*v*v*y):=by
  rw [<-h]
  grind only
 have hne:v*v*v*v*y≠0:=by
  intro h0
  apply hu
  rw [<-h]
  by_cases hv:v=0
  ·rw [hv]
   grind only
  ·have hvv:=cP c7 (cP c7 (cP c7 hv hv) hv) hv
   rcases zero_or c7 h0 with h1|h1
   ·exact absurd h1 hvv
   ·rw [h1]
    grind only
 have h2:=rG hne;rw [<-wP,uY] at h2;rw [hs];generalize eK (v*v*v*v*y*(v*v*v*v*y)) pq=t at *
 have h3:t*t=1*1:=by
  rw [show eK t 2=t*t from by rw [dY,nC]] at h2;rw [h2]
  grind only
 exact sK c7 h3
theorem root_none{u v X:F}(hX:u*(v*v*v)*eK (u*(v*v*v)*(v*v*v)*v) (2^252-3)=X)(h1:¬X*X*v=u)(h2:¬X*imf*(X*imf)*v=u)(y:F):v*y*y≠u:=by
 intro h
 have hc:=cand3 u v _ rfl;rw [hX] at hc
 have hu:u≠0:=by
  rintro rfl
  apply h1
  rw [hc]
  grind only
 rcases quarter hu h with h3|h3
 ·apply h1
  rw [hc,h3]
  grind only
 ·apply h2
  rw [h3] at hc;have hi:=imf_sq;generalize imf=i at *;clear h h1 h2 hX h3 hu
  grind only
theorem root_even{u v X:F}(h:X*X*v=u)(ho:¬X.val%2=1):v*X*X=u/\X.val%2=0:=by
 refine⟨?_,by omega⟩;rw [<-h]
 grind only
theorem root_odd{u v X:F}(h:X*X*v=u)(ho:X.val%2=1):v*(0-X)*(0-X)=u/\(0-X).val%2=0:=by
 have hne:X≠0:=by
  rintro rfl
  revert ho
  decide
 have e:0-X = -X:=by grind only
 refine⟨?_,?_⟩
 ·rw [<-h]
  grind only
 ·rw [e,oK hne]
  omega
section
variable{F:World->Prop}[Pst F]{a b:List Nat}{x:Nums.F}
theorem own_squared:Own 170:=λ_ _=>by go_simp
theorem own_ones:Own 171:=λ_ _=>by go_simp
theorem own_eighth:Own 178:=λ_ _=>by go_simp
theorem own_is:Own 177:=λ_ _=>by go_simp
theorem own_inv3:Own 141:=λ_ _=>by go_simp
theorem own_root3:Own 146:=λ_ _=>by go_simp
omit [Pst F] in
theorem is_C{y:Nums.F}(ha:EB a x)(hb:EB b y):Ct F 177 [eE a,eE b] (one (.q (.c (.b (decide (x=y)))))):=⟨own_is,Spec.pure trivial λw _=>is_f ha hb w⟩
theorem mul_p{d e:Nat}(ha:EB a (eK x d))(hb:EB b (eK x e)):Ct F 142 [eE a,eE b] (elP (eK x (d+e))):=by
 rw [lV];exact mul_C ha hb
theorem _root_.Nums.EB.pow{r:List Nat}{d e:Nat}(h:EB r (eK x d))(he:d=e):EB r (eK x e):=he▸h
theorem sq_p{d:Nat}(ha:EB a (eK x d))(n:Nat)(hn:n<300):Ct F 170 [eE a,.c (.v (.int .i64 (n:Int)))] (elP (eK x (d*2^n))):=⟨own_squared,by
 refine zQ [eE a,.c (.v (.int .i64 (n:Int)))] 13 Tryz.func170 rfl (by rw [Tryz.ntmps170];rfl) (two_ok (eE_p ha.len) trivial) λB=>?_;refine zA rfl (zM λK hK=>?_);refine zA rfl (zN ?_)
 let V:Nat×List Nat->Env:=λs=>⟨[(6,.v (.int .i64 (s.1:Int))),(5,.v (.int .i64 (n:Int))),(4,.a 4 0),(2,.a 2 0)],[⟨4,none,193,[.agg 5 (Us [0,0,0,0,0]).toArray]⟩,⟨2,none,193,[.agg 5 (Us s.2).toArray]⟩],[],F,λ_=>True⟩
 refine c_weak (e':=V (0,a)) ⟨zE rfl, zL rfl rfl, .refl _,λ_ h _=>h, zU⟩ (s_loop (λs=>n-s.1) V (λs=>s.1<=n/\EB s.2 (eK x (d*2^s.1))) ?_ (0,a) ⟨aI _,ha.pow (Nat.mul_one d).symm⟩)
 rintro⟨i,l⟩ ⟨hi,hl⟩
 dsimp only at hi hl
 refine zA rfl (zM λK1 hK1=>?_);refine zW ((i:Int)<(n:Int)) rfl (λhlt=>?_) (λhge=>?_)
 ·refine zO (hK1 _ ?_)
  refine zM λK2 hK2=>?_;refine zN (s_lit ?_);refine l_X (mul_p hl hl) (λ_=>rfl) rfl λ⟨r,v⟩=>?_;refine l_E rfl (hK2 _ ?_);refine zD rfl ?_;exact zX (i+1,r) ⟨by show i+1<=n;omega,v.pow (by rw [<-Nat.mul_two,fQ,<-cN])⟩ (by show n-(i+1)<n-i;omega) ⟨⟨congrArg (λx=>some (SV.v (.int .i64 x))) (addI i 1 (by omega)),rfl,rfl,rfl,trivial⟩,zL rfl rfl, .refl _,λ_ h _=>h,λ_ h=>h⟩
 ·obtain rfl:i=n:=by omega
  refine s_exit (zS (zS (k_out (hK _ ?_))));refine zA rfl (zP ?_)
  exact k_el l hl rfl (by decide) rfl⟩
theorem ones_C(ha:EB a x):Ct F 171 [eE a] (elP (eK x (2^250-1))):=⟨own_ones,by
 refine zQ [eE a] 50 Tryz.func171 rfl (by rw [Tryz.ntmps171];rfl) (one_ok (eE_p ha.len)) λB=>?_
 have h:EB a (eK x 1):=by rw [nC];exact ha
 refine zA rfl ?_;refine s_N 4 [(3,193)] (by kernel_rfl) λK hK G S w0 hst=>n_X hst (sq_p h 1 (by decide)) rfl λ⟨_,v⟩=>n_X hst (mul_p v h) rfl λ⟨_,h2⟩=>n_N hst rfl hK rfl ?_;refine s_N 4 [(4,193)] (by kernel_rfl) λK hK G S w0 hst=>n_X hst (sq_p h2 2 (by decide)) rfl λ⟨_,v⟩=>n_X hst (mul_p v h2) rfl λ⟨_,h4⟩=>n_N hst rfl hK rfl ?_;refine s_N 4 [(5,193)] (by kernel_rfl) λK hK G S w0 hst=>n_X hst (sq_p h4 1 (by decide)) rfl λ⟨_,v⟩=>n_X hst (mul_p v h) rfl λ⟨_,h5⟩=>n_N hst rfl hK rfl ?_;refine s_N 4 [(6,193)] (by kernel_rfl) λK hK G S w0 hst=>n_X hst (sq_p h5 5 (by decide)) rfl λ⟨_,v⟩=>n_X hst (mul_p v h5) rfl λ⟨_,h10⟩=>n_N hst rfl hK rfl ?_;refine s_N 4 [(7,193)] (by kernel_rfl) λK hK G S w0 hst=>n_X hst (sq_p h10 10 (by decide)) rfl λ⟨_,v⟩=>n_X hst (mul_p v h10) rfl λ⟨_,h20⟩=>n_N hst rfl hK rfl ?_;refine s_N 4 [(8,193)] (by kernel_rfl) λK hK G S w0 hst=>n_X hst (sq_p h20 20 (by decide)) rfl λ⟨_,v⟩=>n_X hst (mul_p v h20) rfl λ⟨_,h40⟩=>n_N hst rfl hK rfl ?_;refine s_N 4 [(9,193)] (by kernel_rfl) λK hK G S w0 hst=>n_X hst (sq_p h40 10 (by decide)) rfl λ⟨_,v⟩=>n_X hst (mul_p v h10) rfl λ⟨_,h50⟩=>n_N hst rfl hK rfl ?_;refine s_N 4 [(10,193)] (by kernel_rfl) λK hK G S w0 hst=>n_X hst (sq_p h50 50 (by decide)) rfl λ⟨_,v⟩=>n_X hst (mul_p v h50) rfl λ⟨_,h100⟩=>n_N hst rfl hK rfl ?_;refine s_N 7 [] (by kernel_rfl) λK hK G S w0 hst=>n_X hst (sq_p h100 100 (by decide)) rfl λ⟨_,v⟩=>n_X hst (mul_p v h100) rfl λ⟨_,v2⟩=>n_X hst (sq_p v2 50 (by decide)) rfl λ⟨_,v3⟩=>n_X hst (mul_p v3 h50) rfl λ⟨r,v4⟩=>n_N hst rfl hK rfl (zP ?_)
 exact k_el r (v4.pow (by decide +kernel)) rfl (by decide) rfl⟩
theorem eighth_C(ha:EB a x):Ct F 178 [eE a] (elP (eK x (2^252-3))):=⟨own_eighth,by
 refine zQ [eE a] 8 Tryz.func178 rfl (by rw [Tryz.ntmps178];rfl) (one_ok (eE_p ha.len)) λB=>?_
 have h:EB a (eK x 1):=by rw [nC];exact ha
 refine zA rfl ?_;refine s_N 5 [] (by kernel_rfl) λK hK G S w0 hst=>n_X hst (ones_C ha) rfl λ⟨_,v⟩=>n_X hst (sq_p v 2 (by decide)) rfl λ⟨_,v2⟩=>n_X hst (mul_p v2 h) rfl λ⟨r,v3⟩=>n_N hst rfl hK rfl (zP ?_)
 exact k_el r (v3.pow (by decide +kernel)) rfl (by decide) rfl⟩
theorem inv_C(ha:EB a x):Ct F 141 [eE a] (elP (fY x)):=⟨own_inv3,by
 refine zQ [eE a] 19 Tryz.func141 rfl (by rw [Tryz.ntmps141];rfl) (one_ok (eE_p ha.len)) λB=>?_
 have h:EB a (eK x 1):=by rw [nC];exact ha
 refine zA rfl ?_;refine s_reg λK hK=>l_X (mul_p h h) (λ_=>rfl) rfl λ⟨_,h2⟩=>l_N hK rfl ?_;refine s_N 6 [(4,193)] (by kernel_rfl) λK hK G S w0 hst=>n_X hst (sq_p h2 2 (by decide)) rfl λ⟨_,v⟩=>n_X hst (mul_p v h2) rfl λ⟨_,v2⟩=>n_X hst (mul_p v2 h) rfl λ⟨_,h11⟩=>n_N hst rfl hK rfl ?_;refine s_N 5 [] (by kernel_rfl) λK hK G S w0 hst=>n_X hst (ones_C ha) rfl λ⟨_,v⟩=>n_X hst (sq_p v 5 (by decide)) rfl λ⟨_,v2⟩=>n_X hst (mul_p v2 h11) rfl λ⟨r,v3⟩=>n_N hst rfl hK rfl (zP ?_)
 exact k_el r (v3.pow (by decide +kernel)) rfl (by decide) rfl⟩
end
abbrev tupP(x:Nums.F):Post {r:List Nat // EB r x}:={ ret:=λr=>.t [eE r.1,.c (.v (.bool true))] }
abbrev noP:Post Unit:=one (.t [eE zl,.c (.v (.bool false))])
structure RootR(u v:Nums.F) where
  r:List Nat
  ok:Bool
  h:(∃x,EB r x/\v≠0/\(v*x*x=u/\x.val%2=0)/\ok=true)\/((v=0\/∀x,v*x*x≠u)/\r=[0,0,0,0,0]/\ok=false)
abbrev rootP(u v:Nums.F):Post (RootR u v):={ ret:=λr=>.t [eE r.r,.c (.v (.bool r.ok))] }
theorem Ct.to{α β:Type}{F:World->Prop}{fn:FuncId}{qs:List SQ}{f:α->RV}{g:β->RV}(c:Ct F fn qs ({ ret:=f }:Post α))(h:∀x,∃y,f x=g y):Ct F fn qs ({ ret:=g }:Post β):=⟨c.own,λw S X h1 h2 h3=>(c.spec w S X h1 h2 h3).mono λ_ _ ⟨x,S',i1,i2,i3,i4,i5,_⟩=>by
 obtain⟨y,e⟩:=h x
 exact⟨y,S',by rw [i1];exact congrArg (λr:RV=>rK r.den) e,by show(g y).sv.Ok;rw [<-e];exact i2,i3,i4,i5,λ_ _=>trivial, zU⟩⟩
theorem root_C{a b:List Nat}{u v:Nums.F}(hA:EB a u)(hB:EB b v):Ct Tw 146 [eE a,eE b] (rootP u v):=⟨own_root3,by
 refine zQ [eE a,eE b] 56 Tryz.func146 rfl (by rw [Tryz.ntmps146];rfl) (two_ok (eE_p hA.len) (eE_p hB.len)) λB=>?_;refine zA rfl (zM λK0 hK0=>?_);refine s_reg λK hK=>l_X (is_C hB eb_zero) (λ_=>rfl) rfl λ_=>l_N hK rfl ?_;refine zW (v=0) rfl (λh0=>?_) (λh0=>zO (hK0 _ ?_))
 ·refine zA rfl (zP ?_)
  exact zR zY (⟨[0,0,0,0,0],false,.inr ⟨.inl h0,rfl,rfl⟩⟩:RootR u v) rfl (by decide) rfl rfl rfl (λ_ _ _=>trivial) λ_ _=>trivial
 refine s_N 5 [(6,193)] (by kernel_rfl) λK hK G S w0 hst=>n_X hst (mul_C hB hB) rfl λ⟨_,v1⟩=>n_X hst (mul_C v1 hB) rfl λ⟨_,v2⟩=>n_N hst rfl hK rfl ?_;refine s_N 12 [(7,193)] (by kernel_rfl) λK hK G S w0 hst=>n_X hst (mul_C hA v2) rfl λ⟨_,v3⟩=>n_X hst (mul_C hA v2) rfl λ⟨_,v4⟩=>n_X hst (mul_C v4 v2) rfl λ⟨_,v5⟩=>n_X hst (mul_C v5 hB) rfl λ⟨_,v6⟩=>n_X hst (eighth_C v6) rfl λ⟨_,v7⟩=>n_X hst (mul_C v3 v7) rfl λ⟨r,hr⟩=>n_N hst rfl hK rfl ?_;obtain⟨X,hX⟩:∃X,u*(v*v*v)*eK (u*(v*v*v)*(v*v*v)*v) (2^252-3)=X:=⟨_,rfl⟩;have hnone:=root_none hX;rw [hX] at hr;refine zM λK0 hK0=>?_;have go:∀(r:List Nat) (Y:Nums.F),EB r Y->(¬Y*Y*v=u->∀y,v*y*y≠u)->∀e,Weak e ⟨[(2,.a 2 0),(3,.a 3 0),(4,.a 4 0),(7,.a 7 0)],[⟨7,none,193,[.agg 5 (Us r).toArray]⟩,⟨4,none,193,[.agg 5 (Us [0,0,0,0,0]).toArray]⟩,⟨3,none,193,[.agg 5 (Us b).toArray]⟩,⟨2,none,193,[.agg 5 (Us a).toArray]⟩],[],Tw,λ_=>True⟩->kS B K0 56 e:=λr Y hr hn e he=>k_weak he (hK0 _ ?_)
 ·refine s_N 8 [] (by kernel_rfl) λK hK G S w0 hst=>n_X hst (mul_C hr hr) rfl λ⟨_,v1⟩=>n_X hst (mul_C v1 hB) rfl λ⟨_,v2⟩=>n_X hst (is_C v2 hA) rfl λ_=>n_N hst rfl hK rfl ?_
  by_cases h1:X*X*v=u
  ·refine s_if false (congrArg (λq=>some (SV.b (!q))) (decide_eq_true h1)) (λh=>by cases h) λ_=>zO ?_
   exact go r X hr (λh=>absurd h1 h) _ ⟨zE rfl, zL rfl rfl, .refl _,λ_ h _=>h,λ_ h=>h⟩
  ·refine s_if true (congrArg (λq=>some (SV.b (!q))) (decide_eq_false h1)) (λ_=>s_lit ?_) λh=>by cases h
   refine l_auto2 rfl ?_;refine l_f (.p [.agg 5 (Us iml).toArray]) (eE_p (l:=iml) rfl) (λG S w C0 Q' _ _ hQ=>f_build [(0,.int .u64 1718705420411056),(1,.int .u64 234908883556509),(2,.int .u64 2233514472574048),(3,.int .u64 2117202627021982),(4,.int .u64 765476049583133)] (Us iml).toArray rfl rfl rfl rfl rfl (by kernel_rfl) hQ) rfl ?_;refine l_X (mul_C hr eb_im) (λ_=>rfl) rfl λ⟨r2,v3⟩=>l_E rfl ?_;exact go r2 _ v3 (λh=>hnone h1 h) _ ⟨zE rfl, zL rfl rfl, .refl _,λ_ h _=>h,λ_ h=>h⟩
 refine zM λK1 hK1=>?_;refine s_N 8 [] (by kernel_rfl) λK hK G S w0 hst=>n_X hst (mul_C hr hr) rfl λ⟨_,v1⟩=>n_X hst (mul_C v1 hB) rfl λ⟨_,v2⟩=>n_X hst (is_C v2 hA) rfl λ_=>n_N hst rfl hK rfl ?_
 by_cases h1:Y*Y*v=u
 ·refine s_if false (congrArg (λq=>some (SV.b (!q))) (decide_eq_true h1)) (λh=>by cases h) λ_=>zO (hK1 _ ?_)
  refine zM λK2 hK2=>?_;refine s_reg λK hK=>l_X (odd_C hr) (λ_=>rfl) rfl λ_=>l_N hK rfl ?_;refine zW (Y.val%2=1) rfl (λho=>s_lit ?_) (λho=>zO (hK2 _ ?_))
  ·refine l_X (sub_C eb_zero hr) (λ_=>rfl) rfl λ⟨r2,v3⟩=>l_E rfl (hK2 _ ?_)
   refine zA rfl (zP ?_);exact zR zY (⟨r2,true,.inl ⟨0-Y,v3,h0,root_odd h1 ho,rfl⟩⟩:RootR u v) rfl (by decide) rfl rfl rfl (λ_ _ _=>trivial) λ_ _=>trivial
  ·refine zA rfl (zP ?_)
   exact zR zY (⟨r,true,.inl ⟨Y,hr,h0,root_even h1 ho,rfl⟩⟩:RootR u v) rfl (by decide) rfl rfl rfl (λ_ _ _=>trivial) λ_ _=>trivial
 ·refine s_if true (congrArg (λq=>some (SV.b (!q))) (decide_eq_false h1)) (λ_=>?_) λh=>by cases h
  refine zA rfl (zP ?_)
  exact zR zY (⟨[0,0,0,0,0],false,.inr ⟨.inr (hn h1),rfl,rfl⟩⟩:RootR u v) rfl (by decide) rfl rfl rfl (λ_ _ _=>trivial) λ_ _=>trivial⟩
theorem newc_C{F:World->Prop}[Pst F]{b:List UInt8}{x:Nums.F}(hb:b.length=32)(hg:isGood b=true)(hx:fof (le b%57896044618658097711785492504343953926634992332820282019728792003956564819968)=x):Ct F 136 [eY 32 b] (tupP x):=new_W hb (λ_ r hr=>⟨⟨r,hx▸hr⟩,rfl⟩) λh=>by
 rw [hg] at h
 cases h
theorem neg_mul1{n:Nat}[NeZero n](t z:Fin n):(0-t)*z=0-t*z:=by grind only
theorem neg_mul2{n:Nat}[NeZero n](x y:Fin n):(0-x)*y=0-x*y:=neg_mul1 x y
theorem _root_.Nums.Ed.Rep.xW{n:Nat}[NeZero n]{X Y Z:Fin n}{P:Ed.Pt n}(r:Ed.Rep X Y Z P):Ed.Rep (0-X) Y Z (Ed.neg P):=by
 have h:=r.neg
 have e : -X=0-X:=by grind only
 rwa [e] at h
section
variable{F:World->Prop}[Pst F]
theorem at_C{X Y:List Nat}{x y:Nums.F}(hX:EB X x)(hY:EB Y y)(hon:Ed.On dd ⟨x,y⟩):Ct F 137 [eE X,eE Y] (ptP (QB · ⟨x,y⟩)):=⟨own_at,by
 refine zQ [eE X,eE Y] 12 Tryz.func137 rfl (by rw [Tryz.ntmps137];rfl) (two_ok (eE_p hX.len) (eE_p hY.len)) λb=>?_;refine zA rfl ?_;refine s_N 7 [] (by kernel_rfl) λK hK G S w0 hst=>?_;refine n_X hst small1_C rfl λ⟨r,v⟩=>?_;refine n_X hst (mul_C hX hY) rfl λ⟨s,u⟩=>?_;refine n_N hst rfl hK rfl (zP ?_)
 exact k_pt ⟨X,Y,r,s⟩ (QB.of hX hY v u (Ed.Rep.one c7 x y) (by grind only) hon) rfl (by decide) rfl⟩
theorem factor_C:Ct F 148 [] (elP dd):=⟨own_factor,by
 refine zQ [] 9 Tryz.func148 rfl (by rw [Tryz.ntmps148];rfl) no_ok λb=>?_;refine zA rfl ?_;refine s_reg λK hK=>?_;refine l_buildC 32 facB rfl rfl rfl rfl (by kernel_rfl) (by kernel_rfl) rfl ?_;refine l_X (newc_C rfl good_fac le_fac) (λ_=>rfl) rfl λ⟨r,v⟩=>?_;refine l_N hK rfl ?_;refine zA rfl (zP ?_)
 exact k_el r v rfl (by decide) rfl⟩
theorem own_cbase5:Own 103:=λ_ _=>by go_simp
theorem base_C:Ct F 103 [] (ptP (QB · base)):=⟨own_cbase5,by
 refine zQ [] 18 Tryz.func103 rfl (by rw [Tryz.ntmps103];rfl) no_ok λb=>?_;refine zA rfl ?_;refine s_reg λK hK=>?_;refine l_buildC 32 bxB rfl rfl rfl rfl (by kernel_rfl) (by kernel_rfl) rfl ?_;refine l_X (newc_C rfl good_bx le_bx) (λ_=>rfl) rfl λ⟨r,v⟩=>?_;refine l_N hK rfl ?_;refine s_reg λK hK=>?_;refine l_buildC 32 byB rfl rfl rfl rfl (by kernel_rfl) (by kernel_rfl) rfl ?_;refine l_X (newc_C rfl good_by le_by) (λ_=>rfl) rfl λ⟨s,u⟩=>?_;refine l_N hK rfl ?_;refine s_reg λK hK=>?_;refine l_X (at_C v u gB) (λ_=>rfl) rfl λ⟨P,hP⟩=>?_;refine l_N hK rfl (zP ?_)
 exact k_pt P hP rfl (by decide) rfl⟩
theorem cat_pt(P:PtV):catP P.ps=(Us P.l).toArray:=by
 have h:=den_pt P
 injection h
theorem whole_C{P:PtV}{A:Ed.Pt p}(h:PB P.l A)(hP:P.Ok):Ct F 140 [ePt P] (ptP (QB · A)):=⟨own_pwhole,by
 refine zQ [ePt P] 10 Tryz.func140 rfl (by rw [Tryz.ntmps140];rfl) (one_ok hP.ps) λb=>?_;have hq:=cat_pt P;refine zA rfl (zM λK0 hK0=>?_);refine s_reg λK hK=>?_;refine zB rfl ?_
 rcases h with⟨h,rfl⟩|h
 ·refine l_f (.v (.bool true)) trivial (λG S w C0 Q' _ _ hQ=>f_eq (catP P.ps) (Us pz).toArray rfl rfl rfl rfl rfl rfl (by kernel_rfl) (by rw [hq,h];exact eq_pz) hQ) rfl ?_
  refine l_N hK rfl ?_;refine s_yes rfl ?_;refine s_reg λK2 hK2=>?_;refine l_X small1_C (λ_=>rfl) rfl λ⟨r,v⟩=>?_;refine l_X (at_C eb_zero v Ed.j1) (λ_=>rfl) rfl λ⟨P,hP⟩=>?_;refine l_N hK2 rfl (zP ?_);exact k_pt P hP rfl (by decide) rfl
 ·refine l_f (.v (.bool false)) trivial (λG S w C0 Q' _ _ hQ=>f_eq (catP P.ps) (Us pz).toArray rfl rfl rfl rfl rfl rfl (by kernel_rfl) (by rw [hq];exact ne_pz h) hQ) rfl ?_
  refine l_N hK rfl ?_;refine s_no rfl (zO (hK0 _ ?_));refine zA rfl (zP ?_)
  exact k_pt P ⟨h,hP⟩ rfl (by decide) rfl⟩
end
theorem addend_C{P:PtV}{A:Ed.Pt p}(h:PB P.l A)(hP:P.Ok):Ct Tw 169 [ePt P] (ptP (AB · A)):=⟨own_addend,by
 refine zQ [ePt P] 28 Tryz.func169 rfl (by rw [Tryz.ntmps169];rfl) (one_ok hP.ps) λb=>?_;refine zA rfl ?_;refine s_reg λK hK=>?_;refine l_X (whole_C h hP) (λ_=>rfl) rfl λ⟨P,h,hP⟩=>?_;refine l_N hK rfl ?_;obtain⟨x,y,z,t,hX,hY,hZ,hT,hR,ht⟩:=h.nums hP;refine s_N 23 [] (by kernel_rfl) λK hK G S w0 hst=>?_;refine n_X hst (add_C hY hX) rfl λ⟨r1,v1⟩=>?_;refine n_X hst (sub_C hY hX) rfl λ⟨r2,v2⟩=>?_;refine n_X hst (add_C hZ hZ) rfl λ⟨r3,v3⟩=>?_;refine n_X hst (add_C hT hT) rfl λ⟨r4,v4⟩=>?_;refine n_X hst factor_C rfl λ⟨r5,v5⟩=>?_;refine n_X hst (mul_C v4 v5) rfl λ⟨r6,v6⟩=>?_;refine n_N hst rfl hK rfl (zP ?_)
 exact k_pt ⟨r1,r2,r3,r6⟩ ⟨⟨⟨_,_,_,_,x,y,z,t,rfl,v1,v2,v3,v6,hR,ht⟩,h.on⟩,ptv_ok v1 v2 v3 v6⟩ rfl (by decide) rfl⟩
theorem plus_C{P Q:PtV}{A B:Ed.Pt p}(h:PB P.l A)(hP:P.Ok)(h':AB Q.l B)(hQ:Q.Ok):Ct Tw 167 [ePt P,ePt Q] (ptP (QB · (Ed.add dd A B))):=⟨own_plus,by
 refine zQ [ePt P,ePt Q] 66 Tryz.func167 rfl (by rw [Tryz.ntmps167];rfl) (two_ok hP.ps hQ.ps) λb=>?_;obtain⟨x',y',z',t',hX',hY',hZ',hT',hR',ht'⟩:=h'.nums hQ;refine zA rfl ?_;refine s_reg λK hK=>?_;refine l_X (whole_C h hP) (λ_=>rfl) rfl λ⟨P,h,hP⟩=>?_;refine l_N hK rfl ?_;obtain⟨x,y,z,t,hX,hY,hZ,hT,hR,ht⟩:=h.nums hP;refine s_N 16 [(5,193),(6,193)] (by kernel_rfl) λK hK G S w0 hst=>?_;refine n_X hst (sub_C hY hX) rfl λ⟨r,v⟩=>?_;refine n_X hst (mul_C v hY') rfl λ⟨r1,v1⟩=>?_;refine n_X hst (add_C hY hX) rfl λ⟨r,v⟩=>?_;refine n_X hst (mul_C v hX') rfl λ⟨r2,v2⟩=>?_;refine n_N hst rfl hK rfl ?_;refine s_N 10 [(7,193),(8,193)] (by kernel_rfl) λK hK G S w0 hst=>?_;refine n_X hst (mul_C hZ hZ') rfl λ⟨r3,v3⟩=>?_;refine n_X hst (mul_C hT hT') rfl λ⟨r4,v4⟩=>?_;refine n_N hst rfl hK rfl ?_;refine s_N 12 [(9,193),(10,193),(11,193),(12,193)] (by kernel_rfl) λK hK G S w0 hst=>?_;refine n_X hst (sub_C v2 v1) rfl λ⟨e,ve⟩=>?_;refine n_X hst (sub_C v3 v4) rfl λ⟨f,vf⟩=>?_;refine n_X hst (add_C v3 v4) rfl λ⟨g,vg⟩=>?_;refine n_X hst (add_C v2 v1) rfl λ⟨i,vi⟩=>?_;refine n_N hst rfl hK rfl ?_;refine s_N 13 [] (by kernel_rfl) λK hK G S w0 hst=>?_;refine n_X hst (mul_C ve vf) rfl λ⟨r5,v5⟩=>?_;refine n_X hst (mul_C vg vi) rfl λ⟨r6,v6⟩=>?_;refine n_X hst (mul_C vf vg) rfl λ⟨r7,v7⟩=>?_;refine n_X hst (mul_C ve vi) rfl λ⟨r8,v8⟩=>?_;refine n_N hst rfl hK rfl (zP ?_);have hE:=Ed.Rep.plus good h.on h'.on hR ht hR' ht' rfl rfl rfl rfl rfl rfl rfl rfl
 exact k_pt ⟨r5,r6,r7,r8⟩ (QB.of v5 v6 v7 v8 hE.1 hE.2 (Ed.jG good h.on h'.on)) rfl (by decide) rfl⟩
theorem own_neg:Own 110:=λ_ _=>by go_simp
theorem neg_C{P:PtV}{A:Ed.Pt p}(h:PB P.l A)(hP:P.Ok):Ct Tw 110 [ePt P] (ptP (QB · (Ed.neg A))):=⟨own_neg,by
 refine zQ [ePt P] 18 Tryz.func110 rfl (by rw [Tryz.ntmps110];rfl) (one_ok hP.ps) λb=>?_;refine zA rfl ?_;refine s_reg λK hK=>?_;refine l_X (whole_C h hP) (λ_=>rfl) rfl λ⟨P,h,hP⟩=>?_;refine l_N hK rfl ?_;obtain⟨x,y,z,t,hX,hY,hZ,hT,hR,ht⟩:=h.nums hP;refine s_N 13 [] (by kernel_rfl) λK hK G S w0 hst=>?_;refine n_X hst (sub_C eb_zero hX) rfl λ⟨r,v⟩=>?_;refine n_X hst (sub_C eb_zero hT) rfl λ⟨s,u⟩=>?_;refine n_N hst rfl hK rfl (zP ?_)
 exact k_pt ⟨r,P.Y,P.Z,s⟩ (QB.of v hY hZ u (Ed.Rep.xW hR) (by rw [neg_mul1,neg_mul2,ht]) (Ed.k8 h.on)) rfl (by decide) rfl⟩
end Go.Proofs.YtlhlkofpjhpaoaaGreatDoor
