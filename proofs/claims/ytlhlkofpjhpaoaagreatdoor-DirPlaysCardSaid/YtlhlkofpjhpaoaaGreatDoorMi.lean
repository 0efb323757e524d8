import Derived.Test.YtlhlkofpjhpaoaaGreatDoorMh
import Derived.Test.YtlhlkofpjhpaoaaGreatDoorMb
import Derived.Test.YtlhlkofpjhpaoaaGreatDoorMg
import Derived.Test.YtlhlkofpjhpaoaaGreatDoorMd
import Derived.Test.YtlhlkofpjhpaoaaGreatDoorMe
import Derived.Test.YtlhlkofpjhpaoaaGreatDoorMf
set_option maxRecDepth 100000
set_option maxHeartbeats 2000000
open Go.Addr renaming add_mid->dA
open Go.Builtin renaming zeroCells->iO,clear_->qG
open Go.IntKind renaming wrap_u8'->pQ
open Go.Lib renaming hid->c9
open Go.Result renaming andThen_ok->aD
open Go.Sem renaming run_bind->aG,run_pure->aH
open Go.Value renaming int->bM
open List renaming replicate->aA,length_append->aB,mem_singleton->aE,mem_cons->aL,size_toArray->aT,length_take->aU,append_assoc->a6,getElem?_eq_some_iff->bA,length_cons->bD,length_replicate->bE,take_of_length_le->bG,length_map->bO,length_set->bQ,append_nil->bT,map_cons->bX,ext_getElem->cJ,take_append_drop->cW,length_drop->dC,getElem?_take->dE,length_reverse->fJ,set_append_right->fS,take_length->fU,take_succ_eq_append_getElem->gA,drop_of_length_le->gW,drop_zero->kT,length_nil->lC,drop_eq_getElem_cons->lD,flatten_cons->lJ,drop_eq_nil_of_le->mH,cons_append->mS,getElem_reverse->o8
open Nat renaming le_of_ble_eq_true->aC,le_refl->aF,zero_le->aI,blt->aQ,mod_eq_of_lt->aY,zero_add->aZ,lt_of_lt_of_le->b9,min_eq_left->cM,pow_succ->cN,mod_lt->cO,add_zero->eX,lt_irrefl->gI,one_mul->g7,sub_self->g9,add_mod->iK,mul_mod->jD,div_div_eq_div_mul->jT,pow_zero->lH,add_comm->lY,mul_zero->mM,le_of_eq->nI,mul_add->pL,mul_mod_mod->qT,div_one->tQ
open Option renaming map_some->bI
open Option.some renaming injEq->aW,inj->cR
open Prod.mk renaming injEq->cY
open UInt8 renaming ofNat->bK,toNat_lt->cQ
namespace Go.Proofs.YtlhlkofpjhpaoaaGreatDoor
open Go.RowKit Go.IntWalk Nums
theorem own_next:Own 132:=λ_ _=>by go_simp
theorem le_cons4{l:List UInt8}{i:Nat}(h:i+4<=l.length):le (l.drop i)=(l[i]!).toNat+256*(l[i+1]!).toNat+65536*(l[i+2]!).toNat+16777216*(l[i+3]!).toNat+4294967296*le (l.drop (i+4)):=by
 have e:∀k k',k<l.length->k'=k+1->le (l.drop k)=(l[k]!).toNat+256*le (l.drop k'):=λk k' hk h=>by
  rw [h,lD hk,getElem!_pos l k hk]
  rfl
 have e0:=e i (i+1) (by omega) rfl;have e1:=e (i+1) (i+2) (by omega) rfl;have e2:=e (i+2) (i+3) (by omega) rfl;have e3:=e (i+3) (i+4) (by omega) rfl;rw [e0,e1,e2,e3]
 omega
theorem orL(i x y:Nat)(hx:x<2^i)(hy:y%2^i=0)(h1:x<18446744073709551616)(h2:y<18446744073709551616):bits .or .u64 (x:Int) (y:Int)=((x+y:Nat):Int):=by
 rw [u64_or_nat x y h1 h2,Nat.or_comm,nat_join i y x hy hx,lY]
theorem wide_step(X h L:Nat):(4294967296*(X%L)+1*h)%L=(h+4294967296*X)%L:=by
 rw [g7,lY h,iK,qT,<-iK]
theorem own_wred:Own 131:=λ_ _=>by go_simp
theorem mul_split(x Y u v L:Nat):(4294967296*((4294967296*(x*Y%L)+x*u)%L)+x*v)%L=x*(18446744073709551616*Y+(4294967296*u+v))%L:=by
 have e:x*(18446744073709551616*Y+(4294967296*u+v))=4294967296*(4294967296*(x*Y)+x*u)+x*v:=by grind only
 rw [e,iK,qT,<-iK]
 have e2:(4294967296*(x*Y%L)+x*u)%L=(4294967296*(x*Y)+x*u)%L:=by
  rw [iK,qT,<-iK]
 rw [iK (4294967296*(4294967296*(x*Y%L)+x*u)),jD,e2,<-jD,<-iK]
theorem own_scnew:Own 108:=λ_ _=>by go_simp
theorem le_zero:∀n,le (aA n 0)=0
 | 0=>rfl
 | n+1=>by
  show(0:UInt8).toNat+256*le (aA n 0)=0
  rw [le_zero n]
  rfl
theorem cop_half{b:List UInt8}(hb:b.length=32):(cop (aA 64 0) 0 b).length=64/\le (cop (aA 64 0) 0 b)=le b:=by
 have e:cop (aA 64 0) 0 b=b++aA 32 0:=by
  simp [cop,hb]
 rw [e];refine⟨by simp [hb],?_⟩;rw [gR,le_zero,mM,eX]
abbrev eS(n:Nat):SQ:=.p [.agg 4 (Us (ws n)).toArray]
theorem eS_ok(n:Nat):OkP [.agg 4 (Us (ws n)).toArray]:=eW_ok (j7 n)
theorem mod_lt_LL(n:Nat):n%LL<LL:=cO _ (by decide)
theorem one_lt_LL:1<LL:=by decide
theorem arr4:Arr 143 4:=⟨_,Tryz.underlying143,by kernel_rfl⟩
theorem w64:KW .u64 64:=.inl ⟨rfl,rfl⟩
theorem src_one{l:List UInt8}{m:Nat}(off n:Nat):((catP [.agg m (By l).toArray]).toList.drop off).take n=By ((l.drop off).take n):=by
 simp [catP,Pt.cells,By,List.map_take,List.map_drop]
theorem all32{l:List UInt8}{n:Nat}(h:l.length=n):(l.drop 0).take n=l:=by rw [kT,bG (nI h)]
section
variable{b:Base}{ops:Array Oper}{Q:Exit->Act->World->Prop}{N:Nat}{E:SE}{L:List LV}{R:List Res}{F M:World->Prop}{rest:List Oper}{k:Nat}{o:Oper}
theorem l_copyW{d s:Operand}{j off n c j2 off2 n2 c2 m:Nat}{z:List UInt8}{ps:List Pt}(l:List UInt8)(hg:o.guard=none)(hd:o.dst=some k)(hk:aQ k N=true)(ho:o.op = .call { callee:=.builtin .copy,args:=#[d,s],argTypes:=#[51,51] })
 (hx:evS E d=some (.s j off n c))(hy:evS E s=some (.s j2 off2 n2 c2))(hl:lookL L j=some [.agg m (By z).toArray])(hl2:lookL L j2=some ps)(hs:((catP ps).toList.drop off2).take l.length=By l)(hz:z.length=m)(hn2:l.length=n2)(h1:l.length<=n)(h2:off+l.length<=m)
 (hn:lS Tryz.prog b ops Q N rest ⟨(k,.v (.int .i64 (l.length:Int)))::E,putL L j [.agg m (By (cop z off l)).toArray],R,F,M⟩):lS Tryz.prog b ops Q N (o::rest) ⟨E,L,R,F,M⟩:=λa w ⟨G,S,g1,g2,g3⟩=>by
 subst hn2;have e1:a.eval d = .slice (some ⟨G j,off,none⟩) n c:=g1.eval (evS_ok hx);have e2:a.eval s = .slice (some ⟨G j2,off2,none⟩) l.length c2:=g1.eval (evS_ok hy);obtain⟨u,hu,rfl,hps⟩:=lookL_mem hl;obtain⟨u2,hu2,rfl,hps2⟩:=lookL_mem hl2;have hb:=g3.at u hu;have hb2:=g3.at u2 hu2;rw [hps] at hb;rw [hps2] at hb2
 have hok:OkP [Pt.agg m (By (cop z off l)).toArray]:=λp hp=>by
  rw [aE.1 hp];exact⟨by rw [aT,By_len,cop_len (by omega),hz],By_one _⟩
 refine wpList_copy_own hg d s 51 51 ho 5 Tryz.underlying51 size_u8 (G u.j) off n c ⟨G u2.j,off2,none⟩ l.length c2 e1 e2 (By z).toArray u.t hb (By l) (by rw [By_len];exact(cM h1).symm) ?_ (by rw [By_len,aT,By_len];omega) (By_one l) ?_
 ·intro i v hv
  rw [dA,hb2.cell];rw [<-hs,dE] at hv
  split at hv
  ·rw [List.getElem?_drop] at hv
   simpa using hv
  ·cases hv
 ·have e:(By z).toArray.toList.take off++(By l++(By z).toArray.toList.drop (off+(By l).length))=By (cop z off l):=by
   simp [cop,By]
  rw [e,hd,By_len];exact hn _ _ ⟨G,S,g1.put hk _,g2.cons trivial,g3.set (lookL_name hl) hok⟩
end
section
variable{F:World->Prop}[Pst F]
omit [Pst F] in
theorem next_C{A B h:Nat}(hA:A<LL)(hB:B<LL)(hh:h<4294967296):Ct F 132 [eS A,eS B,.c (.v (.int .u64 (h:Int)))] (one (.q (eS ((4294967296*A+B*h)%LL)))):=⟨own_next,Spec.pure (eS_ok _) λw _=>next_f hA hB hh w⟩
theorem or4{a b c d:Nat}(ha:a<256)(hb:b<256)(hc:c<256)(hd:d<256):bits .or .u64 (bits .or .u64 (bits .or .u64 (IntKind.u64.wrap (a:Int)) (IntKind.u64.wrap (IntKind.u64.wrap (b:Int)*2^min 8 IntKind.u64.bits))) (IntKind.u64.wrap (IntKind.u64.wrap (c:Int)*2^min 16 IntKind.u64.bits))) (IntKind.u64.wrap (IntKind.u64.wrap (d:Int)*2^min 24 IntKind.u64.bits))=((a+256*b+65536*c+16777216*d:Nat):Int):=by
 rw [wrapN a (by omega),wrapN b (by omega),wrapN c (by omega),wrapN d (by omega)]
 rw [show((b:Int)*2^min 8 IntKind.u64.bits)=((b*256:Nat):Int) from rfl,show((c:Int)*2^min 16 IntKind.u64.bits)=((c*65536:Nat):Int) from rfl,show((d:Int)*2^min 24 IntKind.u64.bits)=((d*16777216:Nat):Int) from rfl,wrapN _ (by omega),wrapN _ (by omega),wrapN _ (by omega),
  orL 8 _ _ (by omega) (by omega) (by omega) (by omega),orL 16 _ _ (by omega) (by omega) (by omega) (by omega),orL 24 _ _ (by omega) (by omega) (by omega) (by omega)]
 exact congrArg _ (by omega)
omit [Pst F] in
theorem wide_C{l:List UInt8}(hl:l.length=64):Ct F 102 [eY 64 l] (one (.q (eS (le l%LL)))):=⟨own_wide,by
 refine zQ [eY 64 l] 41 Tryz.func102 rfl (by rw [Tryz.ntmps102];rfl) (one_ok (eY_ok hl).1) λB=>?_;refine zA rfl (zA rfl ?_);refine zM λK1 hK1=>?_;refine zA rfl (zN ?_)
 let V:Nat×Int->Env:=λs=>⟨[(4,.v (.int .i64 s.2)),(1,.a 1 0),(2,.a 2 0),(3,.a 3 0)],[⟨3,none,145,[.agg 4 (Us (ws (le (l.drop (64-4*s.1))%LL))).toArray]⟩,⟨2,none,145,[.agg 4 (Us [0,0,0,0]).toArray]⟩,⟨1,none,74,[.agg 64 (By l).toArray]⟩],[],F,λ_=>True⟩
 have e0:le (l.drop (64-4*0))%LL=0:=by rw [mH (by omega)];rfl
 have e3:(some ⟨3,none,145,[.agg 4 (Us [0,0,0,0]).toArray]⟩:Option LV)=some ⟨3,none,145,[.agg 4 (Us (ws (le (l.drop (64-4*0))%LL))).toArray]⟩:=by rw [e0];rfl
 refine c_weak (e':=V (0,60)) ⟨zE rfl, ⟨e3,rfl,rfl,rfl,rfl,rfl,trivial⟩,.refl _,λ_ h _=>h, zU⟩ (s_loop (λs=>16-s.1) V (λs=>s.1<=16/\s.2=60-4*(s.1:Int)) ?_ (0,60) ⟨aI _,rfl⟩)
 rintro⟨j,z⟩ ⟨hj,hz⟩
 dsimp only at hj hz
 refine zM λK2 hK2=>?_;refine zA rfl ?_;refine zW (z>=0) rfl (λhge=>?_) (λhlt=>?_)
 ·obtain⟨q,rfl⟩:∃q:Nat,z=(q:Int):=⟨z.toNat,by omega⟩
  have hq:q=64-4*(j+1):=by omega
  have rd:∀i,i<64->(catP [.agg 64 (By l).toArray])[0+i]?=some (.int .u8 ((l[i]!).toNat:Int)):=λi hi=>by rw [aZ];exact By_get (by omega)
  have hl4:=le_cons4 (l:=l) (i:=q) (by omega);rw [show q+4=64-4*j by omega] at hl4;refine zO (hK2 _ (zM λK3 hK3=>?_));refine zN ?_;refine s_N 26 [] (by kernel_rfl) λK hK G S w0 hst=>?_;refine n_auto2 hst rfl (n_cell hst rfl arr64 (by show q<64;omega) (.int .u8 ((l[q]!).toNat:Int)) (rd q (by omega)) ?_);refine n_auto2 hst rfl (n_num 15 ((q+1:Nat):Int) rfl (addI q 1 (by omega)) (n_cell hst rfl arr64 (by show q+1<64;omega) (.int .u8 ((l[q+1]!).toNat:Int)) (rd (q+1) (by omega)) ?_));refine n_auto2 hst rfl (n_num 22 ((q+2:Nat):Int) rfl (addI q 2 (by omega)) (n_cell hst rfl arr64 (by show q+2<64;omega) (.int .u8 ((l[q+2]!).toNat:Int)) (rd (q+2) (by omega)) ?_));refine n_auto2 hst rfl (n_num 29 ((q+3:Nat):Int) rfl (addI q 3 (by omega)) (n_cell hst rfl arr64 (by show q+3<64;omega) (.int .u8 ((l[q+3]!).toNat:Int)) (rd (q+3) (by omega)) ?_));refine n_auto2 hst rfl (n_num 5 _ rfl (or4 (cQ _) (cQ _) (cQ _) (cQ _)) (n_N hst rfl hK rfl ?_));have h0:=cQ l[q]!;have h1:=cQ l[q+1]!;have h2:=cQ l[q+2]!;have h3:=cQ l[q+3]!
  have e1:(4294967296*(le (l.drop (64-4*j))%LL)+1*((l[q]!).toNat+256*(l[q+1]!).toNat+65536*(l[q+2]!).toNat+16777216*(l[q+3]!).toNat))%LL=le (l.drop (64-4*(j+1)))%LL:=by
   rw [wide_step,<-hq,hl4]
  refine s_lit (l_auto2 rfl ?_);refine l_f (.p [.agg 4 (Us [1,0,0,0]).toArray]) (eW_ok rfl) (λG S w C0 Q' _ _ hQ=>f_build [(0,.int .u64 1)] (Us [1,0,0,0]).toArray rfl rfl rfl rfl rfl (by kernel_rfl) hQ) rfl ?_;refine l_X (next_C (mod_lt_LL _) one_lt_LL (by omega)) (λ_=>rfl) rfl λ_=>?_;rw [e1];refine l_E rfl (hK3 _ ?_);refine zD rfl ?_;exact zX (j+1,(q:Int)-4) ⟨by show j+1<=16;omega,by show(q:Int)-4=60-4*((j+1:Nat):Int);omega⟩ (by show 16-(j+1)<16-j;omega) ⟨⟨congrArg (λx=>some (SV.v (.int .i64 x))) (by show IntKind.i64.wrap ((q:Int)-4)=_;rw [i64_left,wrap64_in _ (by omega)]),rfl,rfl,rfl,trivial⟩,zL rfl rfl, .refl _,λ_ h _=>h,λ_ h=>h⟩
 ·obtain rfl:j=16:=by omega
  refine s_exit (zS (zS (k_out (hK1 _ ?_))));refine zA rfl (zP ?_)
  exact zR zY () rfl (by decide) rfl rfl rfl (λ_ _ _=>trivial) λ_ _=>trivial⟩
omit [Pst F] in
theorem scadd_C{x y:Nat}(hx:x<LL)(hy:y<LL):Ct F 97 [eS x,eS y] (one (.q (eS ((x+y)%LL)))):=⟨own_scadd,by
 have hL:LL<2^253:=by decide
 have hs:(x+y)%115792089237316195423570985008687907853269984665640564039457584007913129639936=x+y:=aY (by omega);obtain⟨a,b,c,d,e1,e2,ha,hb,hc,hd⟩:=nK (n:=x+y) (by omega);refine zQ [eS x,eS y] 21 Tryz.func97 rfl (by rw [Tryz.ntmps97];rfl) (two_ok (eS_ok x) (eS_ok y)) λB=>?_;refine zA rfl ?_
 have c1:Ct F 130 [eS x,eS y] (one (.q (eW 4 [a,b,c,d]))):=⟨own_wsum,Spec.pure (eW_ok rfl) λw _=>by
  have h:=wsum_f (A:=x) (B:=y) (by omega) (by omega) w;rw [hs,e2] at h
  exact h⟩
 have c2:Ct F 131 [eW 5 [a,b,c,d,0]] (one (.q (eS ((x+y)%LL)))):=⟨own_wred,Spec.pure (eS_ok _) λw _=>by
  have h:=red_f ha hb hc hd (u:=0) (by decide) w;rw [mM,eX,<-e1] at h
  exact h⟩
 refine s_reg λK hK=>l_X c1 (λ_=>rfl) rfl λ_=>l_N hK rfl ?_;refine s_reg λK hK=>l_cell rfl arr4 (aC rfl) (.int .u64 (a:Int)) rfl (l_cell rfl arr4 (aC rfl) (.int .u64 (b:Int)) rfl (l_cell rfl arr4 (aC rfl) (.int .u64 (c:Int)) rfl (l_cell rfl arr4 (aC rfl) (.int .u64 (d:Int)) rfl ?_)));refine l_f (.p [.agg 5 (Us [a,b,c,d,0]).toArray]) (eW_ok rfl) (λG S w C0 Q' _ _ hQ=>f_build ([a,b,c,d].zipIdx.map λx=>(x.2,.int .u64 ((x.1:Nat):Int))) (Us [a,b,c,d,0]).toArray rfl rfl rfl rfl rfl (by kernel_rfl) hQ) rfl ?_;refine l_X c2 (λ_=>rfl) rfl λ_=>l_N hK rfl (zP ?_)
 exact zR zY () rfl (by decide) rfl rfl rfl (λ_ _ _=>trivial) λ_ _=>trivial⟩
theorem scmul_C{x y:Nat}(hx:x<LL)(hy:y<LL):Ct F 98 [eS x,eS y] (one (.q (eS (x*y%LL)))):=⟨own_scmul,by
 have hL:LL<2^253:=by decide
 refine zQ [eS x,eS y] 28 Tryz.func98 rfl (by rw [Tryz.ntmps98];rfl) (two_ok (eS_ok x) (eS_ok y)) λB=>?_;refine zA rfl (zA rfl ?_);refine zM λK1 hK1=>?_;refine zA rfl (zN ?_)
 let R:Nat->Nat:=λj=>x*(y/18446744073709551616^j)%LL
 let V:Nat×Int->Env:=λs=>⟨[(6,.v (.int .i64 s.2)),(2,.a 2 0),(3,.a 3 0),(4,.a 4 0),(5,.a 5 0)],[⟨5,none,145,[.agg 4 (Us (ws (R s.1))).toArray]⟩,⟨4,none,145,[.agg 4 (Us [0,0,0,0]).toArray]⟩,⟨3,none,145,[.agg 4 (Us (ws y)).toArray]⟩,⟨2,none,145,[.agg 4 (Us (ws x)).toArray]⟩],[],F,λ_=>True⟩
 have e4:R 4=0:=by
  show x*(y/18446744073709551616^4)%LL=0
  rw [Nat.div_eq_of_lt (b9 hy (by decide)),mM,Nat.zero_mod]
 have e5:(some ⟨5,none,145,[.agg 4 (Us [0,0,0,0]).toArray]⟩:Option LV)=some ⟨5,none,145,[.agg 4 (Us (ws (R 4))).toArray]⟩:=by rw [e4];rfl
 refine c_weak (e':=V (4,3)) ⟨zE rfl, ⟨e5,rfl,rfl,rfl,rfl,rfl,rfl,rfl,trivial⟩,.refl _,λ_ h _=>h, zU⟩ (s_loop (λs=>s.1) V (λs=>s.1<=4/\s.2=(s.1:Int)-1) ?_ (4,3) ⟨aF _,rfl⟩)
 rintro⟨j,z⟩ ⟨hj,hz⟩
 dsimp only at hj hz
 refine zM λK2 hK2=>?_;refine zA rfl ?_;refine zW (z>=0) rfl (λhge=>?_) (λhlt=>?_)
 ·obtain⟨q,rfl⟩:∃q,j=q+1:=⟨j-1,by omega⟩
  obtain rfl:z=(q:Int):=by omega
  have hw:(ws y)[q]! = wd y q:=ws_wd y (by omega);obtain⟨v,hv⟩:∃v,v=wd y q:=⟨_,rfl⟩;have hvl:v<18446744073709551616:=hv▸cO _ (by decide);have rd:(catP [.agg 4 (Us (ws y)).toArray])[0+q]?=some (.int .u64 (v:Int)):=(Us_in (by rw [j7];omega)).trans (by rw [hw,hv])
  have hY:y/18446744073709551616^q=18446744073709551616*(y/18446744073709551616^(q+1))+v:=by
   rw [hv,cN,<-jT]
   unfold wd
   omega
  have hR:(4294967296*((4294967296*R (q+1)+x*(v/4294967296))%LL)+x*(v%4294967296))%LL=R q:=by
   show(4294967296*((4294967296*(x*(y/18446744073709551616^(q+1))%LL)+x*(v/4294967296))%LL)+x*(v%4294967296))%LL=x*(y/18446744073709551616^q)%LL
   rw [mul_split,hY,show 4294967296*(v/4294967296)+v%4294967296=v by omega]
  refine zO (hK2 _ (zM λK3 hK3=>?_));refine zN ?_;refine s_N 8 [] (by kernel_rfl) λK hK G S w0 hst=>?_;refine n_auto2 hst rfl (n_cell hst rfl arr4 (by show q<4;omega) (.int .u64 (v:Int)) rd ?_);refine n_auto2 hst rfl (n_num 17 ((v/4294967296:Nat):Int) rfl (w64.shr 32 (by decide)) (n_X hst (next_C (mod_lt_LL _) hx (by omega)) rfl λ_=>n_N hst rfl hK rfl ?_));refine s_drawnN 8 (by kernel_rfl) λG S w0 hst=>?_;refine n_auto2 hst rfl (n_cell hst rfl arr4 (by show q<4;omega) (.int .u64 (v:Int)) rd ?_);have hm:v%4294967296<4294967296:=cO _ (aC rfl);refine n_auto2 hst rfl (n_num 25 ((v%4294967296:Nat):Int) rfl (mask32 v hvl) (n_X hst (next_C (mod_lt_LL _) hx hm) rfl λ_=>?_));rw [hR];refine n_L hst rfl (l_E rfl (hK3 _ ?_));refine zD rfl ?_;exact zX (q,(q:Int)-1) ⟨by show q<=4;omega,rfl⟩ (Nat.lt_succ_self q) ⟨⟨congrArg (λx=>some (SV.v (.int .i64 x))) (by show IntKind.i64.wrap ((q:Int)-1)=_;rw [i64_left,wrap64_in _ (by omega)]),rfl,rfl,rfl,rfl,trivial⟩,zL rfl rfl, .refl _,λ_ h _=>h,λ_ h=>h⟩
 ·obtain rfl:j=0:=by omega
  have e6:R 0=x*y%LL:=by show x*(y/18446744073709551616^0)%LL=_;rw [lH,tQ]
  refine s_exit (zS (zS (k_out (hK1 _ ?_))));refine zA rfl (zP ?_);rw [<-e6]
  exact zR zY () rfl (by decide) rfl rfl rfl (λ_ _ _=>trivial) λ_ _=>trivial⟩
omit [Pst F] in
theorem schash_C{n:Nat}:Ct F 99 [eS n] (one (.q (eY 32 (Nums.bytes 32 n)))):=⟨own_schash,Spec.pure (eY_ok (bW _ _)).1 λw _=>schash_f n w⟩
theorem scnew_C{b:List UInt8}(hb:b.length=32):Ct F 108 [eY 32 b] (one (.t [eS (if le b<LL then le b else 0),.c (.v (.bool (decide (le b<LL))))])):=⟨own_scnew,by
 have hl:=cop_half hb;obtain⟨c,hc⟩:∃c,c=cop z64 0 b:=⟨_,rfl⟩;have h1:c.length=64:=hc▸hl.1;have h2:le c=le b:=hc▸hl.2;refine zQ [eY 32 b] 17 Tryz.func108 rfl (by rw [Tryz.ntmps108];rfl) (one_ok (eY_ok hb).1) λB=>?_;refine zA rfl (zA rfl ?_);refine s_N 2 [] (by kernel_rfl) λK hK G S w0 hst=>n_L hst rfl ?_;refine l_copyW (z:=z64) (ps:=[.agg 32 (By b).toArray]) b rfl rfl rfl rfl rfl rfl rfl rfl ((src_one 0 _).trans (congrArg By (all32 rfl))) rfl hb (by rw [hb];exact aC rfl) (by rw [hb];exact aC rfl) (l_E rfl (hK _ ?_));rw [<-hc];refine s_reg λK hK=>l_X (wide_C h1) (λ_=>rfl) rfl λ_=>?_;rw [h2];refine l_N hK rfl ?_;refine zM λK1 hK1=>?_;refine s_N 4 [] (by kernel_rfl) λK hK G S w0 hst=>n_X hst schash_C rfl λ_=>?_;refine n_auto2 hst rfl (n_op hst (.b (!decide (Nums.bytes 32 (le b%LL)=b))) trivial rfl rfl rfl (run_neqY rfl rfl rfl Tryz.underlying45 (by kernel_rfl) (bW _ _) hb) ?_);rw [uV hb];refine n_N hst rfl hK rfl ?_;refine s_if (!decide (le b<LL)) rfl (λh=>?_) (λh=>?_)
 ·have hq:¬le b<LL:=λhq=>by rw [decide_eq_true hq] at h;cases h
  refine zA rfl (zP ?_);rw [decide_eq_false hq,if_neg hq];exact zR zY () rfl (by decide) rfl rfl rfl (λ_ _ _=>trivial) λ_ _=>trivial
 ·have hq:le b<LL:=of_decide_eq_true (by rw [Bool.not_eq_false'] at h;exact h)
  rw [aY hq];refine zO (hK1 _ ?_);refine zA rfl (zP ?_);rw [decide_eq_true hq,if_pos hq]
  exact zR zY () rfl (by decide) rfl rfl rfl (λ_ _ _=>trivial) λ_ _=>trivial⟩
end
theorem wide_f{l:List UInt8}(hl:l.length=64)(w:World):Calls Tryz.prog 102 #[.agg (By l).toArray] w λe w'=>e = .returned (.agg (Us (ws (le l%LL))).toArray)/\Below w.heap.size w w' :=
 haveI:Pst λ_:World=>True:=⟨λ_ _ h _=>h⟩
 (wide_C (F:=λ_=>True) hl).row trivial
end Go.Proofs.YtlhlkofpjhpaoaaGreatDoor
namespace Go.Proofs.YtlhlkofpjhpaoaaGreatDoor
open Go.RowKit Go.IntWalk
section
variable{b:Base}{ops:Array Oper}{Q:Exit->Act->World->Prop}{N:Nat}{E:SE}{L:List LV}{R R':List Res}{F M F':World->Prop}{o:Oper}{rest:List Oper}{k:Nat}{α:Type}{post:Post α}{own:List Res}{f:FuncId}{y:Operand}{xs:Array Operand}{ats:Array TypeId}{svs:List SV}{caps:List Value}
theorem callV_run{G:Nat->Nat}{a:Act}{w:World}(hf:Own f)(ho:o.op = .call { callee:=.value y,args:=xs,argTypes:=ats })(hy:evS E y=some (.v (.func (.func f) #[] caps.toArray)))(hx:evSs E xs.toList=some svs)(ha:Fr N (denE G E) a) :
  (execOp a.eval o).run Tryz.prog w = .ok (.enter f (svs.map (SV.den G)++caps).toArray) w:=by
 have h1:a.eval y = .func (.func f) #[] caps.toArray:=ha.eval (evS_ok hy);have h2:=map_eval (args:=(svs.map (SV.den G)).toArray) (ha.evals _ _ (by rw [evSs_ok hx]));have h3:=hf (svs.map (SV.den G)++caps).toArray w
 have e:(svs.map (SV.den G)).toArray++caps.toArray=(svs.map (SV.den G)++caps).toArray:=by simp
 obtain⟨dst,op,ty,pos,af,gd⟩:=o;simp only at ho;subst ho
 unfold execOp
 simp only [resolve,h1,h2,Deferred.ofValue,aG,aH,aD,invoke]
 simp [e,h3]
theorem l_callV(args:List Value)(hg:o.guard=none)(hd:o.dst=some k)(hk:aQ k N=true)(hf:Own f)(ho:o.op = .call { callee:=.value y,args:=xs,argTypes:=ats })(hy:evS E y=some (.v (.func (.func f) #[] caps.toArray)))(hx:evSs E xs.toList=some svs)
 (ha:∀G:Nat->Nat,(∀x∈L,∀g,x.g=some g->G x.j=g)->svs.map (SV.den G)++caps=args)(hs:Spec f args own F' post)(hF:∀w,F w->M w->F' w)
 (hn:∀x,lS Tryz.prog b ops Q N rest ⟨(k,(post.ret x).sv)::E,L,post.own x++R',λw=>post.p x w/\F w,λw=>post.n x w/\M w⟩):lS Tryz.prog b ops Q N (o::rest) ⟨E,L,own++R',F,M⟩:=λa w ⟨G,S,h1,h2,h3⟩=>by
 have hr:=callV_run (w:=w) hf ho hy hx h1;rw [ha G λx hx=>(h3.var x hx).2.2] at hr
 unfold wpList
 rw [if_pos (by simp [Region.wanted,hg])];refine .inl ?_
 unfold Oper.wp
 rw [hr];simp only [Oper.upon,hd];refine(h3.callA hs hF).mono ?_
 rintro e w' ⟨x,S',rfl,hok,h4⟩
 have h5:=h1.put hk (post.ret x).den;rw [<-RV.sv_den _ G] at h5;have h6:=hn x _ w' ⟨G,S',h5,h2.cons hok,h4⟩;rw [RV.sv_den] at h6;exact h6
theorem run_makeF{fn:Fn}{vals:List Value}(ho:o.op = .makeFunc fn #[] xs)(hx:evSs E xs.toList=some svs)(hv:∀G:Nat->Nat,svs.map (SV.den G)=vals) :
  ∀(G:Nat->Nat) (a:Act) (w:World),Fr N (denE G E) a->(execOp a.eval o).run Tryz.prog w = .ok (.value ((SV.v (.func fn #[] vals.toArray)).den G)) w:=λG a w ha=>by
 have h2:=map_eval (args:=(svs.map (SV.den G)).toArray) (ha.evals _ _ (by rw [evSs_ok hx]));rw [hv G] at h2
 unfold execOp
 simp only [ho]
 simp [h2,Instr.makeFunc]
 rfl
end
theorem setRow_same{w:World}{g t:Nat}{cs:Array Value}(h:Blk w g t cs):w.setRow g cs=w:=setRow_self w g cs t (0,0) h
def clr(z:List UInt8)(o:Nat):List UInt8:=z.take o++aA (z.length-o) 0
theorem clr_len{z:List UInt8}{o:Nat}(h:o<=z.length):(clr z o).length=z.length:=by
 simp [clr]
 omega
theorem wpl_clear{ops:Array Oper}{rest:List Oper}{op:Oper}{a:Act}{w:World}{Q:Exit->Act->World->Prop}(x:Operand)(hgd:op.guard=none)(ho:op.op = .call { callee:=.builtin .clear,args:=#[x],argTypes:=#[51] })
 (g o n c:Nat)(A:Option Addr)(hx:a.eval x = .slice A n c)(hA:0<n->A=some ⟨g,o,none⟩)(z:List UInt8)(t:Nat)(hz:Blk w g t (By z).toArray)(hn:o+n=z.length)
 (z':List UInt8)(hz':Hid (clr z o=z'))(h:wpList Tryz.prog ops Q rest (a.put op.dst (.tuple #[])) (w.setRow g (By z').toArray)):wpList Tryz.prog ops Q (op::rest) a w:=by
 rw [<-hz'.out] at h;refine wpList_plain hgd λK hK=>?_
 have hrun:(qG #[51] op.type #[.slice A n c]).run Tryz.prog w = .ok (.tuple #[]) (w.setRow g (By (clr z o)).toArray):=by
  by_cases h0:n=0
  ·subst h0
   have e:clr z o=z:=by
    unfold clr
    rw [<-hn,eX,g9,List.replicate_zero,bT,bG (by omega)]
   rw [e,setRow_same hz];have hu:=Tryz.underlying51
   cases A<;>simp [qG,run_underlying hu]
  ·obtain rfl:=hA (by omega)
   have hst:=run_storeCells_at (P:=Tryz.prog) g o t (aA n (.int .u8 0)) 0 (By z).toArray w hz (by rw [bE,aT,By_len];omega) (by intro v hv;rw [List.eq_of_mem_replicate hv];rfl)
   have e:((By z).toArray.toList.take (o+0)++aA n (.int .u8 0)++(By z).toArray.toList.drop (o+0+(aA n (bM .u8 0)).length))=By (clr z o):=by
    have hd:(By z).drop (o+n)=[]:=mH (by rw [By_len];omega);simp only [bE,eX,hd,bT]
    unfold clr
    rw [By_app,<-hn,Nat.add_sub_cancel_left]
    simp [By]
   rw [e] at hst
   have hzc:(iO #[.int .u8 0] n).toList=aA n (.int .u8 0):=by
    simp [iO]
    apply cJ
    ·simp
    ·intro i h1 h2
     simp [Nat.mod_one]
   obtain⟨m,rfl⟩:∃m,n=m+1:=⟨n-1,by omega⟩;have hu:=Tryz.underlying51
   simp [qG,run_underlying hu,Value.cells,hzc,hst]
 unfold Oper.wp
 simp [execOp,ho,resolve,invoke,builtin,hx,hrun,Result.andThen]
 exact hK _ _ h
end Go.Proofs.YtlhlkofpjhpaoaaGreatDoor
namespace Go.Proofs.YtlhlkofpjhpaoaaGreatDoor
open Go.RowKit Go.IntWalk Nums
abbrev ObB(g ty n:Nat)(b:List UInt8):Res:=ObjS g ty [.agg n (By b).toArray]
section
variable{b:Base}{ops:Array Oper}{Q:Exit->Act->World->Prop}{N n m k c c2 g ty off:Nat}{E:SE}{L:List LV}{R:List Res}{F M:World->Prop}{rest:List Oper}{o o1 o2:Oper}{t e:TypeId}{x y z:Operand}{K:IntKind}{bb:List UInt8}
theorem catP_one(p:Pt):catP [p]=p.cells:=by
 rw [catP_cons];exact Array.append_empty
theorem obj_bytes{w:World}{S:Nat->Prop}(h:(ObB g ty n bb).holds w S):Blk w g ty (By bb).toArray:=by
 have h1:=h.1.1
 rwa [show catP [.agg n (By bb).toArray]=(By bb).toArray from catP_one _] at h1
theorem l_putO(i j:Nat)(v:UInt8)(hi:R[i]?=some (ObB g ty n bb))(hlen:bb.length=n)(h1:(o1.guard,o1.dst,o1.op)=(none,some k,.indexAddr t x y))(h2:(o2.guard,o2.dst,o2.op)=(none,none,.store e (.tmp k) z))(hk:aQ k N=true)(hx:evS E x=some (.v (.slice (some ⟨g,0,none⟩) n c)))(hy:evS E y=some (.v (.int K (j:Int))))(hz:evS E z=some (.v (.int .u8 (v.toNat:Int))))(hf:lookS E k=none)(ht:Tryz.prog.underlying t=some (.slice e))(he:(Tryz.prog.info? e).map (·.size)=some 1)(hj:j<n)
 (hn:lS Tryz.prog b ops Q N rest ⟨(k,.v (.pointer (some ⟨g,0+1*j,none⟩)))::E,L,R.set i (ObB g ty n (bb.set j v)),F,M⟩):lS Tryz.prog b ops Q N (o1::o2::rest) ⟨E,L,R,F,M⟩:=by
 simp only [cY] at h1 h2;refine l_op (.v (.pointer (some ⟨g,0+1*j,none⟩))) trivial h1.1 h1.2.1 hk (runO_ixS j h1.2.2 ht he hx hy hj) λa w ⟨G,S,f1,f2,f3⟩=>?_;obtain⟨S1,hobj,hput⟩:=f3.put hi;have hb:=obj_bytes hobj
 have e1:a.eval (.tmp k) = .pointer (some ⟨g,j,none⟩):=by
  have e:=f1.get k _ (by rw [denE,look_cons,if_pos rfl]);rw [aZ,g7] at e;exact e
 have e2:a.eval z = .int .u8 (v.toNat:Int):=f1.eval (evS_ok (evS_new hf hz));have hok:OkP [Pt.agg n (By (bb.set j v)).toArray]:=(eY_ok (by rw [bQ,hlen])).1;have hst:=run_store_part (P:=Tryz.prog) (t:=e) (v:=.int .u8 (v.toNat:Int)) (off:=j) hb (by rw [he];rfl) (by show j+1<=_;rw [aT,By_len];omega) (λu hu=>by rw [aE.1 hu];rfl)
 have ec:((By bb).toArray.toList.take j++(bM .u8 (v.toNat:Int)).cells.toList++(By bb).toArray.toList.drop (j+(bM .u8 (v.toNat:Int)).cells.size)).toArray=catP [.agg n (By (bb.set j v)).toArray]:=by
  rw [catP_one]
  apply Array.ext'
  show(By bb).take j++[_]++(By bb).drop (j+1)=By (bb.set j v)
  rw [By,By,List.map_set,List.set_eq_take_append_cons_drop,if_pos (by rw [bO,hlen];exact hj)]
  simp
 rw [ec] at hst;obtain⟨S'',h6⟩:=hput (ObB g ty n (bb.set j v)) (w.setRow g (catP [.agg n (By (bb.set j v)).toArray])) S1 ((Chg.row w g _).mono λk _ hk=>(hobj.2 k).2 hk) ⟨⟨hb.row _,hok⟩,hobj.2⟩ (λk hk _=>hk)
 refine wpl_skip (w':=w.setRow g (catP [.agg n (By (bb.set j v)).toArray])) (oneS h2.1) (by
  unfold execOp
  simp only [h2.2.2,e1,e2,hst,aG,aH,aD]) ?_
 rw [h2.2.1];exact hn _ _ ⟨G,S'',f1,f2,h6⟩
theorem l_clearO{A:Option Addr}(i:Nat)(hi:R[i]?=some (ObB g ty n bb))(hlen:bb.length=n)(h1:(o.guard,o.dst,o.op)=(none,none,.call { callee:=.builtin .clear,args:=#[x],argTypes:=#[51] }))(hx:evS E x=some (.v (.slice A m c)))(hA:0<m->A=some ⟨g,off,none⟩)(hm:off+m=n)
 (hn:lS Tryz.prog b ops Q N rest ⟨E,L,R.set i (ObB g ty n (clr bb off)),F,M⟩):lS Tryz.prog b ops Q N (o::rest) ⟨E,L,R,F,M⟩:=λa w ⟨G,S,f1,f2,f3⟩=>by
 simp only [cY] at h1;obtain⟨S1,hobj,hput⟩:=f3.put hi;have hb:=obj_bytes hobj;have hok:OkP [Pt.agg n (By (clr bb off)).toArray]:=(eY_ok (by rw [clr_len (by omega),hlen])).1;obtain⟨S'',h6⟩:=hput (ObB g ty n (clr bb off)) (w.setRow g (By (clr bb off)).toArray) S1 ((Chg.row w g _).mono λk _ hk=>(hobj.2 k).2 hk) ⟨⟨by rw [show catP [.agg n (By (clr bb off)).toArray]=(By (clr bb off)).toArray from catP_one _];exact hb.row _,hok⟩,hobj.2⟩ (λk hk _=>hk);refine wpl_clear x h1.1 h1.2.2 g off m c A (f1.eval (evS_ok hx)) hA bb ty hb (by rw [hlen];exact hm) (clr bb off) (c9 rfl) ?_;rw [h1.2.1];exact hn _ _ ⟨G,S'',f1,f2,h6⟩
theorem l_copyO{A:Option Addr}{l:List UInt8}(i:Nat)(hi:R[i]?=some (ObB g ty n bb))(hlen:bb.length=n)(h1:(o.guard,o.dst,o.op)=(none,some k,.call { callee:=.builtin .copy,args:=#[x,y],argTypes:=#[51,51] }))(hk:aQ k N=true)(hx:evS E x=some (.v (.slice (some ⟨g,off,none⟩) m c)))(hy:evS E y=some (.v (.slice A l.length c2)))(hm:off+m=n)(h0:0<l.length)(hrd:∀G S w,View G S L R F M w->Rd 1 eB A c2 l w)
 (hn:lS Tryz.prog b ops Q N rest ⟨(k,.v (.int .i64 ((min l.length m:Nat):Int)))::E,L,R.set i (ObB g ty n (cop bb off (l.take m))),F,M⟩):lS Tryz.prog b ops Q N (o::rest) ⟨E,L,R,F,M⟩:=λa w ⟨G,S,f1,f2,f3⟩=>by
 simp only [cY] at h1;have hR:=hrd G S w f3.view;obtain⟨S1,hobj,hput⟩:=f3.put hi;have hb:=obj_bytes hobj
 have hl:(l.take m).length=min l.length m:=by rw [aU,Nat.min_comm]
 have hle:off+(l.take m).length<=bb.length:=by rw [hl];omega
 have hok:OkP [Pt.agg n (By (cop bb off (l.take m))).toArray]:=(eY_ok (by rw [cop_len hle,hlen])).1;obtain⟨S'',h6⟩:=hput (ObB g ty n (cop bb off (l.take m))) (w.setRow g (By (cop bb off (l.take m))).toArray) S1 ((Chg.row w g _).mono λk _ hk=>(hobj.2 k).2 hk) ⟨⟨by rw [show catP [.agg n (By (cop bb off (l.take m))).toArray]=(By (cop bb off (l.take m))).toArray from catP_one _];exact hb.row _,hok⟩,hobj.2⟩ (λk hk _=>hk);obtain⟨bk,oo,rfl,_,hcell⟩:=hR.2.2.2.2 h0;refine wpList_copy_own h1.1 x y 51 51 h1.2.2 5 Tryz.underlying51 size_u8 g off m c ⟨bk,oo,none⟩ l.length c2 (f1.eval (evS_ok hx)) (f1.eval (evS_ok hy)) (By bb).toArray ty hb (By (l.take m)) (by rw [By_len,hl]) ?_ (by rw [By_len,aT,By_len];exact hle) (By_one _) ?_
 ·intro j v hv
  obtain⟨x,hx1,rfl⟩:=By_at hv;rw [dE] at hx1
  split at hx1
  ·have:=hcell j x hx1 0 (.int .u8 (x.toNat:Int)) rfl
   rw [dA]
   simpa using this
  ·cases hx1
 ·have e:(By bb).toArray.toList.take off++(By (l.take m)++(By bb).toArray.toList.drop (off+(By (l.take m)).length))=By (cop bb off (l.take m)):=by
   simp [cop,By]
  rw [e,h1.2.1,By_len,hl];exact hn _ _ ⟨G,S'',f1.put hk _,f2.cons trivial,h6⟩
end
theorem be64_len(v:Nat):(iT v).length=8:=by
 unfold iT
 rw [fJ,bW]
theorem be64_mod(v:Nat):iT (v%18446744073709551616)=iT v:=by
 unfold iT
 congr 1
 refine mO (by rw [bW,bW]) ?_;rw [iM,iM];exact Nat.mod_mod _ _
theorem be64_get{v i:Nat}(h:i<8):((iT v)[7-i]!).toNat=v/256^i%256:=by
 have hl:(Nums.bytes 8 v).length=8:=bW _ _
 have e:(iT v)[7-i]! = (Nums.bytes 8 v)[i]!:=by
  unfold iT
  rw [getElem!_pos _ _ (by rw [fJ,hl];omega),o8,getElem!_pos _ i (by rw [hl];exact h)]
  congr 1
  rw [hl]
  omega
 rw [e,bytes_get _ _ h]
def eig(c e:List UInt8)(n i:Nat):List UInt8:=c.take (n-i)++e.drop (8-i)
theorem eig_len{c e:List UInt8}{n i:Nat}(hc:c.length=n)(he:e.length=8)(hi:i<=8)(hn:8<=n):(eig c e n i).length=n:=by
 unfold eig
 rw [aB,aU,dC]
 omega
theorem eig_zero{c e:List UInt8}{n:Nat}(hc:c.length=n)(he:e.length=8):eig c e n 0=c:=by
 unfold eig
 rw [bG (by omega),gW (by omega),bT]
theorem eig_set{c e:List UInt8}{n i:Nat}(hc:c.length=n)(he:e.length=8)(hi:i<8)(hn:8<=n):(eig c e n i).set (n-1-i) e[7-i]! = eig c e n (i+1):=by
 unfold eig
 have h1:c.take (n-i)=c.take (n-(i+1))++[c[n-(i+1)]!]:=by
  rw [show n-i=n-(i+1)+1 by omega,gA (by omega),getElem!_pos c _ (by omega)]
 have h2:e.drop (8-(i+1))=e[7-i]! :: e.drop (8-i):=by
  rw [lD (by omega),getElem!_pos e _ (by omega)]
  congr 1
  ·congr 1
   omega
  ·congr 1
   omega
 have hl:(c.take (n-(i+1))).length=n-(i+1):=by rw [aU];omega
 rw [h1,h2,a6,fS _ _ (by omega),hl,show n-1-i-(n-(i+1))=0 by omega]
 rfl
theorem clr_set{b:List UInt8}{n r:Nat}(hb:b.length=n)(hr:r<n):clr (b.set r 128) (r+1)=b.take r++128::aA (n-1-r) 0:=by
 unfold clr
 rw [bQ,hb]
 have h1:(b.set r 128).take (r+1)=b.take r++[128]:=by
  rw [gA (by rw [bQ];omega),List.getElem_set_self,List.take_set_of_le (aF r)]
 rw [h1,a6,show n-(r+1)=n-1-r by omega]
 rfl
theorem clr_all(c:List UInt8):clr c 0=aA c.length 0:=by
 unfold clr
 simp
theorem end_one{s:Sha}{b:List UInt8}{n r v:Nat}{o:Oct}(hn:64<=n)(hb:b.length=n)(hr:r<n)(h:r+1<=n-n/8) :
  fP s o (eig (b.take r++128::aA (n-1-r) 0) (iT v) n 8)=eH s n o (b.take r++eC n r v):=by
 have h8:n/8*8<=n:=Nat.div_mul_le_self n 8
 have h9:2<=n/8:=by omega
 have e:eig (b.take r++128::aA (n-1-r) 0) (iT v) n 8=b.take r++eC n r v:=by
  unfold eig eC
  have hl:(b.take r).length=r:=by rw [aU];omega
  rw [if_pos h,List.take_append,hl,bG (by omega),a6,g9,kT]
  congr 1
  rw [show n-8-r=(n-9-r)+1 by omega,List.take_succ_cons,List.take_replicate,cM (by omega),mS]
 rw [e]
 have hl:(b.take r++eC n r v).length=n:=by
  rw [<-e,eig_len (by rw [aB,aU,bD,bE];omega) (be64_len _) (aF _) (by omega)]
 have h0:=fX (s:=s) (B:=n) (o:=o) (b:=b.take r++eC n r v) (l:=[]) (by omega) hl;rw [bT] at h0;rw [h0,fW (by simp only [lC];omega)]
theorem end_two{s:Sha}{b:List UInt8}{n r v:Nat}{o:Oct}(hn:64<=n)(hb:b.length=n)(hr:r<n)(h:¬r+1<=n-n/8) :
  fP s (fP s o (b.take r++128::aA (n-1-r) 0)) (eig (aA n 0) (iT v) n 8)=eH s n o (b.take r++eC n r v):=by
 have hl1:(b.take r++128::aA (n-1-r) 0).length=n:=by
  rw [aB,aU,bD,bE]
  omega
 have hl2:(eig (aA n 0) (iT v) n 8).length=n:=eig_len (bE) (be64_len _) (aF _) (by omega)
 have e:b.take r++eC n r v=(b.take r++128::aA (n-1-r) 0)++eig (aA n 0) (iT v) n 8:=by
  unfold eC eig
  rw [if_neg h,a6,mS,g9,kT,List.take_replicate,cM (by omega),<-a6 (aA _ 0),List.replicate_append_replicate]
  congr 4
  omega
 have h0:=fX (s:=s) (B:=n) (o:=fP s o (b.take r++128::aA (n-1-r) 0)) (b:=eig (aA n 0) (iT v) n 8) (l:=[]) (by omega) hl2;rw [bT] at h0;rw [e,fX (by omega) hl1,h0,fW (by simp only [lC];omega)]
end Go.Proofs.YtlhlkofpjhpaoaaGreatDoor
namespace Nums
theorem vB{t r b:List UInt8}{n:Nat}(ht:b.take t.length=t):(Go.Proofs.YtlhlkofpjhpaoaaGreatDoor.cop b t.length (r.take (n-t.length))).take (t.length+min r.length (n-t.length))=t++r.take (n-t.length):=by
 unfold Go.Proofs.YtlhlkofpjhpaoaaGreatDoor.cop
 rw [ht,<-a6]
 have hl:(t++r.take (n-t.length)).length=t.length+min r.length (n-t.length):=by
  rw [aB,aU,Nat.min_comm]
 rw [<-hl,List.take_left]
theorem uB{s:Sha}{n k:Nat}{o:Oct}{a z:List UInt8}(hn:0<n)(ha:a.length=k*n)(hz:z.length=n):fP s (eH s n o a) z=eH s n o (a++z):=by
 rw [jY hn k ha];have h:=fX (s:=s) (B:=n) (o:=eH s n o a) (b:=z) (l:=[]) hn hz;rw [bT] at h;have h2:=fW (s:=s) (B:=n) (o:=fP s (eH s n o a) z) (l:=[]) (by simpa using hn);rw [h,h2]
theorem vJ{s:Sha}{n k:Nat}{o:Oct}{a t x:List UInt8}(hn:0<n)(ha:a.length=k*n):eH s n (eH s n o a) (t++x)=eH s n o ((a++t)++x):=by
 rw [a6,jY hn k ha]
theorem sY(n r v:Nat):eC n r (8*(v%18446744073709551616))=eC n r (8*v):=by
 unfold eC
 have e:iT (8*(v%18446744073709551616))=iT (8*v):=by
  have h1:=Go.Proofs.YtlhlkofpjhpaoaaGreatDoor.be64_mod (8*(v%18446744073709551616));have h2:=Go.Proofs.YtlhlkofpjhpaoaaGreatDoor.be64_mod (8*v);rw [<-h1,<-h2]
  congr 1
  omega
 rw [e]
end Nums
namespace Go.Proofs.YtlhlkofpjhpaoaaGreatDoor
open Go.RowKit Go.IntWalk Nums
structure BK where
  s:Sha
  n:Nat
  th:TypeId
  tb:TypeId
  eo:Oct->List Pt
  f:FuncId
abbrev BK.R(k:BK)(gh gb:Nat)(o:Oct)(b:List UInt8):List Res:=[ObjS gh k.th (k.eo o),ObB gb k.tb k.n b]
abbrev atG(g:Nat):Value:=.pointer (some ⟨g,0,none⟩)
abbrev BK.take(k:BK)(gh gb:Nat):Value:=.func (.func k.f) #[] [atG gh,atG gb].toArray
abbrev BK.post(k:BK)(gh gb:Nat)(o:Oct):Post {b:List UInt8 // b.length=k.n}:={ ret:=λ_=>.t [],own:=λb=>k.R gh gb o b.1 }
structure BK.Ok(k:BK):Prop where
  n64:64<=k.n
  n128:k.n<=128
  own:Own k.f
  tk:∀{gh gb:Nat} {o:Oct} {b:List UInt8},OB k.s.w o->b.length=k.n->Spec k.f [atG gh,atG gb] (k.R gh gb o b) Ts { ret:=λ_:Unit=>.t [],own:=λ_=>k.R gh gb (fP k.s o b) b }
section
variable{k:BK}{gh gb:Nat}
theorem end_S(hk:k.Ok){r v:Nat}{o:Oct}{b:List UInt8}(ho:OB k.s.w o)(hb:b.length=k.n)(hr:r<k.n) :
  Spec 124 [.slice (some ⟨gb,0,none⟩) k.n k.n,.int .i64 (r:Int),.int .u64 (v:Int),k.take gh gb] (k.R gh gb o b) Ts (k.post gh gb (eH k.s k.n o (b.take r++eC k.n r (8*v)))):=by
 have h64:=hk.n64;have h128:=hk.n128;refine zQ [.c (.v (.slice (some ⟨gb,0,none⟩) k.n k.n)),.c (.v (.int .i64 (r:Int))),.c (.v (.int .u64 (v:Int))),.c (.v (k.take gh gb))] 48 Tryz.func124 rfl (by rw [Tryz.ntmps124];rfl) (more_ok trivial (more_ok trivial (two_ok trivial trivial))) λB=>?_;refine s_reg λK hK=>zB rfl (l_putO 1 r 128 rfl hb rfl rfl rfl rfl rfl rfl rfl Tryz.underlying51 size_u8 hr (l_N hK rfl ?_))
 have hcut:cutA (some ⟨gb,0,none⟩) k.n (r+1)=some ⟨gb,r+1,none⟩\/k.n-(r+1)=0:=by
  unfold cutA
  by_cases h:k.n=r+1
  ·exact .inr (by omega)
  ·rw [if_neg h]
   exact .inl (by rw [bI,dA,aZ])
 refine s_reg λK hK=>zB rfl (l_num 15 ((r+1:Nat):Int) rfl (addI r 1 (by omega)) (l_op (.v (.slice (cutA (some ⟨gb,0,none⟩) k.n (r+1)) (k.n-(r+1)) (k.n-(r+1)))) trivial rfl rfl rfl (run_cutLo (by omega) (aF _) (λh=>by cases h) rfl rfl rfl) ?_));refine l_clearO (off:=r+1) 1 rfl (by rw [bQ,hb]) rfl rfl (λh=>hcut.resolve_right (by omega)) (by omega) ?_;rw [clr_set hb hr];refine l_N hK rfl ?_
 have hlen:∀c:List UInt8,(b.take r++128::c).length=r+1+c.length:=λc=>by rw [aB,aU,bD,hb];omega
 have he:=be64_len (8*v);generalize hP:eH k.s k.n o (b.take r++eC k.n r (8*v))=P
 let V:Oct->List UInt8->SE->Env:=λo c E=>⟨E++[(0,.v (.slice (some ⟨gb,0,none⟩) k.n k.n)),(2,.v (.int .u64 (v:Int))),(3,.v (k.take gh gb))],[],k.R gh gb o c,Ts,λ_=>True⟩
 refine zM λK1 hK1=>?_;have go:∀(o:Oct) (c:List UInt8),OB k.s.w o->c.length=k.n->fP k.s o (eig c (iT (8*v)) k.n 8)=P->∀e,Weak e (V o c [])->kS B K1 48 e:=λo c ho hc hend e hw=>k_weak hw (hK1 _ ?_)
 ·refine s_reg λK hK=>zB rfl ?_
  refine l_eq 25 (.b (decide (r+1>k.n-k.n/8))) rfl ?_ (zJ (hK _ ?_))
  ·show SV.b (decide (IntKind.i64.wrap ((r:Int)+((1:Nat):Int))>IntKind.i64.wrap ((k.n:Int)-IntKind.i64.wrap ((k.n:Int).tdiv ((8:Nat):Int)))))=_
   rw [addI r 1 (by omega),wrapQ k.n 8 (by omega),subI k.n (k.n/8) (by omega) (by omega)];exact congrArg SV.b (decide_eq_decide.2 (by omega))
  refine zW (r+1>k.n-k.n/8) rfl (λhgt=>?_) (λhle=>?_)
  ·have hl0:(b.take r++128::aA (k.n-1-r) 0).length=k.n:=by rw [hlen,bE];omega
   refine s_reg λK hK=>zB rfl (l_callV (own:=k.R gh gb o (b.take r++128::aA (k.n-1-r) 0)) (R':=[]) [atG gh,atG gb] rfl rfl rfl hk.own rfl rfl rfl (λ_ _=>rfl) (hk.tk ho (by rw [hlen,bE];omega)) (λw h _=>h) λ_=>l_R (k.R gh gb (fP k.s o (b.take r++128::aA (k.n-1-r) 0)) (b.take r++128::aA (k.n-1-r) 0)) rfl (l_N hK rfl ?_));refine s_lit (zB rfl (l_clearO (off:=0) 1 rfl (by rw [hlen,bE];omega) rfl rfl (λ_=>rfl) (aZ _) ?_));rw [clr_all,hl0];exact l_E rfl (go _ _ (OB.fP _ _ _) bE (by rw [end_two h64 hb hr (by omega)];exact hP) _ ⟨zE rfl, trivial, .refl _,λ_ h _=>h.2, zU⟩)
  ·exact zO (go _ _ ho (by rw [hlen,bE];omega) (by rw [end_one h64 hb hr (by omega)];exact hP) _ ⟨zE rfl, trivial, .refl _,λ_ h _=>h,λ_ h=>h⟩)
 ·refine s_reg λK hK=>zB rfl (l_num 8 (((8*v)%18446744073709551616:Nat):Int) rfl (by
   show IntKind.u64.wrap ((v:Int)*8)=_
   rw [IntKind.wrap_u64]
   omega) (zJ (hK _ ?_)))
  have hbe:=be64_mod (8*v);rw [<-hbe] at hend;generalize (8*v)%18446744073709551616=u at *;have heu:=be64_len u;have hel:∀i,i<=8->(eig c (iT u) k.n i).length=k.n:=λi hi=>eig_len hc heu hi (by omega);refine zM λK2 hK2=>?_;refine zA rfl (zN ?_)
  let W:Nat->Env:=λi=>⟨[(31,.v (.int .i64 (i:Int))),(8,.v (.int .u64 ((u/256^i:Nat):Int))),(0,.v (.slice (some ⟨gb,0,none⟩) k.n k.n)),(3,.v (k.take gh gb))],[],k.R gh gb o (eig c (iT u) k.n i),Ts,λ_=>True⟩
  refine c_weak (e':=W 0) ⟨⟨rfl,congrArg (λx:Nat=>some (SV.v (.int .u64 (x:Int)))) (by rw [lH,tQ]),rfl,rfl,trivial⟩,trivial,.of_eq (congrArg (k.R gh gb o) (eig_zero hc heu).symm),λ_ h _=>h,λ_ h=>h⟩ (s_loop (λi=>8-i) W (λi=>i<=8) ?_ 0 (aI _))
  rintro i hi
  refine zA rfl (zM λK3 hK3=>?_);refine zW ((i:Int)<8) rfl (λhlt=>?_) (λhge=>?_)
  ·have hlt:i<8:=by omega
   refine zO (hK3 _ (zM λK4 hK4=>?_));refine zN (zA rfl ?_)
   refine s_reg λK hK=>zB rfl (l_num 39 ((k.n-1-i:Nat):Int) rfl (by
    show IntKind.i64.wrap (IntKind.i64.wrap ((k.n:Int)-((1:Nat):Int))-(i:Int))=_
    rw [subI k.n 1 (by omega) (by omega),subI (k.n-1) i (by omega) (by omega)]) (l_num 41 (((iT u)[7-i]!).toNat:Int) rfl (by
    show IntKind.u8.wrap ((u/256^i:Nat):Int)=_
    rw [pQ,be64_get hlt]
    omega) ?_))
   refine l_putO 1 (k.n-1-i) ((iT u)[7-i]!) rfl (hel i (by omega)) rfl rfl rfl rfl rfl rfl rfl Tryz.underlying51 size_u8 (by omega) ?_;rw [eig_set hc heu hlt (by omega)];refine l_N hK rfl ?_
   refine s_lit (l_auto2 rfl (l_num 8 ((u/256^(i+1):Nat):Int) rfl (by
    show Int.fdiv ((u/256^i:Nat):Int) (2^min 8 IntKind.u64.bits)=_
    rw [kw64.shr 8 (by decide),jT,show(256:Nat)^i*2^8=256^(i+1) from rfl]) (zJ (hK4 _ ?_))))
   refine zD rfl ?_;exact zX (i+1) hlt (by omega) ⟨⟨congrArg (λx=>some (SV.v (.int .i64 x))) (addI i 1 (by omega)),rfl,rfl,rfl,trivial⟩,trivial,.refl _,λ_ h _=>h,λ_ h=>h⟩
  ·obtain rfl:i=8:=by omega
   refine s_exit (zS (zS (k_out (hK2 _ ?_))));refine s_lit (zB rfl (l_callV (own:=k.R gh gb o (eig c (iT u) k.n 8)) (R':=[]) [atG gh,atG gb] rfl rfl rfl hk.own rfl rfl rfl (λ_ _=>rfl) (hk.tk ho (hel 8 (aF _))) (λw h _=>h) λ_=>l_R (k.R gh gb P (eig c (iT u) k.n 8)) (by rw [<-hend];rfl) (l_E rfl ?_)));exact zR zY ⟨eig c (iT u) k.n 8,hel 8 (aF _)⟩ rfl (by decide) rfl rfl rfl (λ_ _ _=>trivial) λ_ _=>trivial
end
structure FIq(k:BK)(o0:Oct)(m:List UInt8)(o:Oct)(c:List UInt8)(f:Nat):Prop where
  len:c.length=k.n
  ob:OB k.s.w o
  lt:f<k.n
  so:∃a j,m=a++c.take f/\a.length=j*k.n/\o=eH k.s k.n o0 a
section
variable{k:BK}{o0 o:Oct}{m c r:List UInt8}{f f':Nat}
theorem FIq.more(h:FIq k o0 m o c f)(hq:f+min r.length (k.n-f)=f'):(cop c f (r.take (k.n-f))).length=k.n/\(cop c f (r.take (k.n-f))).take f'=c.take f++r.take (k.n-f):=by
 have h1:(c.take f).length=f:=by rw [aU,h.len];have:=h.lt;omega
 have h2:=vB (t:=c.take f) (r:=r) (b:=c) (n:=k.n) (by rw [h1]);rw [h1,hq] at h2;exact⟨by rw [cop_len (by rw [aU,h.len];have:=h.lt;omega),h.len],h2⟩
theorem take_min(r:List UInt8)(n:Nat):r.take (min r.length n)=r.take n:=by
 rcases Nat.le_total r.length n with h|h
 ·rw [cM h,fU,bG h]
 ·rw [Nat.min_eq_right h]
theorem FIq.part(h:FIq k o0 m o c f)(hq:f+min r.length (k.n-f)≠k.n):FIq k o0 (m++r.take (min r.length (k.n-f))) o (cop c f (r.take (k.n-f))) (f+min r.length (k.n-f)):=by
 obtain⟨h1,h2⟩:=h.more (r:=r) rfl;obtain⟨a,j,rfl,e2,e3⟩:=h.so;refine⟨h1,h.ob,by have:=h.lt;omega,a,j,?_,e2,e3⟩;rw [h2,take_min,a6]
theorem FIq.full(h:FIq k o0 m o c f)(hk:k.Ok)(hq:f+min r.length (k.n-f)=k.n):FIq k o0 (m++r.take (min r.length (k.n-f))) (fP k.s o (cop c f (r.take (k.n-f)))) (cop c f (r.take (k.n-f))) 0:=by
 have h64:=hk.n64;obtain⟨h1,h2⟩:=h.more (r:=r) hq;rw [bG (by omega)] at h2;obtain⟨a,j,rfl,e2,e3⟩:=h.so;refine⟨h1,OB.fP _ _ _,by omega,a++cop c f (r.take (k.n-f)),j+1,?_,?_,?_⟩
 ·rw [take_min,List.take_zero,bT,h2,a6]
 ·rw [aB,e2,h1,Nat.add_mul,g7]
 ·rw [e3]
  exact uB (by omega) e2 h1
end
theorem fill_S{k:BK}(hk:k.Ok){gh gb:Nat}{P:Option Addr}{pc:Nat}{ss:List Seg}{o0:Oct}{b:List UInt8}(ho:OB k.s.w o0)(hb:b.length=k.n)(hn:ss.length<=9223372036854775807) :
  Spec 86 [.slice (some ⟨gb,0,none⟩) k.n k.n,.slice P ss.length pc,k.take gh gb] (k.R gh gb o0 b) (λw=>Ts w/\PartsF P pc ss w) (k.post gh gb (eH k.s k.n o0 ((ss.map Seg.l).flatten++eC k.n ((ss.map Seg.l).flatten.length%k.n) (8*(ss.map Seg.l).flatten.length)))):=by
 have h64:=hk.n64;have h128:=hk.n128;refine zQ [.c (.v (.slice (some ⟨gb,0,none⟩) k.n k.n)),.c (.v (.slice P ss.length pc)),.c (.v (k.take gh gb))] 48 Tryz.func86 rfl (by rw [Tryz.ntmps86];rfl) (more_ok trivial (two_ok trivial trivial)) λB=>?_;refine zA rfl (zM λK1 hK1=>?_);refine zA rfl (zN ?_)
 let m:Nat->List UInt8:=λi=>((ss.take i).map Seg.l).flatten
 let sz:Nat->Value:=λi=>.int .u64 (((m i).length%18446744073709551616:Nat):Int)
 let V:Nat×Nat×Oct×List UInt8->Env:=λs=>⟨[(13,.v (.int .i64 (s.1:Int))),(12,.v (.int .i64 (ss.length:Int))),(11,.v (.slice P ss.length pc)),(6,.v (.int .i64 (s.2.1:Int))),(7,.v (sz s.1)),(0,.v (.slice (some ⟨gb,0,none⟩) k.n k.n)),(2,.v (k.take gh gb))],[],k.R gh gb s.2.2.1 s.2.2.2,λw=>Ts w/\PartsF P pc ss w,λ_=>True⟩
 refine c_weak (e':=V (0,0,o0,b)) ⟨zE rfl, trivial, .refl _,λ_ h _=>h,λ_ h=>h⟩ (s_loop (λs=>ss.length-s.1) V (λs=>s.1<=ss.length/\FIq k o0 (m s.1) s.2.2.1 s.2.2.2 s.2.1) ?_ (0,0,o0,b) ⟨aI _,hb,ho,by show 0<k.n;omega,[],0,rfl,(Nat.zero_mul _).symm,(fW (by show 0<k.n;omega)).symm⟩)
 rintro⟨i,f,o,c⟩ ⟨hi,hI⟩
 dsimp only at hi hI
 refine zA rfl (zM λK2 hK2=>?_);refine zW ((i:Int)<(ss.length:Int)) rfl (λhlt=>?_) (λhge=>?_)
 ·have hlt:i<ss.length:=by omega
  obtain⟨s,hs⟩:∃s,ss[i]?=some s:=⟨_,List.getElem?_eq_getElem hlt⟩;have hmn:m i++s.l=m (i+1):=take_flatS hs;refine zO (hK2 _ (zM λK3 hK3=>?_));refine zN ?_;refine s_reg λK hK=>l_elem (fe:=eSeg) (x:=s) zY rfl rfl rfl i rfl hs rfl rfl (λ_ _ _ hv=>hv.fact.2.1 (by omega)) (l_N hK rfl ?_)
  refine s_reg λK hK=>zB rfl (l_num 7 (((m (i+1)).length%18446744073709551616:Nat):Int) rfl (by
   show IntKind.u64.wrap ((((m i).length%18446744073709551616:Nat):Int)+IntKind.u64.wrap (s.l.length:Int))=_
   rw [wrapM,kw64.sum,<-aB,hmn]) (zJ (hK _ ?_)))
  refine zN ?_
  let W:Option Addr×Nat×List UInt8×Nat×Oct×List UInt8->Env:=λs=>⟨[(9,.v (.slice s.1 s.2.2.1.length s.2.1)),(13,.v (.int .i64 (i:Int))),(12,.v (.int .i64 (ss.length:Int))),(11,.v (.slice P ss.length pc)),(6,.v (.int .i64 (s.2.2.2.1:Int))),(7,.v (sz (i+1))),(0,.v (.slice (some ⟨gb,0,none⟩) k.n k.n)),(2,.v (k.take gh gb))],[],k.R gh gb s.2.2.2.2.1 s.2.2.2.2.2,λw=>(Ts w/\PartsF P pc ss w)/\Rd 1 eB s.1 s.2.1 s.2.2.1 w,λ_=>True⟩
  refine c_weak (e':=W (s.A,s.c,s.l,f,o,c)) ⟨zE rfl, trivial, .refl _,λ_ h _=>⟨h,h.2.2 s (List.mem_of_getElem? hs)⟩,λ_ h=>h⟩ (s_loop (λs=>s.2.2.1.length) W (λs=>∃d,d++s.2.2.1=m (i+1)/\FIq k o0 d s.2.2.2.2.1 s.2.2.2.2.2 s.2.2.2.1) ?_ (s.A,s.c,s.l,f,o,c) ⟨_,hmn,hI⟩);clear hI hmn
  rintro⟨A,c2,r,f,o,c⟩ ⟨d,hd,hI⟩
  dsimp only at hd hI
  have hf:=hI.lt;refine zM λK4 hK4=>?_;refine zA rfl ?_;refine zW ((r.length:Int)>0) rfl (λhgt=>?_) (λhle=>?_)
  ·have h0:0<r.length:=by omega
   have hcut:cutA (some ⟨gb,0,none⟩) k.n f=some ⟨gb,f,none⟩\/False:=by
    unfold cutA
    rw [if_neg (by omega)];exact .inl (by rw [bI,dA,aZ])
   refine zO (hK4 _ (zN ?_));refine s_reg λK hK=>zB rfl (l_op (.v (.slice (cutA (some ⟨gb,0,none⟩) k.n f) (k.n-f) (k.n-f))) trivial rfl rfl rfl (run_cutLo (by omega) (aF _) (λh=>by cases h) rfl rfl rfl) (l_eq 27 (.v (.slice (some ⟨gb,f,none⟩) (k.n-f) (k.n-f))) rfl (by rw [hcut.resolve_right id]) (zB rfl ?_)));refine l_copyO (off:=f) 1 rfl hI.len rfl rfl rfl rfl (by omega) h0 (rd_fact λw h _=>h.2) (l_N hK rfl ?_);refine s_pure (r.length<=c2/\(A=none->c2=0)) (λw h _=>⟨h.2.1,h.2.2.2.1⟩) λ⟨hc2,hA⟩=>?_;have hq:min r.length (k.n-f)<=r.length:=Nat.min_le_left _ _
   have hq1:0<min r.length (k.n-f):=by omega
   have hq2:min r.length (k.n-f)<=k.n-f:=Nat.min_le_right _ _;have hpt:=λh=>hI.part (r:=r) h;have hfl:=λh=>hI.full (r:=r) hk h;generalize hmin:min r.length (k.n-f)=q at *;generalize cop c f (r.take (k.n-f))=c' at *
   have hd':(d++r.take q)++r.drop q=m (i+1):=by rw [a6,cW,hd]
   have hdl:(r.drop q).length=r.length-q:=dC;refine s_reg λK hK=>zB rfl (l_op (.v (.slice (cutA A c2 q) (r.length-q) (c2-q))) trivial rfl rfl rfl (run_cutLo hq hc2 hA rfl rfl rfl) (zB rfl (zJ (hK _ ?_))));refine s_reg λK hK=>zB rfl (l_num 6 ((f+q:Nat):Int) rfl (addI f q (by omega)) (zJ (hK _ ?_)));refine zA rfl ?_;refine zW (((f+q:Nat):Int)=(k.n:Int)) rfl (λhe=>?_) (λhne=>?_)
   ·have h2:=hfl (by omega)
    refine s_reg λK hK=>zB rfl (l_callV (own:=k.R gh gb o c') (R':=[]) [atG gh,atG gb] rfl rfl rfl hk.own rfl rfl rfl (λ_ _=>rfl) (hk.tk hI.ob h2.len) (λw h _=>h.1.1) λ_=>l_R (k.R gh gb (fP k.s o c') c') rfl (l_N hK rfl ?_));refine zD rfl ?_;exact zX (cutA A c2 q,c2-q,r.drop q,0,fP k.s o c',c') ⟨_,hd',h2⟩ (by show(r.drop q).length<r.length;omega) ⟨⟨congrArg (λx:Nat=>some (SV.v (.slice (cutA A c2 q) x (c2-q)))) hdl.symm,rfl,rfl,rfl,rfl,rfl,rfl,rfl,trivial⟩,trivial,.refl _,λ_ h _=>⟨h.2.1,h.2.2.part hq⟩,λ_ h=>trivial⟩
   ·refine zO ?_
    exact zX (cutA A c2 q,c2-q,r.drop q,f+q,o,c') ⟨_,hd',hpt (by omega)⟩ (by show(r.drop q).length<r.length;omega) ⟨⟨congrArg (λx:Nat=>some (SV.v (.slice (cutA A c2 q) x (c2-q)))) hdl.symm,rfl,rfl,rfl,rfl,rfl,rfl,rfl,trivial⟩,trivial,.refl _,λ_ h _=>⟨h.1,h.2.part hq⟩,λ_ h=>h⟩
  ·obtain rfl:r=[]:=List.eq_nil_of_length_eq_zero (by omega)
   rw [bT] at hd;subst hd;refine s_exit (zS (zS (k_out (hK3 _ ?_))));refine zD rfl ?_;exact zX (i+1,f,o,c) ⟨hlt,hI⟩ (by show ss.length-(i+1)<ss.length-i;omega) ⟨⟨congrArg (λx=>some (SV.v (.int .i64 x))) (addI i 1 (by omega)),rfl,rfl,rfl,rfl,rfl,rfl,trivial⟩,trivial,.refl _,λ_ h _=>h.1,λ_ h=>h⟩
 ·obtain rfl:i=ss.length:=by omega
  obtain⟨a,j,e1,e2,e3⟩:=hI.so
  have hM:m ss.length=(ss.map Seg.l).flatten:=by show((ss.take ss.length).map Seg.l).flatten=_;rw [fU]
  have hf:(ss.map Seg.l).flatten.length%k.n=f:=by
   rw [<-hM,e1,aB,aU,hI.len,e2,cM (Nat.le_of_lt hI.lt),lY,Nat.add_mul_mod_self_right,aY hI.lt]
  have hend:eH k.s k.n o (c.take f++eC k.n f (8*((m ss.length).length%18446744073709551616)))=eH k.s k.n o0 ((ss.map Seg.l).flatten++eC k.n ((ss.map Seg.l).flatten.length%k.n) (8*(ss.map Seg.l).flatten.length)):=by
   rw [sY,hf,e3,vJ (by omega) e2,<-e1,hM]
  refine s_exit (zS (zS (k_out (hK1 _ ?_))));refine s_lit (zB rfl (l_callA (own:=k.R gh gb o c) (R':=[]) [.slice (some ⟨gb,0,none⟩) k.n k.n,.int .i64 (f:Int),sz ss.length,k.take gh gb] rfl rfl rfl (λ_ _=>by go_simp) rfl rfl (λ_ _=>rfl) (end_S hk hI.ob hI.len hI.lt) (λw h _=>h.1) λb'=>l_R (k.R gh gb (eH k.s k.n o0 ((ss.map Seg.l).flatten++eC k.n ((ss.map Seg.l).flatten.length%k.n) (8*(ss.map Seg.l).flatten.length))) b'.1) (by rw [<-hend];rfl) (l_E rfl ?_)));exact zR zY b' rfl (by decide) rfl rfl rfl (λ_ _ _=>trivial) λ_ _=>trivial
end Go.Proofs.YtlhlkofpjhpaoaaGreatDoor
namespace Nums
def pf(D:List UInt8)(p:Nat->Bool):List UInt8:=(List.range D.length).map λm=>if p m then D[m]! else 0
theorem uP(D:List UInt8)(p:Nat->Bool):(pf D p).length=D.length:=by simp [pf]
theorem mY{D:List UInt8}{p q:Nat->Bool}(h:∀m,m<D.length->p m=q m):pf D p=pf D q:=by
 apply cJ (by simp [pf])
 intro i h1 h2
 have hi:i<D.length:=by simpa [pf] using h1
 simp [pf,h i hi]
theorem uO{D:List UInt8}{p q:Nat->Bool}{k:Nat}(h:∀m,m<D.length->q m=(p m||decide (m=k))):(pf D p).set k D[k]! = pf D q:=by
 apply cJ (by simp [pf])
 intro i h1 h2
 have hi:i<D.length:=by simpa [pf] using h2
 rw [List.getElem_set]
 by_cases e:k=i
 ·subst e
  simp [pf,h k hi]
 ·rw [if_neg e]
  have e2:decide (i=k)=false:=decide_eq_false (λh=>e h.symm)
  simp [pf,h i hi,e2]
theorem uQ{D:List UInt8}{p:Nat->Bool}(h:∀m,m<D.length->p m=true):pf D p=D:=by
 apply cJ (by simp [pf])
 intro i h1 h2
 simp [pf,h i h2,h2]
theorem sN{D:List UInt8}{p:Nat->Bool}(h:∀m,m<D.length->p m=false):pf D p=aA D.length 0:=by
 apply cJ (by simp [pf])
 intro i h1 h2
 have hi:i<D.length:=by simpa [pf] using h1
 simp [pf,h i hi]
theorem flat_get{n:Nat}(f:Nat->List UInt8)(hf:∀x,(f x).length=n):∀(l:List Nat) {i j:Nat},i<l.length->j<n->((l.map f).flatten)[n*i+j]! = (f l[i]!)[j]!
 | [],i,_,h,_=>absurd h (by simp)
 | x::l,0,j,_,hj=>by
  rw [bX,lJ,mM,aZ]
  have h1:j<(f x).length:=by rw [hf];exact hj
  rw [getElem!_pos (f x++(l.map f).flatten) j (by rw [aB];omega),List.getElem_append_left h1];exact(getElem!_pos (f x) j h1).symm
 | x::l,i+1,j,h,hj=>by
  have ih:=flat_get f hf l (i:=i) (j:=j) (by simpa using h) hj
  have e:((x::l).map f).flatten=f x++(l.map f).flatten:=by rw [bX,lJ]
  have e2:(x::l)[i+1]! = l[i]!:=rfl;rw [e2,<-ih,e];have hx:=hf x
  have hi:n*(i+1)+j=(f x).length+(n*i+j):=by rw [hx,pL];omega
  rw [hi]
  by_cases hb:n*i+j<(l.map f).flatten.length
  ·rw [getElem!_pos (l.map f).flatten _ hb,getElem!_pos (f x++(l.map f).flatten) _ (by rw [aB];omega),List.getElem_append_right (by omega)]
   congr 1
   omega
  ·rw [getElem!_neg (l.map f).flatten _ hb,getElem!_neg (f x++(l.map f).flatten) _ (by rw [aB];omega)]
theorem kM{n:Nat}(f:Nat->List UInt8)(hf:∀x,(f x).length=n):∀(l:List Nat),((l.map f).flatten).length=n*l.length
 | []=>rfl
 | x::l=>by rw [bX,lJ,aB,hf,kM f hf l,bD,pL];omega
theorem kJ(s:Sha)(x:Nat):(iN s x).length=s.w/8:=by
 unfold iN
 rw [fJ,bW]
end Nums
namespace Go.Proofs.YtlhlkofpjhpaoaaGreatDoor
open Go.RowKit Go.IntWalk Nums
theorem layw_get{s:Sha}{x j:Nat}(h:j<s.w/8):((iN s x)[s.w/8-1-j]!).toNat=x/256^j%256:=by
 have hl:(Nums.bytes (s.w/8) x).length=s.w/8:=bW _ _
 have e:(iN s x)[s.w/8-1-j]! = (Nums.bytes (s.w/8) x)[j]!:=by
  unfold iN
  rw [getElem!_pos _ _ (by rw [fJ,hl];omega),o8,getElem!_pos _ j (by rw [hl];exact h)]
  congr 1
  rw [hl]
  omega
 rw [e,bytes_get _ _ h]
theorem size_b64(cs:Array Value)(h:cs.size=64):(Tryz.prog.info? 74).map (·.size)=some cs.size:=by
 rw [h]
 kernel_rfl
def z64b:List UInt8:=aA 64 0
theorem zb64:(Tryz.prog.info? 74).bind (λi=>i.zero.map (·.cells))=some (By z64b).toArray:=by kernel_rfl
structure LY(w wr:World)(cs:Array Value)(m:List UInt8):Prop where
  b0:Blk wr w.heap.size 217 cs
  b1:Blk wr (w.heap.size+1) 74 (By z64b).toArray
  b2:Blk wr (w.heap.size+1+1) 74 (By m).toArray
  be:Below w.heap.size w wr
theorem LY.set{w wr:World}{cs:Array Value}{m:List UInt8}(h:LY w wr cs m)(k:Nat)(x:UInt8):LY w (wr.setCell ⟨w.heap.size+1+1,k,none⟩ (.int .u8 (x.toNat:Int))) cs (m.set k x) where
 b0:=h.b0.far (by show w.heap.size≠w.heap.size+1+1;omega) _
 b1:=h.b1.far (by show w.heap.size+1≠w.heap.size+1+1;omega) _
 b2:=by
  have h4:=h.b2.set k (.int .u8 (x.toNat:Int));rw [By_set] at h4;exact h4
 be:=h.be.setCell (by show w.heap.size<=w.heap.size+1+1;omega) _
theorem lay512_f{l:List Nat}(hl:l.length=8)(hw:∀x∈l,x<18446744073709551616)(w:World) :
  Calls Tryz.prog 135 #[.agg (Us l).toArray] w λe w'=>e = .returned (.agg (By (l.map (iN dK)).flatten).toArray)/\Below w.heap.size w w':=by
 have hD:=kM (iN dK) (n:=8) (λx=>kJ dK x) l;rw [hl] at hD
 have hg:∀i j,i<8->j<8->(((l.map (iN dK)).flatten)[8*i+7-j]!).toNat=l[i]! / 256^j%256:=λi j hi hj=>by
  have h1:=flat_get (iN dK) (n:=8) (λx=>kJ dK x) l (i:=i) (j:=7-j) (by omega) (by omega);rw [show 8*i+7-j=8*i+(7-j) by omega,h1];exact layw_get (s:=dK) (j:=j) hj
 have hzs:(Us l).toArray.size=8:=by rw [aT,Us_len,hl]
 have hix:∀i,i<8->∀w1,(Instr.index 217 (.agg (Us l).toArray) (.int .i64 ((i:Nat):Int))).run Tryz.prog w1 = .ok (.int .u64 (l[i]! : Nat)) w1:=λi hi w1=>by
  have h0:(Us l).toArray[i]?=some (.int .u64 (l[i]! : Nat)):=Us_at (by omega)
  have h1:((i:Nat):Int)<8:=by omega
  have h2:(0:Int)<=(i:Nat):=by omega
  generalize l[i]! = c at *;generalize (Us l).toArray=cs at *
  unfold Instr.index Go.part
  go_simp
  obtain⟨_,h⟩:=Array.getElem?_eq_some_iff.1 h0;exact h
 have hwl:∀i,i<8->l[i]! < 18446744073709551616:=λi hi=>by
  rw [getElem!_pos l i (by omega)];exact hw _ (List.getElem_mem _)
 generalize (l.map (iN dK)).flatten=D at *;generalize (Us l).toArray=cs at *
 go_enter Tryz.func135,Tryz.ntmps135
 refine wp_seq_k λK hK=>?_;refine wp_region_lit ?_;refine wpl_box cs rfl rfl rfl ?_;refine wpl_alloc (zs:=(By z64b).toArray) rfl rfl zb64 ?_;refine wpl_nil ?_
 go_simp
 refine hK _ _ ?_;clear hK K;refine wp_seq_k λK hK=>?_;refine wp_region_lit ?_;refine wpl_alloc (zs:=(By z64b).toArray) rfl rfl zb64 ?_;refine wpl_nil ?_
 go_simp
 refine hK _ _ ?_;clear hK K;refine wp_at (λW=>LY w W cs z64b) ⟨blk3_0 w _ _ _ _,blk3_1 w _ _ _ _,blk3_2 w _ _ _ _,(((Below.refl _ _).alloc (aF _) _).alloc (by simp) _).alloc (by simp;omega) _⟩ ?_
 intro W hW
 have k0:=hW.b0;have HW:=c9 hW;clear hW
 go_wp2_with (refine wpList_load_row rfl 217 _ rfl w.heap.size rfl 217 cs (0,0) _ k0 Tryz.underlying217 rfl (size_w8 _ hzs) ?_)
 clear k0
 go_loopw [8] (λi wr=>∃t:Nat,t<=8/\i = .int .i64 t/\LY w wr cs (pf D λm=>decide (m<8*t))) (λi _=>8-(intOf i).toNat)
 case atStart =>
  refine⟨0,by omega,rfl,?_⟩;rw [sN (λm _=>decide_eq_false (by omega)),hD];exact HW.out
 case round =>
  clear HW;obtain⟨t,ht,rfl,hS⟩:=hrel
  by_cases htl:t<8
  ·have hi:=hix t htl
   have hx:=hwl t htl;have hby:=λj hj=>hg t j htl hj;generalize l[t]! = x at *
   have g4:(0:Int)<=(t:Int):=by omega
   have HS:=c9 hS;clear hS hg hix hwl
   go_wp2
   go_loopw [12,5] (λj v wq=>∃n:Nat,n<=8/\j = .int .i64 n/\v = .int .u64 ((x/256^n:Nat):Int)/\LY w wq cs (pf D λm=>decide (m<8*t\/8*t+8-n<=m/\m<8*t+8))) (λj _ _=>8-(intOf j).toNat)
   case atStart =>
    refine⟨0,by omega,rfl,by rw [lH,tQ],?_⟩;rw [mY (q:=λm=>decide (m<8*t)) (λm _=>decide_eq_decide.2 (by omega))];exact HS.out
   case round =>
    clear HS;obtain⟨n,hn,rfl,rfl,hS⟩:=hrel
    by_cases hnl:n<8
    ·have hN:=hS.set (8*t+7-n) D[8*t+7-n]!
     rw [uO (q:=λm=>decide (m<8*t\/8*t+8-(n+1)<=m/\m<8*t+8)) (λm _=>by rw [<-Bool.decide_or];exact decide_eq_decide.2 (by omega))] at hN;have hb:=hby n hnl
     have hdiv:x/256^(n+1)=x/256^n/256:=by rw [cN,jT]
     have hle:x/256^n<18446744073709551616:=Nat.lt_of_le_of_lt (Nat.div_le_self _ _) hx;have c2:=(hS.b2.cell (8*t+7-n)).trans (By_get (by rw [uP,hD];omega));have f2:=hS.b2.free (8*t+7-n);generalize x/256^n=y at *
     have q4:IntKind.u8.wrap (y:Int)=((D[8*t+7-n]!).toNat:Int):=by
      rw [pQ,hb]
      omega
     have g5:(0:Int)<=(n:Int):=by omega
     have q5:(y:Int)/256=((y/256:Nat):Int):=by omega
     have HN:=c9 (And.intro hN hdiv);clear hS hN hdiv hb hby hi;generalize (D[8*t+7-n]!).toNat=v at *;generalize ((pf D λm=>decide (m<8*t\/8*t+8-n<=m/\m<8*t+8))[8*t+7-n]!).toNat=old at *;generalize y/256=y2 at *
     go_wp2
     go_roundw
     case rel =>
      obtain⟨hN,hdiv⟩:=HN.out;refine⟨n+1,by omega,by go_num,by rw [hdiv],hN⟩
     case measure=>simp [intOf];omega
    ·obtain rfl:n=8:=by omega
     rw [mY (q:=λm=>decide (m<8*(t+1))) (λm _=>decide_eq_decide.2 (by omega))] at hS;have HS:=c9 hS;clear hS
     go_wp2
     go_roundw
     case rel=>exact⟨t+1,by omega,by go_num,HS.out⟩
     case measure=>simp [intOf];omega
  ·obtain rfl:t=8:=by omega
   rw [uQ (λm hm=>decide_eq_true (by omega))] at hS;obtain⟨b0,b1,b2,be⟩:=hS
   have hz:(By D).toArray.size=64:=by rw [aT,By_len,hD]
   clear b0
   go_wp2_with (first
    | (refine wpList_load_row rfl 74 _ rfl (w.heap.size+1+1) rfl 74 (By D).toArray (0,0) _ b2 Tryz.underlying74 rfl (size_b64 _ hz) ?_)
    | (refine wpList_store_row rfl 74 _ _ rfl (w.heap.size+1) rfl (By D).toArray rfl 74 _ b1 (size_b64 _ hz) (by rw [hz];rfl) (By_one _) ?_))
   refine bodyPost_ret (results_cell_row rfl _ _ (w.heap.size+1) 74 (By D).toArray (0,0) _ rfl (b1.row _) Tryz.underlying74 rfl (size_b64 _ hz)) rfl ⟨rfl,?_⟩;exact below_setRow be (by omega) _
end Go.Proofs.YtlhlkofpjhpaoaaGreatDoor
namespace Go.Proofs.YtlhlkofpjhpaoaaGreatDoor
open Go.RowKit Go.IntWalk
theorem join_S{A:Option Addr}{c:Nat}(ss:List Seg)(ht:(ss.map Seg.l).flatten.length<=281474976710656):Spec 70 [.slice A ss.length c] [] (λw=>Rd 1 eSeg A c ss w/\∀s∈ss,s.rd w)
  { ret:=λg:Nat=>.v (.slice (some ⟨g,0,none⟩) (ss.map Seg.l).flatten.length (ss.map Seg.l).flatten.length),n:=λg=>Rd 1 eB (some ⟨g,0,none⟩) (ss.map Seg.l).flatten.length (ss.map Seg.l).flatten }:=λw S X hS _ hF=>by
 obtain⟨h1,h2⟩:=hF.now;have hj:=join_any A (ss.map Seg.l) c w.heap.size w (parts_of h1 h2) (aF _) (by rw [bO];exact h1.1) h1.2.1 ht;rw [bO] at hj;refine hj.mono ?_
 rintro e w' ⟨he,ho,hb⟩
 refine⟨w.heap.size,S,he,trivial,Chg.of_up hb,hS.keep λk hk=>hb.block k (hS.lt k hk),λ_ h _=>h,λ_ _=>trivial,?_⟩;have h3:(OwnS w.heap.size 5 1 eB (some ⟨w.heap.size,0,none⟩) (ss.map Seg.l).flatten.length (ss.map Seg.l).flatten).holds w' λj=>(some (⟨w.heap.size,0,none⟩:Addr)).map (·.block)=some j:=⟨okF_B _,by rw [flat_B];exact ho,λ_=>Iff.rfl⟩;have h4:=OwnS.rd h3
 intro w2 hw2
 refine h4.keep hw2.size λb' e hlt=>hw2.block b' hlt ?_;simp only [bI,aW] at e;subst e
 rintro(h5|h5)
 ·exact gI _ h5
 ·exact gI _ (hS.lt _ h5)
section
variable{f:FuncId}{args:List Value}{F:World->Prop}{l:List UInt8}
theorem Spec.made(h:∀w,F w->Calls Tryz.prog f args.toArray w (Made w l)):Spec f args [] F
  { ret:=λg:Nat=>.v (.slice (some ⟨g,0,none⟩) l.length l.length),n:=λg=>Rd 1 eB (some ⟨g,0,none⟩) l.length l }:=λw S X hS _ hF=>by
 refine(h w hF.now).mono ?_
 rintro e w' ⟨g,he,ho,hb⟩
 refine⟨g,S,he,trivial,Chg.of_up hb,hS.keep λk hk=>hb.block k (hS.lt k hk),λ_ h _=>h,λ_ _=>trivial,?_⟩;have h3:(OwnS w.heap.size 5 1 eB (some ⟨g,0,none⟩) l.length l).holds w' λj=>(some (⟨g,0,none⟩:Addr)).map (·.block)=some j:=⟨okF_B _,by rw [flat_B];exact ho,λ_=>Iff.rfl⟩;have h4:=OwnS.rd h3;have h6:=(OwnS.inb h3 _ rfl).1
 intro w2 hw2
 refine h4.keep hw2.size λb' e hlt=>hw2.block b' hlt ?_;simp only [bI,aW] at e;subst e
 rintro(h5|h5)
 ·exact gI _ (b9 h5 h6)
 ·exact gI _ (b9 (hS.lt _ h5) h6)
end
section
variable{b:Base}{G:Nat->Nat}{S:Nat->Prop}{L:List LV}{R:List Res}{F M:World->Prop}{w:World}{g:Nat}{t:TypeId}{ps:List Pt}
theorem StW.freeO(h:StW b G S L R F M w){i:Nat}(hi:R[i]?=some (ObjS g t ps)):∃S',StW b G S' L (R.eraseIdx i) (λw=>ObjF g t ps w/\F w) M w:=by
 obtain⟨S1,S2,⟨h1,h1'⟩,h2,h3,h4⟩:=h.let hi;refine⟨S2,h4.and (p:=ObjF g t ps) λw' hw=>⟨(hw.block g h1.1.lt λhx=>?_).trans h1.1,h1.2⟩⟩
 rcases hx with hx|hx|⟨j,hj,e⟩
 ·exact(h.old g hx).2 (h.mine g (.inl ((h3 g).2 (.inl ((h1' g).2 rfl)))) (h.old g hx).1)
 ·exact h2 g ((h1' g).2 rfl) hx
 ·exact h.sep j hj ((h3 _).2 (.inl ((h1' _).2 e)))
variable{P:Program}{Q:Exit->Act->World->Prop}{N:Nat}{E:SE}
theorem s_freeO{x:Code}(i:Nat)(hi:R[i]?=some (ObjS g t ps))(h:cS P b x Q N ⟨E,L,R.eraseIdx i,λw=>ObjF g t ps w/\F w,M⟩):cS P b x Q N ⟨E,L,R,F,M⟩:=λa w ⟨G,S,h1,h2,h3⟩=>by
 obtain⟨S',h4⟩:=h3.freeO hi;exact h a w ⟨G,S',h1,h2,h4⟩
end
theorem obj_rd{g n:Nat}{t:TypeId}{l:List UInt8}{w:World}(h:ObjF g t [.agg n (By l).toArray] w)(hn:n<=9223372036854775807):Rd 1 eB (some ⟨g,0,none⟩) n l w:=by
 have h1:l.length=n:=by
  have:=(h.2 _ List.mem_cons_self).1
  rwa [aT,By_len] at this
 refine⟨nI h1,hn,λh=>(by cases h),okF_B l,λ_=>⟨g,0,rfl,h.1.lt,λi x hi j v hj=>?_⟩⟩;have hB:Blk w g t (By l).toArray:=h.1;rw [hB.cell]
 cases j with
 | zero =>
  have e:v = .int .u8 (x.toNat:Int):=(cR ((show(eB x).cl[0]?=some (.int .u8 (x.toNat:Int)) from rfl).symm.trans hj)).symm;obtain⟨h2,h3⟩:=bA.1 hi;have h4:=By_at? h2;rw [getElem!_pos l i h2,h3] at h4;rw [e]
  simpa using h4
 | succ j =>
  have:(eB x).cl[j+1]?=none:=rfl;rw [this] at hj
  cases hj
theorem runO_allP{P:Program}{N:Nat}{E:SE}{o:Oper}{x:Operand}{t e:TypeId}{g off n sz:Nat}(ho:o.op = .slice t x none none none)(ht:P.underlying t=some (.array n e))(he:(P.info? e).map (·.size)=some sz)(hx:evS E x=some (.v (.pointer (some ⟨g,off,none⟩)))) :
  ∀(G:Nat->Nat) (a:Act) (w:World),Fr N (denE G E) a->(execOp a.eval o).run P w = .ok (.value ((SV.v (.slice (some ⟨g,off,none⟩) n n)).den G)) w:=λG a w ha=>by
 have h1:a.eval x = .pointer (some ⟨g,off,none⟩):=ha.eval (evS_ok hx);have h5:=run_sizeOf he w
 unfold execOp
 simp only [ho];generalize a.eval=ρ at *;simp only [Option.map,h1]
 show _=Result.ok (Next.value (.slice (some ⟨g,off,none⟩) n n)) w
 simp [Instr.sliceAt,Instr.sureAddr,run_underlying ht,Instr.sliceBounds,h5,aG,dA]
theorem lay_S(v:Nat)(hv:v<18446744073709551616):Spec 90 [.int .u64 (v:Int)] [] (λ_=>True) (one (.q (eY 8 (be8 v)))) :=
 Spec.pure (eY_ok (be8_len v)).1 λw _=>lay_any v w hv
theorem rfnum_S(v:Nat)(hv:v<18446744073709551616):Spec 59 [.int .u64 (v:Int)] [] (λ_=>True)
  { ret:=λg:Nat=>.v (.slice (some ⟨g,0,none⟩) (be8 v).length (be8 v).length),n:=λg=>Rd 1 eB (some ⟨g,0,none⟩) (be8 v).length (be8 v) } :=
 Spec.made λw _=>refnum_any v w hv
theorem wnum_S{A:Option Addr}{c:Nat}(l:List UInt8)(v:Nat)(hv:v<18446744073709551616)(hl:l.length+8<=281474976710656):Spec 64 [.slice A l.length c,.int .u64 (v:Int)] [] (Rd 1 eB A c l)
  { ret:=λg:Nat=>.v (.slice (some ⟨g,0,none⟩) (l++be8 v).length (l++be8 v).length),n:=λg=>Rd 1 eB (some ⟨g,0,none⟩) (l++be8 v).length (l++be8 v) }:=by
 refine zQ [.c (.v (.slice A l.length c)),.c (.v (.int .u64 (v:Int)))] 12 Tryz.func64 rfl (by rw [Tryz.ntmps64];rfl) (two_ok trivial trivial) λb=>?_;refine zA rfl (zC rfl λK1 hK1=>?_);refine l_call0 [.int .u64 (v:Int)] rfl rfl rfl (λ_ _=>by go_simp) rfl rfl (λ_ _=>rfl) (lay_S v hv) (λ_ _ _=>trivial) λ_=>?_;refine zB rfl ?_;refine zJ (k_give 5 rfl (E':=[(0,.v (.slice A l.length c))]) ⟨rfl,trivial⟩ λg=>hK1 _ ?_);refine s_freeO 0 rfl ?_;refine zC rfl λK2 hK2=>?_;refine l_op (.v (.slice (some ⟨g,0,none⟩) 8 8)) trivial rfl rfl rfl (runO_allP rfl Tryz.underlying179 rfl rfl) ?_;refine l_list zY b.B.heap.size [⟨A,c,l⟩,⟨some ⟨g,0,none⟩,8,be8 v⟩] (fe:=eSeg) rfl rfl rfl rfl rfl (λ_=>rfl) rfl (by decide) (by decide) (okF_seg _) (aF _) λP=>?_;refine l_free 0 rfl ?_
 have e0:(List.map Seg.l [⟨A,c,l⟩,⟨some ⟨g,0,none⟩,8,be8 v⟩]).flatten=l++be8 v:=by simp
 have hj:=join_S (A:=P) (c:=2) [⟨A,c,l⟩,⟨some ⟨g,0,none⟩,8,be8 v⟩] (by rw [e0,aB,be8_len];exact hl);rw [e0] at hj
 refine l_call0 [.slice P 2 2] rfl rfl rfl (λ_ _=>by go_simp) rfl rfl (λ_ _=>rfl) hj (λw h _=>⟨h.1,λs hs=>by
  rcases aL.1 hs with rfl|hs
  ·exact h.2.2.2
  ·rw [aE.1 hs]
   exact obj_rd (n:=8) h.2.1 (aC rfl)⟩) λgb=>?_
 refine zB rfl (zJ (hK2 _ ?_));exact zP (zR zY gb rfl (by decide) rfl rfl rfl (λ_ _ _=>trivial) (λw h=>h.1))
end Go.Proofs.YtlhlkofpjhpaoaaGreatDoor
namespace Go.Proofs.YtlhlkofpjhpaoaaGreatDoor
open Go.RowKit Go.IntWalk Nums
theorem own_lay512:Own 135:=λ_ _=>by go_simp
theorem own_sum512:Own 101:=λ_ _=>by go_simp
structure Tsh(w:World):Prop where
  steps:Ts w
  cell:∀i,i<8->w.cell? ⟨0,i,none⟩=some (.int .u64 (sqs[i]! : Nat))
  lt : 0 < w.heap.size
theorem Tsh.below{w w':World}(h:Tsh w)(hb:Below w.heap.size w w'):Tsh w' :=
 ⟨h.steps.below hb,λi hi=>(hb.cell (p:=⟨0,i,none⟩) h.lt).trans (h.cell i hi),b9 h.lt hb.size⟩
def start512:Oct:=⟨sqs[0]!,sqs[1]!,sqs[2]!,sqs[3]!,sqs[4]!,sqs[5]!,sqs[6]!,sqs[7]!⟩
theorem start512_ob:OB 64 start512:=by
 constructor<;>decide
theorem start512_list:start512.list=sqs:=by decide
theorem Tsh.range{w:World}(h:Tsh w):w.rangeAt 0 0 (Us sqs):=λj v hv=>by
 rw [aZ]
 have hj:j<8:=by
  have:=(bA.1 hv).1;rw [Us_len] at this;exact this
 rw [h.cell j hj];have h1:(Us sqs).toArray[j]?=some (.int .u64 (sqs[j]! : Nat)):=Us_at (show j<sqs.length from hj);rw [<-h1]
 simpa using hv
theorem OB.list_lt{o:Oct}(h:OB 64 o):∀x∈o.list,x<18446744073709551616:=by
 intro x hx
 simp only [Oct.list,aL,List.not_mem_nil,or_false] at hx
 rcases hx with rfl|rfl|rfl|rfl|rfl|rfl|rfl|rfl
 ·exact h.a
 ·exact h.b
 ·exact h.c
 ·exact h.d
 ·exact h.e
 ·exact h.f
 ·exact h.g
 ·exact h.h
instance pst_sh:Pst Tsh:=⟨λ_ _ h hb=>h.below hb⟩
theorem rd_obj{L:List LV}{R:List Res}{F M:World->Prop}{g t:Nat}{ps:List Pt}(i:Nat)(hi:R[i]?=some (ObjS g t ps)):∀G S w,View G S L R F M w->ObjF g t ps w:=λ_ _ _ h=>by
 obtain⟨S1,_,h1,_⟩:=h.res.at hi;exact h1.1
theorem own_take512:Own 133:=λ_ _=>by go_simp
theorem ob_runw{s:Sha}{B:Nat}:∀(n:Nat) (o:Oct) (l:List UInt8),l.length<=n->OB s.w o->OB s.w (eH s B o l)
 | n,o,l,hn,ho=>by
  rw [eH]
  split
  ·exact ho
  ·cases n with
   | zero=>omega
   | succ n=>exact ob_runw n _ _ (by rw [dC];omega) (OB.fP _ _ _)
def k512:BK:=⟨dK,128,217,228,λo=>[.agg 8 (Us o.list).toArray],133⟩
theorem k512_ok:k512.Ok where
 n64:=by decide
 n128:=by decide
 own:=own_take512
 tk:=λ{gh gb o b} ho hb=>by
  refine zQ (own:=k512.R gh gb o b) [.c (.v (atG gh)),.c (.v (atG gb))] 5 Tryz.func133 rfl (by rw [Tryz.ntmps133];rfl) (two_ok trivial trivial) λB=>?_;refine s_lit (l_ldO zY rfl rfl rfl rfl rfl rfl (rd_obj 0 rfl) (l_ldO zY rfl rfl rfl rfl rfl rfl (rd_obj 1 rfl) ?_));refine l_X (turn512_C ho hb) (λ_=>rfl) rfl λ_=>l_stO zY 0 rfl rfl rfl rfl rfl rfl rfl (l_E rfl ?_);exact zR zY () rfl (by decide) rfl rfl rfl (λ_ _ _=>trivial) λ_ _=>trivial
theorem lay512_C{F:World->Prop}{o:Oct}(ho:OB 64 o):Ct F 135 [eW 8 o.list] (one (.q (eY 64 (o.list.map (iN dK)).flatten))):=⟨own_lay512,Spec.pure (eY_ok (by rw [kM (iN dK) λx=>kJ dK x];rfl)).1 λw _=>lay512_f rfl (OB.list_lt ho) w⟩
theorem sum512_C{P:Option Addr}{pc:Nat}{ss:List Seg}(hn:ss.length<=9223372036854775807):Ct (λw=>Tsh w/\PartsF P pc ss w) 101 [.c (.v (.slice P ss.length pc))] (one (.q (eY 64 (cE dK (ss.map Seg.l).flatten)))):=⟨own_sum512,by
 refine zQ [.c (.v (.slice P ss.length pc))] 12 Tryz.func101 rfl (by rw [Tryz.ntmps101];rfl) (one_ok trivial) λB=>?_;refine zA rfl ?_;refine s_reg λK hK=>l_opV (.q (eW 8 start512.list)) (eW_ok rfl) rfl rfl rfl (run_ldR (g:=0) (off:=0) (cs:=(Us start512.list).toArray) rfl rfl Tryz.underlying217 rfl (size_w8 _ rfl) rfl λ_ _ _ hv=>by rw [start512_list];exact hv.fact.1.range) (l_N hK rfl ?_);refine s_reg λK hK=>l_auto2 rfl (zJ (k_give 4 rfl (E':=[(0,.v (.slice P ss.length pc)),(2,.a 2 0),(3,.a 3 0)]) ⟨rfl,rfl,rfl,trivial⟩ λgb=>k_give 3 rfl (E':=[(4,.v (atG gb)),(0,.v (.slice P ss.length pc)),(2,.a 2 0)]) ⟨rfl,rfl,rfl,trivial⟩ λgh=>hK _ ?_));refine s_reg λK hK=>l_op (.v (.slice (some ⟨gb,0,none⟩) 128 128)) trivial rfl rfl rfl (runO_allP rfl Tryz.underlying228 size_u8 rfl) (zB rfl (l_op (.v (k512.take gh gb)) trivial rfl rfl rfl (run_makeF (vals:=[atG gh,atG gb]) rfl rfl λ_=>rfl) ?_));refine l_callA (own:=k512.R gh gb start512 (aA 128 0)) (R':=[]) [.slice (some ⟨gb,0,none⟩) 128 128,.slice P ss.length pc,k512.take gh gb] rfl rfl rfl (λ_ _=>by go_simp) rfl rfl (λ_ _=>rfl) (fill_S k512_ok start512_ob bE hn) (λw h _=>⟨h.1.steps,h.2⟩) λb'=>?_;have hD:((eH dK 128 start512 ((ss.map Seg.l).flatten++eC 128 ((ss.map Seg.l).flatten.length%128) (8*(ss.map Seg.l).flatten.length))).list.map (iN dK)).flatten=cE dK (ss.map Seg.l).flatten:=rfl;have hO:OB 64 (eH dK 128 start512 ((ss.map Seg.l).flatten++eC 128 ((ss.map Seg.l).flatten.length%128) (8*(ss.map Seg.l).flatten.length))):=ob_runw (s:=dK) _ _ _ (aF _) start512_ob;refine l_R (k512.R gh gb (eH dK 128 start512 ((ss.map Seg.l).flatten++eC 128 ((ss.map Seg.l).flatten.length%128) (8*(ss.map Seg.l).flatten.length))) b'.1) rfl (l_N hK rfl ?_);generalize eH dK 128 start512 ((ss.map Seg.l).flatten++eC 128 ((ss.map Seg.l).flatten.length%128) (8*(ss.map Seg.l).flatten.length))=o at *;refine s_freeO 0 rfl (s_freeO 0 rfl ?_);refine s_reg λK hK=>l_ldO zY rfl rfl rfl rfl rfl rfl (λ_ _ _ hv=>hv.fact.2.1) (l_X (lay512_C hO) (λ_=>rfl) rfl λ_=>l_N hK rfl (zP ?_));rw [hD]
 exact zR zY () rfl (by decide) rfl rfl rfl (λ_ _ _=>trivial) λ_ _=>trivial⟩
theorem sum512_f(A:Option Addr)(ls:List (List UInt8))(pc:Nat)(w:World)(hT:Tsh w)(hA:Parts w w.heap.size A ls)(hpc:ls.length<=pc)(hpm:pc<=9223372036854775807) :
  Calls Tryz.prog 101 #[.slice A ls.length pc] w λe w'=>e = .returned (.agg (By (cE dK ls.flatten)).toArray)/\Below w.heap.size w w':=by
 obtain⟨ss,rfl,h⟩:=segs_of ⟨hpc,hpm⟩ hA;rw [bO] at *;exact(sum512_C (by omega)).row ⟨hT,h⟩
end Go.Proofs.YtlhlkofpjhpaoaaGreatDoor
namespace Nums
theorem pJ:cB 1224481:=dG (k:=1107) (by decide) (by decide +kernel) (by decide +kernel)
theorem qI:cB 531581:=dG (k:=730) (by decide) (by decide +kernel) (by decide +kernel)
theorem uJ:cB 41:=dG (k:=7) (by decide) (by decide) (by decide +kernel)
theorem rW:cB 2851:=dG (k:=54) (by decide) (by decide) (by decide +kernel)
theorem tB:cB 269:=dG (k:=17) (by decide) (by decide) (by decide +kernel)
theorem vO:cB 7:=dG (k:=3) (by decide) (by decide) (by decide +kernel)
theorem uK:cB 11:=dG (k:=4) (by decide) (by decide) (by decide +kernel)
theorem uI:cB 1257559732178653:=gK (q1:=1224481) (q2:=531581) (a:=2) (k:=51) pJ qI (by decide +kernel)
theorem uH:cB 4434155615661930479:=gK (q1:=1257559732178653) (q2:=41) (a:=3) (k:=62) uI uJ (by decide +kernel)
theorem uG:cB 172054593956031949258510691:=gK (q1:=4434155615661930479) (q2:=2851) (a:=2) (k:=88) uH rW (by decide +kernel)
theorem uF:cB 19757330305831588566944191468367130476339:=gK (q1:=172054593956031949258510691) (q2:=269) (a:=2) (k:=134) uG tB (by decide +kernel)
theorem uE:cB 276602624281642239937218680557139826668747:=gK (q1:=19757330305831588566944191468367130476339) (q2:=7) (a:=2) (k:=138) uF vO (by decide +kernel)
theorem sM:cB LL:=gK (q1:=276602624281642239937218680557139826668747) (q2:=11) (a:=2) (k:=253) uE uK (by decide +kernel)
theorem wD:base≠Ed.zero:=λh=>by
 have h1:=congrArg Ed.Pt.y h;have h2:(fof bY:F).val=(1:F).val:=congrArg Fin.val h1;rw [val_one c7,j3] at h2
 revert h2
 decide
theorem vR(n:Nat):Ed.mul dd n base=Ed.zero↔LL∣n:=by
 constructor
 ·intro h
  by_cases hd:LL∣n
  ·exact hd
  ·exfalso
   have hf:=rX sM hd;obtain⟨e,he⟩:∃e,LL-1=e+1:=⟨LL-2,by decide⟩;rw [he,cN] at hf;generalize n^e=c at hf
   have h1:n*c=LL*(c*n/LL)+1:=by
    have:=Nat.div_add_mod (c*n) LL;rw [hf] at this;rw [Nat.mul_comm n c];exact this.symm
   exact wD (Ed.vG good gB h order h1)
 ·rintro⟨c,rfl⟩
  rw [Ed.l8 good gB,order,Ed.mul_zero good]
def mR(x:Nat):Nat:=x%28948022309329048855892746252171976963317496166410141009864396001978282409984/8*8+28948022309329048855892746252171976963317496166410141009864396001978282409984
theorem vC(x:Nat):¬LL∣mR x:=by
 rintro⟨c,hc⟩
 obtain⟨y,hy⟩:∃y,y=x%28948022309329048855892746252171976963317496166410141009864396001978282409984:=⟨_,rfl⟩
 have hy2:y<28948022309329048855892746252171976963317496166410141009864396001978282409984:=by rw [hy];exact cO _ (by decide)
 have h0:mR x=y/8*8+28948022309329048855892746252171976963317496166410141009864396001978282409984:=by rw [hy];rfl
 rw [h0] at hc
 have h8:LL*c%8=0:=by rw [<-hc];omega
 have h1:LL*c<LL*8:=by
  rw [<-hc];refine b9 (m:=57896044618658097711785492504343953926634992332820282019728792003956564819968) ?_ (by decide)
  omega
 have h2:0<LL*c:=by rw [<-hc];omega
 have hc8:c<8:=Nat.lt_of_mul_lt_mul_left h1;clear hc h0 hy hy2 h1
 have h5:LL*c%8=5*c%8:=by rw [jD,show LL%8=5 from by decide,jD 5 c,show 5%8=5 from rfl]
 rw [h5] at h8
 have hcz:c=0:=by omega
 rw [hcz,mM] at h2;exact absurd h2 (by decide)
theorem rI(x:Nat):Ed.mul dd 8 (Ed.mul dd (mR x) base)≠Ed.zero:=by
 intro h
 rw [Ed.pW good gB,vR] at h
 rcases sM.dvd_mul h with h1|h1
 ·exact absurd (Nat.le_of_dvd (by decide) h1) (by decide)
 ·exact vC x h1
theorem rT(r k a:Nat):Ed.add dd (Ed.mul dd ((r+k*a)%LL) base) (Ed.neg (Ed.mul dd k (Ed.mul dd a base)))=Ed.mul dd r base:=by
 have hr:=Ed.fM good gB r;have hk:=Ed.fM good gB (k*a);rw [<-Ed.mul_mod good gB order,Ed.mul_add good gB,Ed.pW good gB,Ed.add_assoc good hr hk (Ed.k8 hk),Ed.add_neg good hk,Ed.add_zero good]
end Nums
namespace Nums
def lU(l:List UInt8):List UInt8:=l.set 0 (bK ((l[0]!).toNat/8*8))
def pG(l:List UInt8):List UInt8:=l.set 31 (bK ((l[31]!).toNat%64+64))
def lW(l:List UInt8):List UInt8:=pG (lU l)
theorem m9(l:List UInt8):(lU l).length=l.length:=bQ
theorem qY(l:List UInt8):(pG l).length=l.length:=bQ
theorem r9(l:List UInt8):(lW l).length=l.length:=by rw [lW,qY,m9]
theorem ofNat_toNat{n:Nat}(h:n<256):(bK n).toNat=n:=by
 rw [UInt8.toNat_ofNat']
 omega
theorem tG(x b t:Nat)(h:x=b+28948022309329048855892746252171976963317496166410141009864396001978282409984*t)(hb:b<28948022309329048855892746252171976963317496166410141009864396001978282409984):mR x=b/8*8+28948022309329048855892746252171976963317496166410141009864396001978282409984:=by
 unfold mR
 rw [h,Nat.add_mul_mod_self_left,aY hb]
theorem vY:∀{l:List UInt8},0<l.length->le (lU l)=le l/8*8
 | [],h=>absurd h (by simp)
 | x::l,_=>by
  have hx:=x.toNat_lt;have e:lU (x::l)=bK (x.toNat/8*8)::l:=rfl;rw [e]
  show(bK (x.toNat/8*8)).toNat+256*le l=(x.toNat+256*le l)/8*8
  rw [ofNat_toNat (by omega)]
  omega
theorem vX{l:List UInt8}(h:l.length=32):∃b t,b<28948022309329048855892746252171976963317496166410141009864396001978282409984/\le l=b+28948022309329048855892746252171976963317496166410141009864396001978282409984*t/\le (pG l)=b+28948022309329048855892746252171976963317496166410141009864396001978282409984/\b%8=le l%8:=by
 have hs:l=l.take 31++[l[31]!]:=by
  have h1:l.drop 31=[l[31]!]:=by
   rw [lD (by omega),mH (by omega),getElem!_pos l 31 (by omega)]
  rw [<-h1,cW]
 have hlen:(l.take 31).length=31:=by rw [aU];omega
 have ht:pG l=l.take 31++[bK ((l[31]!).toNat%64+64)]:=by
  unfold pG
  conv=>lhs;arg 1;rw [hs]
  rw [fS _ _ (by rw [hlen];exact aF _),hlen]
  rfl
 have hx:=(l[31]!).toNat_lt;have hlo:=n5 (l.take 31);rw [hlen] at hlo
 have e1:le l=le (l.take 31)+256^31*(l[31]!).toNat:=by
  conv=>lhs;rw [hs]
  rw [gR,hlen]
  rfl
 have e2:le (pG l)=le (l.take 31)+256^31*((l[31]!).toNat%64+64):=by
  rw [ht,gR,hlen]
  show _+256^31*((bK ((l[31]!).toNat%64+64)).toNat+256*0)=_
  rw [ofNat_toNat (by omega)]
 generalize le (l.take 31)=u at *;generalize (l[31]!).toNat=y at *;refine⟨u+256^31*(y%64),y/64,?_,?_,?_,?_⟩
 ·omega
 ·rw [e1]
  omega
 ·rw [e2]
  omega
 ·rw [e1]
  omega
theorem tD{l:List UInt8}(h:l.length=32):le (lW l)=mR (le l):=by
 have h1:=vY (l:=l) (by omega);obtain⟨b,t,hb,e1,e2,e3⟩:=vX (l:=lU l) (by rw [m9,h]);rw [h1] at e1 e3
 have h8:b%8=0:=by rw [e3];omega
 obtain⟨r,hr,hr8⟩:∃r,le l=le l/8*8+r/\r<8:=⟨le l%8,by omega,by omega⟩;rw [lW,e2,tG (le l) (b+r) t (by omega) (by omega)]
 omega
def sgD(seed:List UInt8):List UInt8:=cE dK seed
def jQ(seed:List UInt8):List UInt8:=lW ((sgD seed).take 32)
def oT(seed:List UInt8):List UInt8:=(sgD seed).drop 32
def gE(seed:List UInt8):List UInt8:=fB (Ed.mul dd (le (jQ seed)) base)
def sgR(seed m:List UInt8):Nat:=le (cE dK (oT seed++m))%LL
def nL(seed m:List UInt8):List UInt8:=fB (Ed.mul dd (sgR seed m) base)
def sgK(R key m:List UInt8):Nat:=le (cE dK (R++(key++m)))%LL
def sgS(seed m:List UInt8):Nat:=(sgR seed m+sgK (nL seed m) (gE seed) m*le (jQ seed))%LL
def jE(seed m:List UInt8):List UInt8:=nL seed m++bytes 32 (sgS seed m)
def Right(key sig m:List UInt8):Prop:=∃A,Ed.On dd A/\fB A=key/\Ed.mul dd 8 A≠Ed.zero/\le (sig.drop 32)<LL /\
  fB (Ed.add dd (Ed.mul dd (le (sig.drop 32)) base) (Ed.neg (Ed.mul dd (sgK (sig.take 32) key m) A)))=sig.take 32
theorem mJ(m:List UInt8):(cE dK m).length=64:=by
 unfold cE
 have h:∀l:List Nat,((l.map (iN dK)).flatten).length=8*l.length:=by
  intro l
  induction l with
  | nil=>rfl
  | cons x l ih =>
   rw [bX,lJ,aB,ih,bD]
   have:(iN dK x).length=8:=by
    unfold iN
    rw [fJ,bW]
    rfl
   omega
 rw [h]
 rfl
theorem oJ(seed:List UInt8):(sgD seed).length=64:=mJ _
theorem qZ(seed:List UInt8):(jQ seed).length=32:=by rw [jQ,r9,aU,oJ];rfl
theorem s8(seed:List UInt8):(oT seed).length=32:=by rw [oT,dC,oJ]
theorem nM(seed:List UInt8):(gE seed).length=32:=jI _
theorem jF(seed m:List UInt8):(nL seed m).length=32:=jI _
theorem pT(seed m:List UInt8):(jE seed m).length=64:=by rw [jE,aB,jF,bW]
theorem rU(seed m:List UInt8):(jE seed m).take 32=nL seed m:=by rw [jE,List.take_append_of_le_length (by rw [jF];exact aF _),bG (by rw [jF];exact aF _)]
theorem rV(seed m:List UInt8):(jE seed m).drop 32=bytes 32 (sgS seed m):=by
 rw [jE,List.drop_append,jF,gW (by rw [jF];exact aF _)]
 rfl
theorem iI(n:Nat):n%LL<LL:=cO _ (by decide)
theorem uA(seed m:List UInt8):sgS seed m<LL:=iI _
theorem l9{n:Nat}(h:n<LL):le (bytes 32 n)=n:=by
 rw [iM,aY (Nat.lt_trans h (by decide))]
theorem uT(seed m:List UInt8):le ((jE seed m).drop 32)=sgS seed m:=by rw [rV,l9 (uA _ _)]
theorem tE(seed:List UInt8):Ed.mul dd 8 (Ed.mul dd (le (jQ seed)) base)≠Ed.zero:=by
 have h:le (jQ seed)=mR (le ((sgD seed).take 32)):=tD (by rw [aU,oJ];rfl);rw [h];exact rI _
theorem s9(seed m:List UInt8):Right (gE seed) (jE seed m) m:=by
 refine⟨_,Ed.fM good gB _,rfl,tE seed,?_,?_⟩
 ·rw [uT]
  exact uA _ _
 ·rw [uT,rU,sgS,rT]
  rfl
end Nums
namespace Go.Proofs.YtlhlkofpjhpaoaaGreatDoor
open Go.RowKit Go.IntWalk Nums
theorem size_Sn(n:Nat):(Tryz.prog.info? 145).map (·.size)=some (Us (ws n)).toArray.size:=by
 rw [aT,Us_len,j7]
 kernel_rfl
theorem pt_none{w:World}{P:Option Addr}{ls:List (List UInt8)}(h:PT w P ls)(hP:P=none):ls=[]:=by
 cases ls with
 | nil=>rfl
 | cons l ls =>
  obtain⟨ad,e,_⟩:=h (by simp);rw [hP] at e
  cases e
theorem number_f{v1 v2:Value}{l1 l2:List UInt8}{P:Option Addr}{ls:List (List UInt8)}{pc:Nat}(w:World)(hT:Tsh w)(h1:SB w v1 l1)(h2:SB w v2 l2)(hP:PT w P ls)(h0:P=none->pc=0)(hls:ls.length<=1000000) :
  Calls Tryz.prog 96 #[v1,v2,.slice P ls.length pc] w λe w'=>e = .returned (.agg (Us (ws (le (cE dK (l1++(l2++ls.flatten)))%LL))).toArray)/\Below w.heap.size w w':=by
 refine calls_F (vs:=[v1,v2,.slice P ls.length pc]) 16 Tryz.func96 rfl (by rw [Tryz.ntmps96];rfl) ?_;refine c_seq λK hK=>?_;refine c_lit ?_;refine l_allocA z4 rfl rfl rfl rfl (by kernel_rfl) λW1 g1 hw1 hg1 b1=>?_;refine l_nil ?_;refine hK _ _ ?_;clear hK K;replace h1:=h1.later hw1;replace h2:=h2.later hw1;replace hP:=hP.later hw1;replace hT:=hT.below hw1;have hU:Up w W1:=hw1
 have q1:w.heap.size<=g1:=by rw [hg1];exact aF _
 clear hw1;refine c_seq λK hK=>?_;refine c_gF 4 ?_;refine g_op rfl ?_;refine f_move v1 rfl rfl rfl rfl rfl ?_;refine g_go ?_;refine g_op rfl ?_;refine f_move v2 rfl rfl rfl rfl rfl ?_;refine g_go ?_;refine g_slices [v1,v2] [l1,l2] W1.heap.size rfl rfl rfl rfl rfl rfl rfl (by decide) (by decide) (λ_ h=>h.size) (λ_ h _=>⟨h1.later h,h2.later h,trivial⟩) λg2 _ _ _=>?_;refine g_op rfl ?_;refine f_move (.slice P ls.length pc) rfl rfl rfl rfl rfl ?_;refine g_go ?_;refine g_end λW2 hw2 hF=>?_;have n2:=hF 2 _ rfl;clear hF;refine l_appS (vs:=[v1,v2]) (ls:=ls) (base:=W1.heap.size) rfl rfl rfl rfl rfl rfl (n2.gs (n:=2) rfl (by decide)) hw2 hP (λe=>⟨h0 e,pt_none hP e⟩) (by simp;omega) hw2.size λA' c' W3 us hus hgs hgr=>?_;have hU3:Up W1 W3:=GS.grew (n2.gs (n:=2) rfl (by decide)) hw2 hgr hw2.size;have hall:All2 W3 ([v1,v2]++us) ([l1,l2]++ls):=All2.app ⟨h1.later hU3,h2.later hU3,trivial⟩ (All2.later hU3 hus);obtain⟨hPT,hc1,hc2⟩:=hgs.pt hall;rw [hall.len];refine l_assign (.slice A' ([l1,l2]++ls).length c') rfl rfl rfl rfl rfl ?_;refine l_nil ?_;refine hK _ _ ?_;clear hK K;replace b1:=b1.later hU3;replace hT:=hT.below hU3;replace hU:=hU.step hU3;refine c_seq λK hK=>?_;refine c_tF 3 ?_;refine f_move (.slice A' ([l1,l2]++ls).length c') rfl rfl rfl rfl rfl ?_;refine f_call #[.slice A' ([l1,l2]++ls).length c'] (.agg (By (cE dK ([l1,l2]++ls).flatten)).toArray) rfl rfl rfl own_sum512 (λw1 h=>sum512_f A' ([l1,l2]++ls) c' w1 (hT.below h) (hPT.later h) hc1 hc2) rfl rfl ?_;refine f_call #[.agg (By (cE dK ([l1,l2]++ls).flatten)).toArray] (.agg (Us (ws (le (cE dK ([l1,l2]++ls).flatten)%LL))).toArray) rfl rfl rfl own_wide (λw1 _=>wide_f (mJ _) w1) rfl rfl ?_;refine f_set g1 _ (Us (ws (le (cE dK ([l1,l2]++ls).flatten)%LL))).toArray rfl rfl rfl rfl rfl b1 (size_Sn _) (by rw [show(Us (ws _)).toArray.size=4 by rw [aT,Us_len,j7]];rfl) (λv hv=>Us_one _ v (by simpa using hv)) λw4 hw4 c4=>?_;refine l_nil ?_;refine hK _ _ ?_;clear hK K;refine c_ret (k_ret_row g1 _ rfl rfl c4 Tryz.underlying145 rfl (size_Sn _) ⟨?_,up_row (hU.step hw4) q1 _⟩)
 rfl
end Go.Proofs.YtlhlkofpjhpaoaaGreatDoor
namespace Go.Proofs.YtlhlkofpjhpaoaaGreatDoor
open Go.RowKit Go.IntWalk
theorem size_sum(cs:Array Value)(h:cs.size=2):(Tryz.prog.info? 269).map (·.size)=some cs.size:=by
 rw [h]
 kernel_rfl
theorem low_any(hi lo:Nat)(hl:lo<18446744073709551616)(w:World) :
  Calls Tryz.prog 173 #[.agg (Us [hi,lo]).toArray] w λe w'=>e = .returned (.int .u64 ((lo%2251799813685248:Nat):Int))/\Below w.heap.size w w':=by
 have e0:(Us [hi,lo]).toArray = #[.int .u64 (hi:Int),.int .u64 (lo:Int)]:=rfl;rw [e0]
 go_enter Tryz.func173,Tryz.ntmps173
 go_wp2
 rw [maskW lo hl]
 go_ret
 exact⟨rfl,(Below.refl _ _).alloc (aF _) _⟩
theorem high_any(hi lo:Nat)(hh:hi<2251799813685248)(hl:lo<18446744073709551616)(w:World) :
  Calls Tryz.prog 174 #[.agg (Us [hi,lo]).toArray] w λe w'=>e = .returned (.int .u64 ((hi*8192+lo/2251799813685248:Nat):Int))/\Below w.heap.size w w':=by
 have e0:(Us [hi,lo]).toArray = #[.int .u64 (hi:Int),.int .u64 (lo:Int)]:=rfl;rw [e0]
 go_enter Tryz.func174,Tryz.ntmps174
 go_wp2
 have e1:(hi:Int)*8192=((hi*8192:Nat):Int):=by omega
 rw [e1,div51,orW 13 (hi*8192) (lo/2251799813685248) (by omega) (by omega) (by omega) (by omega)]
 go_ret
 exact⟨rfl,(Below.refl _ _).alloc (aF _) _⟩
theorem plus_any(hi lo a b:Nat)(hh:hi<18446744073709551616)(hl:lo<18446744073709551616)(ha:a<18446744073709551616)(hb:b<18446744073709551616)(w:World) :
  Calls Tryz.prog 172 #[.agg (Us [hi,lo]).toArray,.int .u64 a,.int .u64 b] w λe w' =>
   e = .returned (.agg (Us [(hi+a*b/18446744073709551616+(lo+a*b%18446744073709551616)/18446744073709551616)%18446744073709551616,(lo+a*b%18446744073709551616)%18446744073709551616]).toArray)/\Below w.heap.size w w':=by
 have e0:(Us [hi,lo]).toArray = #[.int .u64 (hi:Int),.int .u64 (lo:Int)]:=rfl;rw [e0];have HM:=λw1=>c9 (mul64_any a b ha hb w1);generalize a*b/18446744073709551616=mh at *;generalize hml:a*b%18446744073709551616=ml at *
 have hml:ml<18446744073709551616:=by omega
 have hc1:((lo:Int)+(ml:Int))/18446744073709551616<=1:=by omega
 have hc0:(0:Int)<=((lo:Int)+(ml:Int))/18446744073709551616:=by omega
 go_enter Tryz.func172,Tryz.ntmps172
 go_wp2_with (fail)
 refine(HM _).out.mono ?_
 rintro e w1 ⟨rfl,rfl⟩
 go_wp2_with (first|simp only [add64_int0 lo ml (by omega) (by omega)]|simp only [add64_int hi mh _ (by omega) (by omega) hc0 hc1])
 refine bodyPost_ret (results_cell_row rfl _ _ (w.heap.size+1) 269 _ (0,0) _ rfl (heap_alloc2_new w _ _) Tryz.underlying269 rfl (size_sum _ rfl)) rfl ⟨?_,((Below.refl _ _).alloc (aF _) _).alloc (by simp) _⟩
 rfl
end Go.Proofs.YtlhlkofpjhpaoaaGreatDoor
