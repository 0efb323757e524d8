import Derived.Test.YtdinohbahfdphaaGreatDoorMc
import Derived.Test.YtdinohbahfdphaaGreatDoorMa
import Derived.StillTailTactics
import Derived.Test.YtdinohbahfdphaaGreatDoorMb
import Derived.Deep.OwnRows
import Derived.OwnWalk
open Go renaming Oper->yk
open Go renaming World->yp
set_option linter.defProp false
open Go.Proofs.Tryz
set_option maxRecDepth 100000
set_option maxHeartbeats 1000000
open And renaming intro->fF
open Bool renaming and_eq_true->aN
open Go.Act renaming put->nA
open Go.Instr renaming field->uZ
open Go.IntKind renaming wrap_u64->bH
open Go.Lib renaming hid->dW
open Go.Obj renaming cells->jQ
open Go.Op renaming equalIn->cC
open Go.Region renaming wanted->aQ,ready->a9,binds->c7,noSelect_spec->eN,free_spec->iT
open Go.Result renaming andThen_ok->aC
open Go.Sem renaming run_bind->aG,run_pure->aI
open Go.Value renaming int->cG,pointer->qJ
open Int renaming fdiv->qX,fdiv_eq_ediv_of_nonneg->sW
open List renaming length_append->aA,replicate->aB,mem_singleton->aD,mem_cons->aH,getElem?_eq_getElem->aJ,mem_cons_of_mem->aK,mem_cons_self->aM,getElem?_eq_some_iff->aP,mem_of_getElem?->aR,append_assoc->aT,length_take->aV,size_toArray->aW,mem_map->aZ,length_cons->a6,map_cons->bA,append_nil->bC,take_of_length_le->bJ,mem_append->bK,length_replicate->bL,length_set->bV,map_append->bX,take_append_drop->b6,pairwise_cons->cH,nil_append->cR,drop_of_length_le->cT,ext_getElem->c8,take_add_one->dO,map_set->dR,range->dV,drop_eq_getElem_cons->dZ,flatten_cons->eG,setIfInBounds_toArray->eO,set_cons_zero->fC,set_cons_succ->fD,take_append_of_le_length->fI,not_mem_nil->gB,getElem_mem->iF,drop_eq_nil_of_le->iU,drop_zero->jC,mem_range'_1->jK,find?_eq_none->lZ,mem_of_find?_eq_some->mE,getElem_set->oP,take_zero->qF,append_inj->rR,extract_eq_take_drop->sU,forIn_cons->uQ
open List.Pairwise renaming nil->pJ
open Nat renaming le_of_ble_eq_true->aE,le_refl->aF,zero_le->aL,blt->aU,zero_add->aY,mod_eq_of_lt->a7,le_trans->bM,lt_of_lt_of_le->b9,min_eq_left->cA,pow_succ->cB,add_zero->cD,mod_lt->cI,reducePow->cN,mul_comm->cX,lt_of_le_of_lt->dC,mul_assoc->eQ,sub_self->fL,add_sub_cancel_left->fM,reduceSub->gC,div_le_self->gM,add_comm->iD,mul_zero->iI,mul_le_mul->iS,pow_zero->jR,add_mul_mod_self_left->jV,pow_add->kC,add_mul_div_left->k8,pow_le_pow_right->mC,pow_mul->nP,pow_pos->oS,div_lt_of_lt_mul->qT,div_eq_of_lt->rG,le_of_lt->tG,mul_one->uV
open Option.some renaming injEq->a8
open Std.Legacy.Range renaming size->fP
open UInt8 renaming ofNat->bP,toNat_lt->cV,toNat_ofNat_of_lt'->mI,toNat_inj->rE
namespace Nums
def mW(l:zu):zu:=l.set 0 (bP ((l[0]!).toNat/8*8))
def qM(l:zu):zu:=l.set 31 (bP ((l[31]!).toNat%64+64))
def m9(l:zu):zu:=qM (mW l)
def oI(l:zu):(mW l).length=l.length:=bV
def sB(l:zu):(qM l).length=l.length:=bV
def tD(l:zu):(m9 l).length=l.length:=by rw [m9,sB,oI]
def ofNat_toNat{n:Nat}(h:n<256):(bP n).toNat=n:=by rw [UInt8.toNat_ofNat'];omega
def uN(x b t:Nat)(h:x=b+28948022309329048855892746252171976963317496166410141009864396001978282409984*t)(hb:b<28948022309329048855892746252171976963317496166410141009864396001978282409984):nZ x=b/8*8+28948022309329048855892746252171976963317496166410141009864396001978282409984:=by unfold nZ;rw [h,jV,a7 hb]
theorem xC:∀{l:zu},0<l.length->le (mW l)=le l/8*8
 | [],h=>absurd h (by simp)
 | x::l,_=>by have hx:=x.toNat_lt;have e:mW (x::l)=bP (x.toNat/8*8)::l:=rfl;rw [e];show(bP (x.toNat/8*8)).toNat+256*le l=(x.toNat+256*le l)/8*8;rw [ofNat_toNat (by omega)];omega
def xB{l:zu}(h:l.length=32):∃b t,b<28948022309329048855892746252171976963317496166410141009864396001978282409984/\le l=b+28948022309329048855892746252171976963317496166410141009864396001978282409984*t/\le (qM l)=b+28948022309329048855892746252171976963317496166410141009864396001978282409984/\b%8=le l%8:=by
 have hs:l=l.take 31++[l[31]!]:=by
  have h1:l.drop 31=[l[31]!]:=by rw [dZ (by omega),iU (by omega),getElem!_pos l 31 (by omega)]
  rw [<-h1,b6]
 have hlen:(l.take 31).length=31:=by rw [aV];omega
 have ht:qM l=l.take 31++[bP ((l[31]!).toNat%64+64)]:=by
  unfold qM
  conv=>lhs;arg 1;rw [hs]
  rw [List.set_append_right _ _ (by rw [hlen];exact aF _),hlen];rfl
 have hx:=(l[31]!).toNat_lt;have hlo:=pE (l.take 31);rw [hlen] at hlo;have e1:le l=le (l.take 31)+256^31*(l[31]!).toNat:=by
  conv=>lhs;rw [hs]
  rw [iR,hlen];rfl
 have e2:le (qM l)=le (l.take 31)+256^31*((l[31]!).toNat%64+64):=by rw [ht,iR,hlen];show _+256^31*((bP ((l[31]!).toNat%64+64)).toNat+256*0)=_;rw [ofNat_toNat (by omega)]
 generalize le (l.take 31)=u at *;generalize (l[31]!).toNat=y at *;refine⟨u+256^31*(y%64),y/64,?_,?_,?_,?_⟩
 .omega
 .rw [e1];omega
 .rw [e2];omega
 .rw [e1];omega
def uK{l:zu}(h:l.length=32):le (m9 l)=nZ (le l):=by
 have h1:=xC (l:=l) (by omega);obtain⟨b,t,hb,e1,e2,e3⟩:=xB (l:=mW l) (by rw [oI,h]);rw [h1] at e1 e3;have h8:b%8=0:=by rw [e3];omega
 obtain⟨r,hr,hr8⟩:∃r,le l=le l/8*8+r/\r<8:=⟨le l%8,by omega,by omega⟩;rw [m9,e2,uN (le l) (b+r) t (by omega) (by omega)];omega
def sgD(seed:zu):zu:=dJ eK seed
def lA(seed:zu):zu:=m9 ((sgD seed).take 32)
def pW(seed:zu):zu:=(sgD seed).drop 32
def iC(seed:zu):zu:=fU (Ed.mul dd (le (lA seed)) base)
def sgR(seed m:zu):Nat:=le (dJ eK (pW seed++m))%LL
def oX(seed m:zu):zu:=fU (Ed.mul dd (sgR seed m) base)
def sgK(R key m:zu):Nat:=le (dJ eK (R++(key++m)))%LL
def sgS(seed m:zu):Nat:=(sgR seed m+sgK (oX seed m) (iC seed) m*le (lA seed))%LL
def kU(seed m:zu):zu:=oX seed m++bytes 32 (sgS seed m)
def Right(key sig m:zu):Prop:=∃A,Ed.On dd A/\fU A=key/\Ed.mul dd 8 A≠Ed.zero/\le (sig.drop 32)<LL /\
  fU (Ed.add dd (Ed.mul dd (le (sig.drop 32)) base) (Ed.neg (Ed.mul dd (sgK (sig.take 32) key m) A)))=sig.take 32
def nN(m:zu):(dJ eK m).length=64:=by
 unfold dJ;have h:∀l:zj,((l.map (jZ eK)).flatten).length=8*l.length:=by
  intro l;induction l with
  | nil=>rfl
  | cons x l ih =>
   rw [bA,eG,aA,ih,a6]
   have:(jZ eK x).length=8:=by unfold jZ;rw [List.length_reverse,cZ];rfl
   omega
 rw [h];rfl
def pP(seed:zu):(sgD seed).length=64:=nN _
def sC(seed:zu):(lA seed).length=32:=by rw [lA,tD,aV,pP];rfl
def uF(seed:zu):(pW seed).length=32:=by rw [pW,List.length_drop,pP]
def oY(seed:zu):(iC seed).length=32:=kZ _
def kV(seed m:zu):(oX seed m).length=32:=kZ _
def q7(seed m:zu):(kU seed m).length=64:=by rw [kU,aA,kV,cZ]
def s7(seed m:zu):(kU seed m).take 32=oX seed m:=by rw [kU,fI (by rw [kV];exact aF _),bJ (by rw [kV];exact aF _)]
def s8(seed m:zu):(kU seed m).drop 32=bytes 32 (sgS seed m):=by rw [kU,List.drop_append,kV,cT (by rw [kV];exact aF _)];rfl
def jO(n:Nat):n%LL<LL:=cI _ (by decide)
def vE(seed m:zu):sgS seed m<LL:=jO _
def nE{n:Nat}(h:n<LL):le (bytes 32 n)=n:=by rw [jY,a7 (Nat.lt_trans h (by decide))]
def vY(seed m:zu):le ((kU seed m).drop 32)=sgS seed m:=by rw [s8,nE (vE _ _)]
def uL(seed:zu):Ed.mul dd 8 (Ed.mul dd (le (lA seed)) base)≠Ed.zero:=by have h:le (lA seed)=nZ (le ((sgD seed).take 32)):=uK (by rw [aV,pP];rfl);rw [h];exact sM _
def uG(seed m:zu):Right (iC seed) (kU seed m) m:=by
 refine⟨_,Ed.gD good gY _,rfl,uL seed,?_,?_⟩
 .rw [vY];exact vE _ _
 .rw [vY,s7,sgS,s6];rfl
end Nums
namespace Go.Proofs.Q
open Go.RowKit Go.IntWalk Nums
def size_Sn(n:Nat):(prog.info? 188).map (·.size)=some (Us (ws n)).toArray.size:=by rw [aW,Us_len,lK];kernel_rfl
theorem pt_none{w:yp}{P:zt}{ls:zy}(h:PT w P ls)(hP:P=none):ls=[]:=by
 cases ls with
 | nil=>rfl
 | cons l ls =>
  obtain⟨ad,e,_⟩:=h (by simp);rw [hP] at e
  cases e
def number_f{v1 v2:Value}{l1 l2:zu}{P:zt}{ls:zy}{pc:Nat}(w:yp)(hT:Tsh w)(h1:SB w v1 l1)(h2:SB w v2 l2)(hP:PT w P ls)(h0:P=none->pc=0)(hls:ls.length<=1000000) :
  Calls prog 130 #[v1,v2,.slice P ls.length pc] w λe w'=>e = .returned (.agg (Us (ws (le (dJ eK (l1++(l2++ls.flatten)))%LL))).toArray)/\Below w.heap.size w w':=by
 refine calls_F (vs:=[v1,v2,.slice P ls.length pc]) 16 func130 rfl (by rw [ntmps130];rfl) ?_;refine c_seq λK hK=>c_lit ?_;refine l_allocA z4 rfl rfl rfl rfl (by kernel_rfl) λW1 g1 hw1 hg1 b1=>?_;refine l_nil (hK _ _ ?_);clear hK K;replace h1:=h1.later hw1;replace h2:=h2.later hw1;replace hP:=hP.later hw1;replace hT:=hT.below hw1;have hU:Up w W1:=hw1
 have q1:w.heap.size<=g1:=by rw [hg1];exact aF _
 clear hw1;refine c_seq λK hK=>c_gF 4 (g_op rfl (f_move v1 rfl rfl rfl rfl rfl (g_go (g_op rfl (f_move v2 rfl rfl rfl rfl rfl (g_go ?_))))));refine g_slices [v1,v2] [l1,l2] W1.heap.size rfl rfl rfl rfl rfl rfl rfl (by decide) (by decide) (λ_ h=>h.size) (λ_ h _=>⟨h1.later h,h2.later h,trivial⟩) λg2 _ _ _=>?_;refine g_op rfl (f_move (.slice P ls.length pc) rfl rfl rfl rfl rfl (g_go (g_end λW2 hw2 hF=>?_)));have n2:=hF 2 _ rfl;clear hF;refine l_appS (vs:=[v1,v2]) (ls:=ls) (base:=W1.heap.size) rfl rfl rfl rfl rfl rfl (n2.gs (n:=2) rfl (by decide)) hw2 hP (λe=>⟨h0 e,pt_none hP e⟩) (by simp;omega) hw2.size λA' c' W3 us hus hgs hgr=>?_;have hU3:Up W1 W3:=GS.grew (n2.gs (n:=2) rfl (by decide)) hw2 hgr hw2.size;have hall:All2 W3 ([v1,v2]++us) ([l1,l2]++ls):=All2.app ⟨h1.later hU3,h2.later hU3,trivial⟩ (All2.later hU3 hus);obtain⟨hPT,hc1,hc2⟩:=hgs.pt hall;rw [hall.len];refine l_assign (.slice A' ([l1,l2]++ls).length c') rfl rfl rfl rfl rfl (l_nil (hK _ _ ?_));clear hK K;replace b1:=b1.later hU3;replace hT:=hT.below hU3;replace hU:=hU.step hU3;refine c_seq λK hK=>c_tF 3 (f_move (.slice A' ([l1,l2]++ls).length c') rfl rfl rfl rfl rfl (f_call #[.slice A' ([l1,l2]++ls).length c'] (.agg (By (dJ eK ([l1,l2]++ls).flatten)).toArray) rfl rfl rfl own_sum512 (λw1 h=>sum512_f A' ([l1,l2]++ls) c' w1 (hT.below h) (hPT.later h) hc1 hc2) rfl rfl (f_call #[.agg (By (dJ eK ([l1,l2]++ls).flatten)).toArray] (.agg (Us (ws (le (dJ eK ([l1,l2]++ls).flatten)%LL))).toArray) rfl rfl rfl own_wide (λw1 _=>wide_f (nN _) w1) rfl rfl ?_)));refine f_set g1 _ (Us (ws (le (dJ eK ([l1,l2]++ls).flatten)%LL))).toArray rfl rfl rfl rfl rfl b1 (size_Sn _) (by rw [show(Us (ws _)).toArray.size=4 by rw [aW,Us_len,lK]];rfl) (λv hv=>Us_one _ v (by simpa using hv)) λw4 hw4 c4=>?_;refine l_nil (hK _ _ ?_);clear hK K;refine c_ret (k_ret_row g1 _ rfl rfl c4 underlying188 rfl (size_Sn _) ⟨?_,up_row (hU.step hw4) q1 _⟩)
 rfl
end Go.Proofs.Q
namespace Go.Proofs.Q
open Go.RowKit Go.IntWalk
def size_sum(cs:zr)(h:cs.size=2):(prog.info? 336).map (·.size)=some cs.size:=by rw [h];kernel_rfl
def low_any(hi lo:Nat)(hl:lo<18446744073709551616)(w:yp) :
  Calls prog 224 #[.agg (Us [hi,lo]).toArray] w λe w'=>e = .returned (.int .u64 ((lo%2251799813685248:Nat):Int))/\Below w.heap.size w w':=by
 have e0:(Us [hi,lo]).toArray = #[.int .u64 (hi:Int),.int .u64 (lo:Int)]:=rfl;rw [e0]
 go_enter func224,ntmps224
 go_wp2
 rw [maskW lo hl]
 go_ret
 exact⟨rfl,(Below.refl _ _).alloc (aF _) _⟩
def high_any(hi lo:Nat)(hh:hi<2251799813685248)(hl:lo<18446744073709551616)(w:yp) :
  Calls prog 225 #[.agg (Us [hi,lo]).toArray] w λe w'=>e = .returned (.int .u64 ((hi*8192+lo/2251799813685248:Nat):Int))/\Below w.heap.size w w':=by
 have e0:(Us [hi,lo]).toArray = #[.int .u64 (hi:Int),.int .u64 (lo:Int)]:=rfl;rw [e0]
 go_enter func225,ntmps225
 go_wp2
 have e1:(hi:Int)*8192=((hi*8192:Nat):Int):=by omega
 rw [e1,div51,orW 13 (hi*8192) (lo/2251799813685248) (by omega) (by omega) (by omega) (by omega)]
 go_ret
 exact⟨rfl,(Below.refl _ _).alloc (aF _) _⟩
def plus_any(hi lo a b:Nat)(hh:hi<18446744073709551616)(hl:lo<18446744073709551616)(ha:a<18446744073709551616)(hb:b<18446744073709551616)(w:yp) :
  Calls prog 223 #[.agg (Us [hi,lo]).toArray,.int .u64 a,.int .u64 b] w λe w' =>
   e = .returned (.agg (Us [(hi+a*b/18446744073709551616+(lo+a*b%18446744073709551616)/18446744073709551616)%18446744073709551616,(lo+a*b%18446744073709551616)%18446744073709551616]).toArray)/\Below w.heap.size w w':=by
 have e0:(Us [hi,lo]).toArray = #[.int .u64 (hi:Int),.int .u64 (lo:Int)]:=rfl;rw [e0];have HM:=λw1=>dW (mul64_any a b ha hb w1);generalize a*b/18446744073709551616=mh at *;generalize hml:a*b%18446744073709551616=ml at *
 have hml:ml<18446744073709551616:=by omega
 have hc1:((lo:Int)+(ml:Int))/18446744073709551616<=1:=by omega
 have hc0:(0:Int)<=((lo:Int)+(ml:Int))/18446744073709551616:=by omega
 go_enter func223,ntmps223
 go_wp2_with (fail)
 refine(HM _).out.mono ?_
 rintro e w1 ⟨rfl,rfl⟩
 go_wp2_with (first|simp only [add64_int0 lo ml (by omega) (by omega)]|simp only [add64_int hi mh _ (by omega) (by omega) hc0 hc1])
 refine bodyPost_ret (results_cell_row rfl _ _ (w.heap.size+1) 336 _ (0,0) _ rfl (heap_alloc2_new w _ _) underlying336 rfl (size_sum _ rfl)) rfl ⟨?_,((Below.refl _ _).alloc (aF _) _).alloc (by simp) _⟩
 rfl
end Go.Proofs.Q
namespace Nums
def lv:zj->Nat
  | []=>0
  | d::ds=>d+2251799813685248*lv ds
def lv5(a0 a1 a2 a3 a4:Nat):lv [a0,a1,a2,a3,a4]=a0+2251799813685248*(a1+2251799813685248*(a2+2251799813685248*(a3+2251799813685248*a4))):=by simp only [lv,iI,cD]
structure EB(l:zj)(x:F):Prop where
  len:l.length=5
  bnd:∀y∈l,y<2251799813947392
  val:fof (lv l)=x
theorem pM{l:zj}(h:l.length=5):∃a0 a1 a2 a3 a4,l=[a0,a1,a2,a3,a4]:=by
 match l,h with
 | [a0,a1,a2,a3,a4],_=>exact⟨a0,a1,a2,a3,a4,rfl⟩
def EB.pM{l:zj}{x:F}(h:EB l x):∃a0 a1 a2 a3 a4,l=[a0,a1,a2,a3,a4]/\a0<2251799813947392/\a1<2251799813947392/\a2<2251799813947392/\a3<2251799813947392/\a4<2251799813947392/\fof (lv [a0,a1,a2,a3,a4])=x:=by obtain⟨a0,a1,a2,a3,a4,rfl⟩:=Nums.pM h.len;have hb:=h.bnd;exact⟨a0,a1,a2,a3,a4,rfl,hb _ (by simp),hb _ (by simp),hb _ (by simp),hb _ (by simp),hb _ (by simp),h.val⟩
def EB.mk5{a0 a1 a2 a3 a4:Nat}{x:F}(h0:a0<2251799813947392)(h1:a1<2251799813947392)(h2:a2<2251799813947392)(h3:a3<2251799813947392)(h4:a4<2251799813947392)(h:fof (lv [a0,a1,a2,a3,a4])=x) :
  EB [a0,a1,a2,a3,a4] x:=by
 refine⟨rfl,?_,h⟩
 intro y hy
 simp only [aH,gB,or_false] at hy
 rcases hy with rfl|rfl|rfl|rfl|rfl<;>assumption
def wZ:p=57896044618658097711785492504343953926634992332820282019728792003956564819949:=by decide
def crd(a0 a1 a2 a3 a4:Nat):zj :=
  [a0%2251799813685248+19*(a4/2251799813685248),a1%2251799813685248+a0/2251799813685248,a2%2251799813685248+a1/2251799813685248,a3%2251799813685248+a2/2251799813685248,a4%2251799813685248+a3/2251799813685248]
def wF(a k:Nat):fof (a+p*k)=fof a:=j8 (by rw [jV])
def wI(a0 a1 a2 a3 a4:Nat):fof (lv (crd a0 a1 a2 a3 a4))=fof (lv [a0,a1,a2,a3,a4]):=by
 have h:lv (crd a0 a1 a2 a3 a4)+p*(a4/2251799813685248)=lv [a0,a1,a2,a3,a4]:=by unfold crd;rw [lv5,lv5,wZ];omega
 rw [<-h,wF]
def tC{a0 a1 a2 a3 a4:Nat}(h0:a0<18446744073709551616)(h1:a1<18446744073709551616)(h2:a2<18446744073709551616)(h3:a3<18446744073709551616)(h4:a4<18446744073709551616) :
  EB (crd a0 a1 a2 a3 a4) (fof (lv [a0,a1,a2,a3,a4])) :=
 EB.mk5 (by omega) (by omega) (by omega) (by omega) (by omega) (wI a0 a1 a2 a3 a4)
def x9(a0 a1 a2 a3 a4 b0 b1 b2 b3 b4:Nat):lv [a0+b0,a1+b1,a2+b2,a3+b3,a4+b4]=lv [a0,a1,a2,a3,a4]+lv [b0,b1,b2,b3,b4]:=by rw [lv5,lv5,lv5];omega
def xS{a0 a1 a2 a3 a4 b0 b1 b2 b3 b4:Nat}(h0:b0<2251799813947392)(h1:b1<2251799813947392)(h2:b2<2251799813947392)(h3:b3<2251799813947392)(h4:b4<2251799813947392) :
  fof (lv [a0+(4503599627370458-b0),a1+(4503599627370494-b1),a2+(4503599627370494-b2),a3+(4503599627370494-b3),a4+(4503599627370494-b4)])=fof (lv [a0,a1,a2,a3,a4])-fof (lv [b0,b1,b2,b3,b4]):=by
 have h:lv [a0+(4503599627370458-b0),a1+(4503599627370494-b1),a2+(4503599627370494-b2),a3+(4503599627370494-b3),a4+(4503599627370494-b4)]+lv [b0,b1,b2,b3,b4]=lv [a0,a1,a2,a3,a4]+p*2:=by rw [lv5,lv5,lv5,wZ];omega
 have h2:fof (lv [a0,a1,a2,a3,a4])=fof (lv [a0+(4503599627370458-b0),a1+(4503599627370494-b1),a2+(4503599627370494-b2),a3+(4503599627370494-b3),a4+(4503599627370494-b4)])+fof (lv [b0,b1,b2,b3,b4]):=by rw [<-kL,h,wF]
 rw [h2];generalize fof (lv [a0+(4503599627370458-b0),a1+(4503599627370494-b1),a2+(4503599627370494-b2),a3+(4503599627370494-b3),a4+(4503599627370494-b4)])=u;generalize fof (lv [b0,b1,b2,b3,b4])=v
 grind only
def wQ(c0 c1 c2 c3 c4:Nat):fof (lv [19*c4,c0,c1,c2,c3])=fof 2251799813685248*fof (lv [c0,c1,c2,c3,c4]):=by
 have h:lv [19*c4,c0,c1,c2,c3]+p*c4=2251799813685248*lv [c0,c1,c2,c3,c4]:=by rw [lv5,lv5,wZ];omega
 rw [<-fA,<-h,wF]
def xA(s0 s1 s2 s3 s4 v c0 c1 c2 c3 c4:Nat):lv [s0+v*c0,s1+v*c1,s2+v*c2,s3+v*c3,s4+v*c4]=lv [s0,s1,s2,s3,s4]+v*lv [c0,c1,c2,c3,c4]:=by rw [lv5,lv5,lv5];grind only
def up1(l:zj)(u:Nat):zk
  | 0=>u
  | k+1=>(l[k]! + up1 l u k)/2251799813685248
def up2(l:zj)(u:Nat):zk
  | 0=>u
  | k+1=>(up2 l u k+l[k]!)/2251799813685248
def whs(l:zj)(u k:Nat):zj:=(dV 5).map λj=>if j<k then(up2 l u j+l[j]!)%2251799813685248 else l[j]!
def whole(l:zj):zj:=whs l (up1 l 19 5*19) 5
def iQ{l:zj}{x:F}(h:EB l x):(whole l).length=5/\(∀y∈whole l,y<2251799813685248)/\lv (whole l)=x.val:=by
 refine⟨by simp [whole,whs],?_,?_⟩
 .intro y hy;obtain⟨j,hj,rfl⟩:=aZ.1 hy;rw [if_pos (by simpa using hj)];exact cI _ (by decide)
 .obtain⟨a0,a1,a2,a3,a4,rfl,h0,h1,h2,h3,h4,hv⟩:=h.pM
  have hw:whole [a0,a1,a2,a3,a4]=[(up2 [a0,a1,a2,a3,a4] (up1 [a0,a1,a2,a3,a4] 19 5*19) 0+a0)%2251799813685248,(up2 [a0,a1,a2,a3,a4] (up1 [a0,a1,a2,a3,a4] 19 5*19) 1+a1)%2251799813685248,(up2 [a0,a1,a2,a3,a4] (up1 [a0,a1,a2,a3,a4] 19 5*19) 2+a2)%2251799813685248,(up2 [a0,a1,a2,a3,a4] (up1 [a0,a1,a2,a3,a4] 19 5*19) 3+a3)%2251799813685248,(up2 [a0,a1,a2,a3,a4] (up1 [a0,a1,a2,a3,a4] 19 5*19) 4+a4)%2251799813685248]:=rfl;have hu:up1 [a0,a1,a2,a3,a4] 19 5=(a4+(a3+(a2+(a1+(a0+19)/2251799813685248)/2251799813685248)/2251799813685248)/2251799813685248)/2251799813685248:=rfl;rw [<-hv,lE,hw];generalize hq:up1 [a0,a1,a2,a3,a4] 19 5=q at *;have g0:up2 [a0,a1,a2,a3,a4] (q*19) 0=q*19:=rfl;have g1:up2 [a0,a1,a2,a3,a4] (q*19) 1=(up2 [a0,a1,a2,a3,a4] (q*19) 0+a0)/2251799813685248:=rfl;have g2:up2 [a0,a1,a2,a3,a4] (q*19) 2=(up2 [a0,a1,a2,a3,a4] (q*19) 1+a1)/2251799813685248:=rfl;have g3:up2 [a0,a1,a2,a3,a4] (q*19) 3=(up2 [a0,a1,a2,a3,a4] (q*19) 2+a2)/2251799813685248:=rfl;have g4:up2 [a0,a1,a2,a3,a4] (q*19) 4=(up2 [a0,a1,a2,a3,a4] (q*19) 3+a3)/2251799813685248:=rfl;generalize up2 [a0,a1,a2,a3,a4] (q*19) 0=e0 at *;generalize up2 [a0,a1,a2,a3,a4] (q*19) 1=e1 at *;generalize up2 [a0,a1,a2,a3,a4] (q*19) 2=e2 at *;generalize up2 [a0,a1,a2,a3,a4] (q*19) 3=e3 at *;generalize up2 [a0,a1,a2,a3,a4] (q*19) 4=e4 at *;have hL:=lv5 a0 a1 a2 a3 a4;generalize lv [a0,a1,a2,a3,a4]=L at *;rw [lv5];have hp:=wZ;generalize p=P at *;have ha:q<2:=by omega
  have hb:q=0->L<P:=by omega
  have hc:q=1->P<=L:=by omega
  have hd:L<2*P:=by omega
  rcases(show q=0\/q=1 by omega) with rfl|rfl
  .rw [a7 (hb rfl)];clear hu hc hd hv;have:=hb rfl;omega
  .have hge:=hc rfl
   have hm:L%P=L-P:=by rw [Nat.mod_eq_sub_mod hge,a7 (by omega)]
   rw [hm];clear hu hb hv hm;omega
end Nums
namespace Go.Proofs.Q
open Go.RowKit Go.IntWalk Nums
def size_el(cs:zr)(h:cs.size=5):(prog.info? 247).map (·.size)=some cs.size:=by rw [h];kernel_rfl
def z5:zr:=(Us [0,0,0,0,0]).toArray
def len_us{l:zj}(h:l.length=5):(Us l).toArray.size=5:=by rw [aW,Us_len,h]
def crd_cell0(a c:Nat)(ha:a<18446744073709551616)(hc:c<18446744073709551616) :
  IntKind.u64.wrap (bits .and .u64 (a:Int) 2251799813685247+19*((c:Int)/2251799813685248))=((a%2251799813685248+19*(c/2251799813685248):Nat):Int):=by
 rw [maskW a ha,bH]
 omega
def crd_cell(a c:Nat)(ha:a<18446744073709551616)(hc:c<18446744073709551616) :
  IntKind.u64.wrap (bits .and .u64 (a:Int) 2251799813685247+(c:Int)/2251799813685248)=((a%2251799813685248+c/2251799813685248:Nat):Int):=by
 rw [maskW a ha,bH]
 omega
def carried_f(a0 a1 a2 a3 a4:Nat)(h0:a0<18446744073709551616)(h1:a1<18446744073709551616)(h2:a2<18446744073709551616)(h3:a3<18446744073709551616)(h4:a4<18446744073709551616)(w:yp) :
  Calls prog 226 #[.agg (Us [a0,a1,a2,a3,a4]).toArray] w λe w'=>e = .returned (.agg (Us (crd a0 a1 a2 a3 a4)).toArray)/\Below w.heap.size w w':=by
 have e0:(Us [a0,a1,a2,a3,a4]).toArray = #[.int .u64 (a0:Int),.int .u64 (a1:Int),.int .u64 (a2:Int),.int .u64 (a3:Int),.int .u64 (a4:Int)]:=rfl;rw [e0]
 go_enter func226,ntmps226
 go_wp2
 rw [crd_cell0 a0 a4 h0 h4,crd_cell a1 a0 h1 h0,crd_cell a2 a1 h2 h1,crd_cell a3 a2 h3 h2,crd_cell a4 a3 h4 h3];refine bodyPost_ret (results_cell_row rfl _ _ (w.heap.size+1) 247 _ (0,0) _ rfl (blk3_1 w _ _ _ _) underlying247 rfl (size_el _ rfl)) rfl ⟨rfl,?_⟩;exact(((Below.refl _ _).alloc (aF _) _).alloc (by simp) _).alloc (by simp;omega) _
def mx(f:zk)(l:zj)(k:Nat):zj:=(dV 5).map λj=>if j<k then f j else l[j]!
def mx_len(f:zk)(l:zj)(k:Nat):(mx f l k).length=5:=by simp [mx]
def mx_zero(f:zk){l:zj}(h:l.length=5):mx f l 0=l:=by obtain⟨a0,a1,a2,a3,a4,rfl⟩:=pM h;rfl
def mx_get(f:zk)(l:zj){k:Nat}(h:k<5):(mx f l k)[k]! = l[k]!:=by rw [getElem!_pos _ k (by rw [mx_len];exact h)];simp [mx]
def mx_set(f:zk)(l:zj){k:Nat}:(mx f l k).set k (f k)=mx f l (k+1):=by
 apply c8 (by simp [mx]);intro j h1 h2;rw [oP];simp only [mx,List.getElem_map,List.getElem_range];by_cases hjk:k=j
 .subst hjk;simp
 .rw [if_neg hjk]
  by_cases hlt:j<k
  .rw [if_pos hlt,if_pos (by omega)]
  .rw [if_neg hlt,if_neg (by omega)]
def eb_get{l:zj}{x:F}(h:EB l x){k:Nat}(hk:k<5):l[k]! < 2251799813947392 :=
 h.bnd _ (by rw [getElem!_pos l k (by rw [h.len];exact hk)];exact iF _)
def twl:zj:=[4503599627370458,4503599627370494,4503599627370494,4503599627370494,4503599627370494]
def twl_get{k:Nat}(h:k<5):4503599627370458<=twl[k]! /\ twl[k]! <= 4503599627370494:=by
 have h5:k=0\/k=1\/k=2\/k=3\/k=4:=by omega
 rcases h5 with rfl|rfl|rfl|rfl|rfl<;>decide
structure Tw(w:yp):Prop where
  cell:∀i,i<5->w.cell? ⟨3,i,none⟩=some (.int .u64 (twl[i]! : Nat))
  lt : 3 < w.heap.size
def Tw.below{w w':yp} (h:Tw w)(hb:Below w.heap.size w w'):Tw w' :=
 ⟨λi hi=>(hb.cell (p:=⟨3,i,none⟩) h.lt).trans (h.cell i hi),b9 h.lt hb.size⟩
def Tw.at{w:yp}(h:Tw w){k:Nat}(hk:k<5):w.cell? ⟨3,k,none⟩=some (.int .u64 (twl[k]! : Nat)):=h.cell k hk
def small_f(v:Nat)(hv:v<18446744073709551616)(w:yp) :
  Calls prog 187 #[.int .u64 v] w λe w'=>∃r,EB r (fof v)/\e = .returned (.agg (Us r).toArray)/\Below w.heap.size w w':=by
 go_enter func187,ntmps187
 go_wp2
 rw [maskW v hv]
 have hE:EB [v%2251799813685248,v/2251799813685248,0,0,0] (fof v):=EB.mk5 (by omega) (by omega) (by omega) (by omega) (by omega) (by congr 1;rw [lv5];omega)
 refine bodyPost_ret (results_cell_row rfl _ _ w.heap.size 247 _ (0,0) _ rfl (heap_alloc_new w _) underlying247 rfl (size_el _ rfl)) rfl ⟨_,hE,rfl,?_⟩;exact(Below.refl _ _).alloc (aF _) _
def and248(m:Nat)(h:m<256):bits .and .u8 (m:Int) 248=((m/8*8:Nat):Int):=by
 have key:∀m:Nat,m<256->bits .and .u8 (m:Int) 248=((m/8*8:Nat):Int):=by decide +kernel
 exact key m h
def or64(m:Nat)(h:m<256):bits .or .u8 ((m%128:Nat):Int) 64=((m%64+64:Nat):Int):=by
 have key:∀m:Nat,m<256->bits .or .u8 ((m%128:Nat):Int) 64=((m%64+64:Nat):Int):=by decide +kernel
 exact key m h
def cop_set{d:zu}(h:d.length=32){k:Nat}(hk:k<32)(x:UInt8):(cop z64 0 d).set k x=cop z64 0 (d.set k x):=by simp only [cop,h,bV,qF,cR];rw [List.set_append_left _ _ (by omega)]
def cop_get{d:zu}(h:d.length=32){k:Nat}(hk:k<32):(cop z64 0 d)[k]! = d[k]!:=by simp only [cop,qF,cR];rw [getElem!_pos _ k (by rw [aA];omega),getElem!_pos _ k (by omega),List.getElem_append_left]
structure Ta(w:yp):Prop where
  tw:Tw w
  sh:Tsh w
def Ta.below{w w':yp}(h:Ta w)(hb:Below w.heap.size w w'):Ta w':=⟨h.tw.below hb,h.sh.below hb⟩
def mul_a(seed:zu):fU (Ed.mul dd (le (lA seed)%LL) base)=iC seed:=by unfold iC;generalize le (lA seed)=n;exact congrArg fU (Ed.mul_mod good gY order n).symm
def sgR_eq{seed m:zu}:le (dJ eK (pW seed++([]++m)))%LL=sgR seed m:=rfl
def sgR_lt(seed m:zu):sgR seed m<LL:=jO _
def sgK_eq{R key m:zu}:le (dJ eK (R++(key++m)))%LL=sgK R key m:=rfl
def sgK_lt(R key m:zu):sgK R key m<LL:=jO _
def sgS_eq{seed m:zu}:(sgR seed m+sgK (oX seed m) (iC seed) m*(le (lA seed)%LL)%LL)%LL=sgS seed m:=by rw [sgS,Nat.mul_mod_mod,Nat.add_mod_mod]
def sig_cop{seed m:zu}:cop (cop z64 0 (oX seed m)) 32 (Nums.bytes 32 (sgS seed m))=kU seed m:=by
 have h1:=kV seed m;have h2:=cZ 32 (sgS seed m);have e:cop z64 0 (oX seed m)=oX seed m++aB 32 0:=by rw [cop,h1];simp [z64]
 rw [e,cop,h2,fI (by rw [h1];exact aF _),bJ (by rw [h1];exact aF _),cT (by rw [aA,h1,bL];exact aF _),bC];rfl
open Classical in
noncomputable def rightB(key sig m:zu):Bool:=decide (Right key sig m)
open Classical in
def rightB_no{key sig m:zu}(h:¬ ∃A,Ed.On dd A/\fU A=key):rightB key sig m=false:=decide_eq_false λ⟨A,h1,h2,_⟩=>h ⟨A,h1,h2⟩
open Classical in
def rightB_small{A:Ed.Pt p}{sig m:zu}(hA:Ed.On dd A)(h:Ed.mul dd 8 A=Ed.zero):rightB (fU A) sig m=false:=decide_eq_false λ⟨B,h1,h2,h3,_⟩=>h3 (by rw [oM h1 hA h2];exact h)
open Classical in
def rightB_great{key sig m:zu}(h:¬le (sig.drop 32)<LL):rightB key sig m=false:=decide_eq_false λ⟨_,_,_,_,h4,_⟩=>h h4
def rightB_is{A:Ed.Pt p}{sig m:zu}(hA:Ed.On dd A)(h8:Ed.mul dd 8 A≠Ed.zero)(hS:le (sig.drop 32)<LL) :
  rightB (fU A) sig m=decide (fU (Ed.add dd (Ed.mul dd (le (Nums.bytes 32 (le (sig.drop 32)))) base) (Ed.mul dd (le (Nums.bytes 32 (sgK (sig.take 32) (fU A) m))) (Ed.neg A)))=sig.take 32):=by
 rw [nE hS,nE (sgK_lt _ _ _),Ed.mul_neg good hA]
 unfold rightB
 rw [decide_eq_decide]
 constructor
 .rintro⟨B,h1,h2,_,_,h5⟩;obtain rfl:=oM h1 hA h2;exact h5
 .exact λh=>⟨A,hA,rfl,h8,hS,h⟩
def small_dec{A:Ed.Pt p}(hA:Ed.On dd A):fU (Ed.mul dd 8 A)=fU Ed.zero↔Ed.mul dd 8 A=Ed.zero :=
 ⟨λh=>oM (Ed.gD good hA 8) Ed.lD h,λh=>by rw [h]⟩
def zH:zu:=aB 32 0
def keyH(d k:zu):zu:=dJ dK ([[3],d,k]:zy).flatten
def dH(ks:zy):zu:=ks.foldl keyH zH
def valH(ks:zy):zu:=dJ dK ([[2],be8 ks.length,dH ks]:zy).flatten
def dig_len(m:zu):(dJ dK m).length=32:=digest256_len m
theorem dH_len(ks:zy):(dH ks).length=32:=by
 unfold dH;rw [List.foldl_eq_foldr_reverse];cases ks.reverse with
 | nil=>rfl
 | cons k r=>exact dig_len _
def dH_next{ks:zy}{i:Nat}{k:zu}(h:ks[i]?=some k):dH (ks.take (i+1))=keyH (dH (ks.take i)) k:=by unfold dH;rw [dO,h,List.foldl_append];rfl
structure UV where
  id:zu
  ver:Int
  key:zu
  sig:zu
abbrev yx:=List UV
def UV.parts(u:UV):zb:=[.agg 32 (By u.id).toArray,.one (.v (.int .i64 u.ver)),.agg 32 (By u.key).toArray,.agg 64 (By u.sig).toArray]
abbrev eU(u:UV):SQ:=.p u.parts
structure UV.Ok(u:UV):Prop where
  id:u.id.length=32
  key:u.key.length=32
  sig:u.sig.length=64
def UV.Ok.parts_ok{u:UV}(h:u.Ok):OkP u.parts:=λp hp=>by
 simp only [UV.parts,aH,gB,or_false] at hp;rcases hp with rfl|rfl|rfl|rfl
 .exact(eY_ok h.id).1 _ (aD.2 rfl)
 .exact⟨trivial,rfl,rfl⟩
 .exact(eY_ok h.key).1 _ (aD.2 rfl)
 .exact(eY_ok h.sig).1 _ (aD.2 rfl)
def eU_ok{u:UV}(h:u.Ok):OkP (eU u).parts1/\(eU u).cl.length=129:=⟨h.parts_ok,by rw [SQ.cl,show(eU u).den.cells=catP u.parts from rfl,Array.length_toList,OkP.size h.parts_ok];rfl⟩
def u64N(z:Int):Nat:=(IntKind.u64.wrap z).toNat
def u64N_lt(z:Int):u64N z<18446744073709551616:=by unfold u64N;rw [u64_is];omega
def u64N_is(z:Int):IntKind.u64.wrap z=(u64N z:Int):=by unfold u64N;rw [u64_is];omega
def bodyH(v:Int)(k:zu):zu:=be8 (u64N v)++k
def bodyH_len{v:Int}{k:zu}(h:k.length=32):(bodyH v k).length=40:=by unfold bodyH;rw [aA,be8_len,h]
noncomputable def signB(u:UV):Bool:=decide (1<=u.ver/\u.ver<=64)&&rightB u.id u.sig (msg 1 (bodyH u.ver u.key))
noncomputable def mkH(seed:zu)(v:Int)(k:zu):UV:=⟨iC seed,v,k,kU seed (msg 1 (bodyH v k))⟩
def mkH_ok(seed:zu)(v:Int){k:zu}(h:k.length=32):(mkH seed v k).Ok:=⟨oY _,h,q7 _ _⟩
open Classical in
def right_made(seed:zu)(m:zu):rightB (iC seed) (kU seed m) m=true:=by unfold rightB;exact decide_eq_true (uG seed m)
def signB_made(seed:zu)(v:Int)(k:zu):signB (mkH seed v k)=decide (1<=v/\v<=64):=by unfold signB mkH;dsimp only;rw [right_made,Bool.and_true]
def updB(u:UV):zu:=u.id++(bodyH u.ver u.key++u.sig)
def batB(us:yx):zu:=be8 us.length++(us.map updB).flatten
def updB_len{u:UV}(h:u.Ok):(updB u).length=136:=by unfold updB;rw [aA,aA,bodyH_len h.key,h.id,h.sig]
theorem upds_len:∀{us:yx},(∀u∈us,u.Ok)->((us.map updB).flatten).length=136*us.length
 | [],_=>rfl
 | u::us,h=>by rw [bA,eG,aA,updB_len (h u aM),upds_len λx hx=>h x (aK _ hx),a6];omega
def batB_len{us:yx}(h:∀u∈us,u.Ok):(batB us).length=8+136*us.length:=by unfold batB;rw [aA,be8_len,upds_len h]
def upds_next{us:yx}{i:Nat}{u:UV}(h:us[i]?=some u):((us.take (i+1)).map updB).flatten=((us.take i).map updB).flatten++updB u:=by rw [dO,h];simp
def pad32(x:zu):zu:=x++aB (32-x.length) 0
def haO(s:Rds):zu:=pad32 (tkO 32 s)
def haS(s:Rds):Rds:=tkS 32 s
def haO_len(s:Rds):(haO s).length=32:=by have:=(tkO_le 32 s).1;simp [haO,pad32];omega
def ha_yes{s:Rds}(h:(haS s).2=0):s.2=0/\s.1=haO s++(haS s).1:=by
 obtain⟨h1,h2,h3⟩:=tk_yes h;refine⟨h1,?_⟩;have e:haO s=tkO 32 s:=by simp [haO,pad32,h2]
 rw [e];exact h3
def upV(s:Rds):Nat:=nuO (haS s)
def upO(s:Rds):UV:=⟨haO s,IntKind.i64.wrap (upV s:Int),haO (nuS (haS s)),sgO (haS (nuS (haS s)))⟩
def upS(s:Rds):Rds:=sigS (haS (nuS (haS s)))
def upO_ok(s:Rds):(upO s).Ok:=⟨haO_len _,haO_len _,sgO_len _⟩
def stU(s:Rds):Nat->Rds
  | 0=>s
  | i+1=>upS (stU s i)
def upS_stick{s:Rds}(h:s.2≠0):upS s=s:=by have h1:haS s=s:=(tk_stick h).2;have h2:nuS s=s:=(tk_stick h).2;have h3:sigS s=s:=(tk_stick h).2;unfold upS;rw [h1,h2,h1,h3]
theorem stU_stick{s:Rds}{i:Nat}(h:(stU s i).2≠0):∀d,stU s (i+d)=stU s i
 | 0=>rfl
 | d+1=>by have h1:=stU_stick h d;show upS (stU s (i+d))=_;rw [h1,upS_stick h]
def stU_ok{s:Rds}{n i:Nat}(h:(stU s n).2=0)(hi:i<=n):(stU s i).2=0:=by
 by_cases h1:(stU s i).2=0
 .exact h1
 .have h2:=stU_stick h1 (n-i);rw [show i+(n-i)=n by omega] at h2;rw [h2] at h;exact absurd h h1
def usI(s:Rds)(n:Nat):yx:=(dV n).map λi=>upO (stU s i)
def usI_len(s:Rds)(n:Nat):(usI s n).length=n:=by simp [usI]
def usI_next(s:Rds)(n:Nat):usI s (n+1)=usI s n++[upO (stU s n)]:=by unfold usI;rw [List.range_succ,bX];rfl
def mxI(s:Rds):zk
  | 0=>0
  | n+1=>max (mxI s n) (upV (stU s n))
def upV_lt(s:Rds):upV s<18446744073709551616:=nuO_lt _
def up_yes{s:Rds}(h:(upS s).2=0):s.2=0/\s.1=updB (upO s)++(upS s).1:=by obtain⟨h1,e1⟩:=sg_yes h;obtain⟨h2,e2⟩:=ha_yes h1;obtain⟨h3,e3⟩:=nu_yes h2;obtain⟨h4,e4⟩:=ha_yes h3;refine⟨h4,?_⟩;unfold updB bodyH u64N upO;dsimp only;rw [wrap_back (upV_lt s),aT,aT,aT];show _=haO s++(be8 (nuO (haS s))++(haO (nuS (haS s))++(sgO (haS (nuS (haS s)))++(sigS (haS (nuS (haS s)))).1)));rw [<-e1,<-e2,<-e3];exact e4
theorem stU_yes{s:Rds}{n:Nat}(h:(stU s n).2=0):s.1=((usI s n).map updB).flatten++(stU s n).1:=by
 induction n with
 | zero=>rfl
 | succ n ih =>
  have h2:=ih (stU_ok h (Nat.le_succ n));obtain⟨_,g2⟩:=up_yes (s:=stU s n) h;rw [usI_next,bX,List.flatten_append];simp only [bA,List.map_nil,eG,List.flatten_nil,bC];rw [aT]
  show s.1=_++(updB (upO (stU s n))++(upS (stU s n)).1)
  rw [<-g2];exact h2
def hpS(l:zu):Rds:=moS 65536 (l,0)
def hpN(l:zu):Nat:=moO 65536 (l,0)
def hpR(l:zu):Rds:=stU (hpS l) (hpN l)
def hpE(l:zu):Nat:=if endE (hpR l)=0 then(if 64<mxI (hpS l) (hpN l) then 13 else 0) else endE (hpR l)
def hpU(l:zu):yx:=if hpE l=0 then usI (hpS l) (hpN l) else []
def hpE_ok{l:zu}(h:hpE l=0):endE (hpR l)=0/\mxI (hpS l) (hpN l)<=64:=by
 unfold hpE at h;split at h
 .rename_i h1
  refine⟨h1,?_⟩;split at h
  .cases h
  .omega
 .exact absurd h (by assumption)
def backH{l:zu}(h:hpE l=0):batB (hpU l)=l:=by obtain⟨h1,_⟩:=hpE_ok h;obtain⟨h2,h3⟩:=end_ok h1;have h4:=stU_yes (s:=hpS l) (n:=hpN l) h2;have h5:(hpS l).2=0:=stU_ok (i:=0) h2 (aL _);obtain⟨_,_,_,h7⟩:=mo_yes h5;unfold hpU batB;rw [if_pos h,usI_len];have h8:(stU (hpS l) (hpN l)).1=[]:=h3;rw [h8,bC] at h4;rw [<-h4];exact h7.symm
def hpR_stop{l:zu}{k:Nat}(hk:k<=hpN l)(h:(stU (hpS l) k).2≠0\/k=hpN l):endE (stU (hpS l) k)=endE (hpR l)/\(endE (hpR l)=0->k=hpN l):=by
 rcases h with h|h
 .have h1:=stU_stick h (hpN l-k);rw [show k+(hpN l-k)=hpN l by omega] at h1;have h2:hpR l=stU (hpS l) k:=h1;rw [h2];refine⟨rfl,λh3=>?_⟩;exact absurd (end_ok h3).1 h
 .subst h;exact⟨rfl,λ_=>rfl⟩
end Go.Proofs.Q
namespace Nums
def cL(k:zu)(n:Nat):Nat:=(k[n/8]!).toNat/2^(7-n%8)%2
def dG:zu->zu->Bool
  | a::az,b::bs=>if a=b then dG az bs else decide (a.toNat<b.toNat)
  | _,_=>false
abbrev PairT:=zu×zu
abbrev za:=List PairT
def dQ:za->PairT->za
  | [],p=>[p]
  | q::r,p=>if dG q.1 p.1 then q::dQ r p else if q.1=p.1 then p::r else p::q::r
def nV(l:za)(k:zu):Option zu:=(l.find? λq=>q.1==k).map (·.2)
def eC:zu:=aB 32 0
def jX(p:PairT):zu:=dJ dK (0::(p.1++p.2))
def gN(a b:zu):zu:=dJ dK (1::(a++b))
def fS:Nat->za->zu
  | _,[]=>eC
  | _,[p]=>jX p
  | 0,_::_::_=>eC
  | r+1,p::q::l=>gN (fS r ((p::q::l).filter λx=>cL x.1 (255-r)==0)) (fS r ((p::q::l).filter λx=>cL x.1 (255-r) != 0))
theorem cY:∀a:zu,dG a a=false
 | []=>rfl
 | a::az=>by unfold dG;rw [if_pos rfl];exact cY az
theorem gT:∀{a b c:zu},dG a b=true->dG b c=true->dG a c=true
 | [],_,_,h,_=>by cases ‹zu› <;> cases h
 | _::_,[],_,h,_=>by cases h
 | _::_,_::_,[],_,h=>by cases h
 | a::az,b::bs,c::cs,h,k=>by
  unfold dG at h k ⊢;by_cases e1:a=b
  .subst e1
   rw [if_pos rfl] at h;by_cases e2:a=c
   .rw [if_pos e2] at k ⊢;exact gT h k
   .rw [if_neg e2] at k ⊢;exact k
  .rw [if_neg e1] at h
   have h:=of_decide_eq_true h;by_cases e2:b=c
   .subst e2;rw [if_neg e1];exact decide_eq_true h
   .rw [if_neg e2] at k
    have k:=of_decide_eq_true k;have e3:a≠c:=λe=>by subst e;omega
    rw [if_neg e3];exact decide_eq_true (by omega)
theorem gU:∀{a b:zu},a.length=b.length->dG a b=false->a≠b->dG b a=true
 | [],[],_,_,h=>absurd rfl h
 | [],_::_,h,_,_=>by cases h
 | _::_,[],h,_,_=>by cases h
 | a::az,b::bs,hl,h,hn=>by
  unfold dG at h ⊢;by_cases e:a=b
  .subst e;rw [if_pos rfl] at h ⊢;exact gU (by simpa using hl) h λe=>hn (by rw [e])
  .rw [if_neg e] at h;rw [if_neg λx=>e x.symm];have h:=of_decide_eq_false h;have:a.toNat≠b.toNat:=λx=>e (rE.1 x);exact decide_eq_true (by omega)
theorem pD{a b:zu}(h:dG a b=true):dG b a=false:=by
 cases hb:dG b a with
 | false=>rfl
 | true=>have:=gT h hb;rw [cY] at this;cases this
def SortT(l:za):Prop:=l.Pairwise λp q=>dG p.1 q.1=true
def gX(l:za):Prop:=∀p∈l,p.1.length=32
def SortT.cons{p:PairT}{l:za}:SortT (p::l)↔(∀q∈l,dG p.1 q.1=true)/\SortT l:=cH
def SortT.filter{l:za}(h:SortT l)(f:PairT->Bool):SortT (l.filter f):=List.Pairwise.filter f h
def gX.filter{l:za}(h:gX l)(f:PairT->Bool):gX (l.filter f):=λp hp=>h p (List.mem_filter.1 hp).1
theorem SortT.ext:∀{l m:za},SortT l->SortT m->(∀p,p∈l↔p∈m)->l=m
 | [],[],_,_,_=>rfl
 | [],q::m,_,_,h=>absurd ((h q).2 aM) (by simp)
 | p::l,[],_,_,h=>absurd ((h p).1 aM) (by simp)
 | p::l,q::m,hl,hm,h=>by
  obtain⟨h1,h2⟩:=SortT.cons.1 hl;obtain⟨k1,k2⟩:=SortT.cons.1 hm;have e:p=q:=by
   rcases aH.1 ((h p).1 aM) with e|hp
   .exact e
   .rcases aH.1 ((h q).2 aM) with e|hq
    .exact e.symm
    .have a:=h1 q hq;rw [pD (k1 p hp)] at a;cases a
  subst e;refine congrArg (p :: ·) (SortT.ext h2 k2 λx=>⟨λhx=>?_,λhx=>?_⟩)
  .rcases aH.1 ((h x).1 (aK _ hx)) with e|hx2
   .subst e;have a:=h1 x hx;rw [cY] at a;cases a
   .exact hx2
  .rcases aH.1 ((h x).2 (aK _ hx)) with e|hx2
   .subst e;have a:=k1 x hx;rw [cY] at a;cases a
   .exact hx2
theorem SortT.key{l:za}(h:SortT l){p q:PairT}(hp:p∈l)(hq:q∈l)(e:p.1=q.1):p=q:=by
 induction l with
 | nil=>cases hp
 | cons x l ih =>
  obtain⟨h1,h2⟩:=SortT.cons.1 h
  rcases aH.1 hp with e1|hp2<;>rcases aH.1 hq with e2|hq2
  .rw [e1,e2]
  .have:=h1 q hq2;rw [<-e1,<-e,cY] at this;cases this
  .have:=h1 p hp2;rw [<-e2,e,cY] at this;cases this
  .exact ih h2 hp2 hq2
theorem lQ:∀{l:za} {p:PairT},SortT l->gX l->p.1.length=32->∀x,x∈dQ l p↔x=p\/(x∈l/\x.1≠p.1)
 | [],p,_,_,_,x=>by simp [dQ]
 | q::l,p,hs,hk,hp,x=>by
  obtain⟨h1,h2⟩:=SortT.cons.1 hs;have hq:q.1.length=32:=hk q aM;have hkl:gX l:=λy hy=>hk y (aK _ hy);unfold dQ;by_cases h:dG q.1 p.1=true
  .rw [if_pos h,aH,lQ h2 hkl hp x,aH]
   have hne:q.1≠p.1:=λe=>by rw [e,cY] at h;cases h
   constructor
   .rintro(rfl|rfl|⟨a,b⟩)
    .exact .inr ⟨.inl rfl,hne⟩
    .exact .inl rfl
    .exact .inr ⟨.inr a,b⟩
   .rintro(rfl|⟨rfl|a,b⟩)
    .exact .inr (.inl rfl)
    .exact .inl rfl
    .exact .inr (.inr ⟨a,b⟩)
  .rw [if_neg h]
   by_cases e:q.1=p.1
   .rw [if_pos e,aH,aH]
    constructor
    .rintro(rfl|a)
     .exact .inl rfl
     .exact .inr ⟨.inr a,λe2=>by have:=h1 x a;rw [e,e2,cY] at this;cases this⟩
    .rintro(rfl|⟨rfl|a,b⟩)
     .exact .inl rfl
     .exact absurd e b
     .exact .inr a
   .rw [if_neg e,aH,aH]
    have hgt:=gU (by rw [hq,hp]) (by simpa using h) e;constructor
    .rintro(rfl|rfl|a)
     .exact .inl rfl
     .exact .inr ⟨.inl rfl,e⟩
     .exact .inr ⟨.inr a,λe2=>by have:=gT hgt (h1 x a);rw [e2,cY] at this;cases this⟩
    .rintro(rfl|⟨rfl|a,b⟩)
     .exact .inl rfl
     .exact .inr (.inl rfl)
     .exact .inr (.inr a)
theorem lP:∀{l:za} {p:PairT},SortT l->gX l->p.1.length=32->SortT (dQ l p)
 | [],p,_,_,_=>by simp [dQ,SortT]
 | q::l,p,hs,hk,hp=>by
  obtain⟨h1,h2⟩:=SortT.cons.1 hs;have hq:q.1.length=32:=hk q aM;have hkl:gX l:=λy hy=>hk y (aK _ hy);unfold dQ;by_cases h:dG q.1 p.1=true
  .rw [if_pos h]
   refine SortT.cons.2 ⟨λx hx=>?_,lP h2 hkl hp⟩;rcases(lQ h2 hkl hp x).1 hx with rfl|hx
   .exact h
   .exact h1 x hx.1
  .rw [if_neg h]
   by_cases e:q.1=p.1
   .rw [if_pos e];exact SortT.cons.2 ⟨λx hx=>by rw [<-e];exact h1 x hx,h2⟩
   .rw [if_neg e]
    have hgt:=gU (by rw [hq,hp]) (by simpa using h) e;refine SortT.cons.2 ⟨λx hx=>?_,hs⟩;rcases aH.1 hx with rfl|hx
    .exact hgt
    .exact gT hgt (h1 x hx)
def nF{l:za}{k v:zu}(hs:SortT l):nV l k=some v↔(k,v)∈l:=by
 unfold nV;constructor
 .intro h
  cases hf:l.find? (λq=>q.1==k) with
  | none=>rw [hf] at h;cases h
  | some q =>
   rw [hf] at h;simp only [Option.map_some,a8] at h;have h1:=List.find?_some hf;have h2:=mE hf
   have e:q.1=k:=by simpa using h1
   subst e;subst h;exact h2
 .intro h
  cases hf:l.find? (λq=>q.1==k) with
  | none =>
   have:=lZ.1 hf (k,v) h
   simp at this
  | some q =>
   have h1:=List.find?_some hf;have h2:=mE hf
   have e:q.1=k:=by simpa using h1
   have:=hs.key h2 h e;subst this
   rfl
def nG{l:za}{k:zu}:nV l k=none↔∀q∈l,q.1≠k:=by unfold nV;rw [Option.map_eq_none_iff,lZ];simp
def gE(k:zu)(n:Nat):cL k n<2:=cI _ (by decide)
def rD(a b:Nat)(ha:a<256)(hb:b<256)(h:∀j,j<8->a/2^(7-j)%2=b/2^(7-j)%2):a=b:=by have h0:=h 0 (by decide);have h1:=h 1 (by decide);have h2:=h 2 (by decide);have h3:=h 3 (by decide);have h4:=h 4 (by decide);have h5:=h 5 (by decide);have h6:=h 6 (by decide);have h7:=h 7 (by decide);simp only [gC,cN] at h0 h1 h2 h3 h4 h5 h6 h7;omega
def uO(a b j:Nat)(ha:a<256)(hb:b<256)(hj:j<8)(h:∀i,i<j->a/2^(7-i)%2=b/2^(7-i)%2)(h0:a/2^(7-j)%2=0)(h1:b/2^(7-j)%2≠0):a<b:=by
 have hj8:j=0\/j=1\/j=2\/j=3\/j=4\/j=5\/j=6\/j=7:=by omega
 rcases hj8 with rfl|rfl|rfl|rfl|rfl|rfl|rfl|rfl
 .simp only [gC,cN] at h0 h1;omega
 .have e0:=h 0 (by decide);simp only [gC,cN] at h0 h1 e0;omega
 .have e0:=h 0 (by decide);have e1:=h 1 (by decide);simp only [gC,cN] at h0 h1 e0 e1;omega
 .have e0:=h 0 (by decide);have e1:=h 1 (by decide);have e2:=h 2 (by decide);simp only [gC,cN] at h0 h1 e0 e1 e2;omega
 .have e0:=h 0 (by decide);have e1:=h 1 (by decide);have e2:=h 2 (by decide);have e3:=h 3 (by decide);simp only [gC,cN] at h0 h1 e0 e1 e2 e3;omega
 .have e0:=h 0 (by decide);have e1:=h 1 (by decide);have e2:=h 2 (by decide);have e3:=h 3 (by decide);have e4:=h 4 (by decide);simp only [gC,cN] at h0 h1 e0 e1 e2 e3 e4;omega
 .have e0:=h 0 (by decide);have e1:=h 1 (by decide);have e2:=h 2 (by decide);have e3:=h 3 (by decide);have e4:=h 4 (by decide);have e5:=h 5 (by decide);simp only [gC,cN] at h0 h1 e0 e1 e2 e3 e4 e5;omega
 .have e0:=h 0 (by decide);have e1:=h 1 (by decide);have e2:=h 2 (by decide);have e3:=h 3 (by decide);have e4:=h 4 (by decide);have e5:=h 5 (by decide);have e6:=h 6 (by decide);simp only [gC,cN] at h0 h1 e0 e1 e2 e3 e4 e5 e6;omega
def kQ(k:zu)(i j:Nat)(hj:j<8):cL k (8*i+j)=(k[i]!).toNat/2^(7-j)%2:=by unfold cL;rw [show(8*i+j)/8=i by omega,show(8*i+j)%8=j by omega]
def mA(d:Nat)(a b:zu):Prop:=∀n,n<d->cL a n=cL b n
def mA.all{a b:zu}(ha:a.length=32)(hb:b.length=32)(h:mA 256 a b):a=b:=by
 apply c8 (by rw [ha,hb]);intro i h1 h2;have e:=rD (a[i]!).toNat (b[i]!).toNat (cV _) (cV _) λj hj=>by rw [<-kQ a i j hj,<-kQ b i j hj];exact h _ (by omega)
 have e:=rE.1 e;rw [getElem!_pos a i h1,getElem!_pos b i h2] at e;exact e
theorem sJ:∀(i:Nat) {a b:zu},i<a.length->i<b.length->(∀j,j<i->a[j]! = b[j]!)->(a[i]!).toNat<(b[i]!).toNat->dG a b=true
 | _,[],_,h,_,_,_=>by cases h
 | _,_::_,[],_,h,_,_=>by cases h
 | 0,a::az,b::bs,_,_,_,h=>by have h:a.toNat<b.toNat:=h;unfold dG;rw [if_neg λe=>by subst e;omega];exact decide_eq_true h
 | i+1,a::az,b::bs,ha,hb,he,h=>by have e0:a=b:=he 0 (by omega);unfold dG;rw [if_pos e0];exact sJ i (by simpa using ha) (by simpa using hb) (λj hj=>he (j+1) (by omega)) h
def mA.less{d:Nat}{a b:zu}(hd:d<256)(ha:a.length=32)(hb:b.length=32)(h:mA d a b)(h0:cL a d=0)(h1:cL b d≠0):dG a b=true:=by
 refine sJ (d/8) (by omega) (by omega) (λi hi=>?_) ?_
 .refine rE.1 (rD _ _ (cV _) (cV _) λj hj=>?_);rw [<-kQ a i j hj,<-kQ b i j hj];exact h _ (by omega)
 .refine uO _ _ (d%8) (cV _) (cV _) (by omega) (λj hj=>?_) h0 h1;rw [<-kQ a (d/8) j (by omega),<-kQ b (d/8) j (by omega)];exact h _ (by omega)
def dY(d:Nat)(l:za):Prop:=∀p∈l,∀q∈l,mA d p.1 q.1
def cJ(d:Nat)(l:za):za:=l.filter λx=>cL x.1 d==0
def bU(d:Nat)(l:za):za:=l.filter λx=>cL x.1 d != 0
def fZ{d:Nat}{l:za}{x:PairT}:x∈cJ d l↔x∈l/\cL x.1 d=0:=by simp [cJ]
def fG{d:Nat}{l:za}{x:PairT}:x∈bU d l↔x∈l/\cL x.1 d≠0:=by simp [bU]
def dY.left{d:Nat}{l:za}(h:dY d l):dY (d+1) (cJ d l):=λp hp q hq n hn=>by
 obtain⟨hp,bp⟩:=fZ.1 hp;obtain⟨hq,bq⟩:=fZ.1 hq;by_cases e:n=d
 .subst e;rw [bp,bq]
 .exact h p hp q hq n (by omega)
def dY.right{d:Nat}{l:za}(h:dY d l):dY (d+1) (bU d l):=λp hp q hq n hn=>by
 obtain⟨hp,bp⟩:=fG.1 hp;obtain⟨hq,bq⟩:=fG.1 hq;by_cases e:n=d
 .subst e;have:=gE p.1 n;have:=gE q.1 n;omega
 .exact h p hp q hq n (by omega)
def uE{d:Nat}{l:za}(hd:d<256)(hs:SortT l)(hk:gX l)(h:dY d l):cJ d l++bU d l=l:=by
 refine SortT.ext (List.pairwise_append.2 ⟨hs.filter _,hs.filter _,λp hp q hq=>?_⟩) hs λx=>?_
 .obtain⟨hp,bp⟩:=fZ.1 hp;obtain⟨hq,bq⟩:=fG.1 hq;exact(h p hp q hq).less hd (hk p hp) (hk q hq) bp bq
 .rw [bK,fZ,fG]
  constructor
  .rintro(h|h)<;>exact h.1
  .intro hx
   by_cases e:cL x.1 d=0
   .exact .inl ⟨hx,e⟩
   .exact .inr ⟨hx,e⟩
theorem dY.one{l:za}(hs:SortT l)(hk:gX l)(h:dY 256 l):l.length<=1:=by
 match l,hs,hk,h with
 | [],_,_,_=>decide
 | [_],_,_,_=>exact aF _
 | p::q::l,hs,hk,h =>
  have e:=(h p (by simp) q (by simp)).all (hk p (by simp)) (hk q (by simp));have:=(SortT.cons.1 hs).1 q (by simp);rw [e,cY] at this
  cases this
def kO{d:Nat}{l:za}{p:PairT}(hs:SortT l)(hk:gX l)(hp:p.1.length=32):cJ d (dQ l p)=if cL p.1 d=0 then dQ (cJ d l) p else cJ d l:=by
 refine SortT.ext ((lP hs hk hp).filter _) (by split;exact lP (hs.filter _) (hk.filter _) hp;exact hs.filter _) λx=>?_;rw [fZ,lQ hs hk hp];split
 .rename_i e
  rw [lQ (l:=cJ d l) (hs.filter _) (hk.filter _) hp,fZ];constructor
  .rintro⟨rfl|⟨a,b⟩,c⟩
   .exact .inl rfl
   .exact .inr ⟨⟨a,c⟩,b⟩
  .rintro(rfl|⟨⟨a,c⟩,b⟩)
   .exact⟨.inl rfl,e⟩
   .exact⟨.inr ⟨a,b⟩,c⟩
 .rename_i e
  rw [fZ];constructor
  .rintro⟨rfl|⟨a,b⟩,c⟩
   .exact absurd c e
   .exact⟨a,c⟩
  .rintro⟨a,c⟩;exact⟨.inr ⟨a,λe2=>e (by rw [<-e2];exact c)⟩,c⟩
def jN{d:Nat}{l:za}{p:PairT}(hs:SortT l)(hk:gX l)(hp:p.1.length=32):bU d (dQ l p)=if cL p.1 d=0 then bU d l else dQ (bU d l) p:=by
 refine SortT.ext ((lP hs hk hp).filter _) (by split;exact hs.filter _;exact lP (hs.filter _) (hk.filter _) hp) λx=>?_;rw [fG,lQ hs hk hp];split
 .rename_i e
  rw [fG];constructor
  .rintro⟨rfl|⟨a,b⟩,c⟩
   .exact absurd e c
   .exact⟨a,c⟩
  .rintro⟨a,c⟩;exact⟨.inr ⟨a,λe2=>c (by rw [e2];exact e)⟩,c⟩
 .rename_i e
  rw [lQ (l:=bU d l) (hs.filter _) (hk.filter _) hp,fG];constructor
  .rintro⟨rfl|⟨a,b⟩,c⟩
   .exact .inl rfl
   .exact .inr ⟨⟨a,c⟩,b⟩
  .rintro(rfl|⟨⟨a,c⟩,b⟩)
   .exact⟨.inl rfl,e⟩
   .exact⟨.inr ⟨a,b⟩,c⟩
theorem nR{r:Nat}{l:za}(h:2<=l.length):fS (r+1) l=gN (fS r (cJ (255-r) l)) (fS r (bU (255-r) l)):=by
 match l,h with
 | p::q::l,_=>rfl
def o5(r:Nat):fS r []=eC:=by cases r<;>rfl
def nC(r:Nat)(p:PairT):fS r [p]=jX p:=by cases r<;>rfl
end Nums
namespace Nums
abbrev EntD:=zu×zy
abbrev zc:=List EntD
def bO(l:zc)(id:zu):zy:=match l.find? λe=>e.1==id with
  | some e=>e.2
  | none=>[]
def j7:zc->zu->zy->zc
  | [],id,ks=>[(id,ks)]
  | e::l,id,ks=>if dG e.1 id then e::j7 l id ks else if e.1=id then(id,ks)::l else(id,ks)::e::l
structure UD where
  id:zu
  version:Int
  key:zu
  signed:Bool
def okD(l:zc)(u:UD):Bool:=u.signed&&decide (u.version=(bO l u.id).length+1)
def fR(l:zc)(u:UD):zc:=if okD l u=true then j7 l u.id (bO l u.id++[u.key]) else l
def cM(l:zc)(us:List UD):zc:=us.foldl fR l
structure DirOk(l:zc):Prop where
  sort:l.Pairwise λa b=>dG a.1 b.1=true
  ids:∀e∈l,e.1.length=32
  some:∀e∈l,e.2≠[]
  keys:∀e∈l,∀k∈e.2,k.length=32
def DirOk.nil:DirOk []:=⟨pJ,by simp,by simp,by simp⟩
def DirOk.tail{e:EntD}{l:zc}(h:DirOk (e::l)):DirOk l:=⟨(cH.1 h.sort).2,λx hx=>h.ids x (.tail _ hx),λx hx=>h.some x (.tail _ hx),λx hx=>h.keys x (.tail _ hx)⟩
theorem lR:∀{l:zc} {id:zu} {ks:zy} {x:EntD},x∈j7 l id ks->x=(id,ks)\/x∈l
 | [],id,ks,x,h=>.inl (aD.1 h)
 | e::l,id,ks,x,h=>by
  unfold j7 at h;split at h
  .rcases aH.1 h with h|h
   .exact .inr (h ▸ .head _)
   .exact(lR h).imp_right (.tail _)
  .split at h
   .rcases aH.1 h with h|h
    .exact .inl h
    .exact .inr (.tail _ h)
   .exact(aH.1 h)
theorem q8:∀{l:zc} {id:zu} {ks:zy},DirOk l->id.length=32->(j7 l id ks).Pairwise λa b=>dG a.1 b.1=true
 | [],_,_,_,_=>List.pairwise_singleton _ _
 | e::l,id,ks,h,hi=>by
  have h1:=cH.1 h.sort;unfold j7;split
  .rename_i hlt
   refine cH.2 ⟨λx hx=>?_,q8 h.tail hi⟩;rcases lR hx with rfl|hx
   .exact hlt
   .exact h1.1 x hx
  .rename_i hlt
   split
   .rename_i he;exact cH.2 ⟨λx hx=>he▸h1.1 x hx,h1.2⟩
   .rename_i he
    have h2:dG id e.1=true:=gU (by rw [hi,h.ids e (.head _)]) (by simpa using hlt) he;refine cH.2 ⟨λx hx=>?_,h.sort⟩;rcases aH.1 hx with rfl|hx
    .exact h2
    .exact gT h2 (h1.1 x hx)
def DirOk.put{l:zc}{id:zu}{ks:zy}(h:DirOk l)(hi:id.length=32)(hk:ks≠[])(h32:∀k∈ks,k.length=32):DirOk (j7 l id ks):=⟨q8 h hi,λx hx=>by
 rcases lR hx with rfl|hx
 .exact hi
 .exact h.ids x hx,λx hx=>by
 rcases lR hx with rfl|hx
 .exact hk
 .exact h.some x hx,λx hx=>by
 rcases lR hx with rfl|hx
 .exact h32
 .exact h.keys x hx⟩
def dL(e:EntD)(l:zc)(id:zu):bO (e::l) id=if e.1=id then e.2 else bO l id:=by
 unfold bO;rw [List.find?_cons];by_cases h:e.1=id
 .simp [h]
 .have:(e.1==id)=false:=by simpa using h
  simp [this,h]
def qB{l:zc}{id:zu}(h:∀e∈l,dG id e.1=true):bO l id=[]:=by
 unfold bO;have:(l.find? λe=>e.1==id)=none:=lZ.2 λe he h2=>by
  have h3:e.1=id:=by simpa using h2
  have h4:=h e he;rw [h3,cY] at h4;cases h4
 rw [this]
theorem jP:∀{l:zc} {id:zu} {ks:zy},∀x,bO (j7 l id ks) x=if x=id then ks else bO l x
 | [],id,ks,x=>by
  show bO [(id,ks)] x=_;rw [dL];by_cases h:x=id
  .simp [h]
  .rw [if_neg (λh2=>h h2.symm),if_neg h]
 | e::l,id,ks,x=>by
  unfold j7;split
  .rename_i hlt
   have he:e.1≠id:=λh=>by rw [h,cY] at hlt;cases hlt
   rw [dL,dL,jP x];by_cases hx:x=id
   .subst hx;rw [if_neg he,if_pos rfl,if_pos rfl]
   .rw [if_neg hx,if_neg hx]
  .split
   .rename_i he
    rw [dL,dL];by_cases hx:x=id
    .simp [hx]
    .rw [if_neg (λh2=>hx h2.symm),if_neg hx,if_neg (λh2=>hx (h2.symm.trans he))]
   .rw [dL]
    by_cases hx:x=id
    .simp [hx]
    .rw [if_neg (λh2=>hx h2.symm),if_neg hx]
theorem DirOk.ext:∀{l m:zc},DirOk l->DirOk m->(∀x,bO l x=bO m x)->l=m
 | [],[],_,_,_=>rfl
 | [],e::m,_,hm,h=>by have h1:=h e.1;rw [dL,if_pos rfl] at h1;exact absurd h1.symm (hm.some e (.head _))
 | e::l,[],hl,_,h=>by have h1:=h e.1;rw [dL,if_pos rfl] at h1;exact absurd h1 (hl.some e (.head _))
 | e::l,f::m,hl,hm,h=>by
  have sl:=cH.1 hl.sort;have sm:=cH.1 hm.sort;have key:∀{a b:EntD} {p q:zc},DirOk (a::p)->DirOk (b::q)->(∀x,bO (a::p) x=bO (b::q) x)->dG a.1 b.1=true->False:=λ{a b p q} ha hb hx hlt=>by
   have h1:=hx a.1;rw [dL,if_pos rfl,qB (l:=b::q) (λy hy=>by
    rcases aH.1 hy with rfl|hy
    .exact hlt
    .exact gT hlt ((cH.1 hb.sort).1 y hy))] at h1
   exact ha.some a (.head _) h1
  have he:e.1=f.1:=by
   by_cases h1:e.1=f.1
   .exact h1
   .cases h2:dG e.1 f.1 with
    | true=>exact(key hl hm h h2).elim
    | false=>exact(key hm hl (λx=>(h x).symm) (gU (by rw [hl.ids e (.head _),hm.ids f (.head _)]) h2 h1)).elim
  have h2:e.2=f.2:=by
   have h1:=h e.1
   rwa [dL,if_pos rfl,dL,if_pos he.symm] at h1
  have h3:e=f:=Prod.ext he h2;subst h3;refine congrArg _ (DirOk.ext hl.tail hm.tail λx=>?_);by_cases hx:e.1=x
  .subst hx;rw [qB sl.1,qB sm.1]
  .have h1:=h x
   rwa [dL,dL,if_neg hx,if_neg hx] at h1
def qC{l:zc}(h:DirOk l)(id:zu):∀k∈bO l id,k.length=32:=by
 unfold bO;split
 .rename_i e he;exact h.keys e (mE he)
 .exact λk hk=>by cases hk
def DirOk.step{l:zc}{u:UD}(h:DirOk l)(hi:u.id.length=32)(hk:u.key.length=32):DirOk (fR l u):=by
 unfold fR;split
 .exact h.put hi (by simp) λk hk2=>by
   rcases bK.1 hk2 with h2|h2
   .exact qC h _ k h2
   .rw [aD.1 h2];exact hk
 .exact h
def qA(l:zc)(u:UD)(x:zu):bO (fR l u) x=if okD l u=true/\x=u.id then bO l u.id++[u.key] else bO l x:=by
 unfold fR;by_cases h:okD l u=true
 .rw [if_pos h,jP];simp [h]
 .rw [if_neg h,if_neg (λh2=>h h2.1)]
structure wO(us:List UD):Prop where
  ids:∀u∈us,u.id.length=32
  keys:∀u∈us,u.key.length=32
def wO.tail{u:UD}{us:List UD}(h:wO (u::us)):wO us:=⟨λx hx=>h.ids x (.tail _ hx),λx hx=>h.keys x (.tail _ hx)⟩
theorem DirOk.apply:∀{us:List UD} {l:zc},DirOk l->wO us->DirOk (cM l us)
 | [],_,h,_=>h
 | u::us,l,h,hu=>DirOk.apply (us:=us) (l:=fR l u) (h.step (hu.ids u (.head _)) (hu.keys u (.head _))) hu.tail
def tF(l:zc)(us vs:List UD):cM l (us++vs)=cM (cM l us) vs:=List.foldl_append
def oJ{a b:zu}(h:dG a b=true):b≠a:=λe=>by rw [e,cY] at h;cases h
def iP(z:zc)(es:zc):zc:=es.foldl (λz e=>if e.2=[] then z else j7 z e.1 e.2) z
theorem DirOk.build:∀{es:zc} {z:zc},DirOk z->(∀e∈es,e.1.length=32)->(∀e∈es,∀k∈e.2,k.length=32)->DirOk (iP z es)
 | [],_,h,_,_=>h
 | e::es,z,h,h1,h2=>by
  show DirOk (iP (if e.2=[] then z else j7 z e.1 e.2) es);refine DirOk.build ?_ (λx hx=>h1 x (.tail _ hx)) λx hx=>h2 x (.tail _ hx);split
  .exact h
  .rename_i hn;exact h.put (h1 e (.head _)) hn (h2 e (.head _))
def o8{l:zc}{x:zu}(h:∀e∈l,e.1≠x):bO l x=[]:=by unfold bO;rw [lZ.2 λe he h2=>h e he (by simpa using h2)]
theorem mX:∀{l:zc} {e:EntD},l.Pairwise (λa b=>a.1≠b.1)->e∈l->bO l e.1=e.2
 | [],_,_,h=>by cases h
 | a::l,e,hp,h=>by
  have h1:=cH.1 hp;rw [dL];rcases aH.1 h with rfl|h
  .rw [if_pos rfl]
  .rw [if_neg (h1.1 e h),mX h1.2 h]
theorem mY:∀{es:zc},es.Pairwise (λa b=>a.1≠b.1)->∀(z:zc) (x:zu),bO (iP z es) x=if bO es x=[] then bO z x else bO es x
 | [],_,_,_=>rfl
 | e::es,hp,z,x=>by
  have h1:=cH.1 hp;show bO (iP (if e.2=[] then z else j7 z e.1 e.2) es) x=_;rw [mY h1.2,dL];by_cases hx:e.1=x
  .subst hx
   rw [if_pos rfl,if_pos (o8 λy hy=>(h1.1 y hy).symm)];by_cases hn:e.2=[]
   .rw [if_pos hn,if_pos hn]
   .rw [if_neg hn,if_neg hn,jP,if_pos rfl]
  .rw [if_neg hx]
   by_cases hn:e.2=[]
   .rw [if_pos hn]
   .have e2:(if x=e.1 then e.2 else bO z x)=bO z x:=if_neg λh=>hx h.symm;rw [if_neg hn,jP,e2]
end Nums
namespace Go.Proofs.Q
open Nums
def pairD(e:EntD):PairT:=(e.1,valH e.2)
def pairsD(l:zc):za:=l.map pairD
theorem pairsD_put:∀(l:zc) (id:zu) (ks:zy),pairsD (j7 l id ks)=dQ (pairsD l) (id,valH ks)
 | [],_,_=>rfl
 | e::l,id,ks=>by
  show pairsD (if dG e.1 id then e::j7 l id ks else if e.1=id then(id,ks)::l else(id,ks)::e::l)=if dG e.1 id then pairD e::dQ (pairsD l) (id,valH ks) else if e.1=id then(id,valH ks)::pairsD l else(id,valH ks)::pairD e::pairsD l;rw [<-pairsD_put l id ks];split
  .rfl
  .split<;>rfl
def DirOk.pairs{l:zc}(h:DirOk l):SortT (pairsD l)/\gX (pairsD l):=⟨List.pairwise_map.2 h.sort,λp hp=>by obtain⟨e,he,rfl⟩:=aZ.1 hp;exact h.ids e he⟩
theorem getT_pairs:∀{l:zc},DirOk l->∀id,nV (pairsD l) id=if bO l id=[] then none else some (valH (bO l id))
 | [],_,_=>rfl
 | e::l,h,id=>by
  have ih:=getT_pairs h.tail id;rw [dL];show((pairD e::pairsD l).find? λq=>q.1==id).map (·.2)=_;rw [List.find?_cons];by_cases c:e.1=id
  .have:((pairD e).1==id)=true:=by simpa [pairD] using c
   rw [this,if_pos c,if_neg (h.some e (.head _))];rfl
  .have:((pairD e).1==id)=false:=by simpa [pairD] using c
   rw [this,if_neg c];exact ih
end Go.Proofs.Q
namespace Go.Proofs.Q
open Go.RowKit Go.IntWalk
section
variable{T:yw}{b:Base}{ops:zp}{Q:zx}{N:Nat}{G:zk}{S:zm}{E:SE}{L:ze}{R:zd}{F M:zv}{w0:yp}{T':zo}{Fa:Told}{i k:Nat}{o:yk}{rest:List (Nat×yk)}
def h_alloc{ty:TypeId}(zs:zr)(hg:o.guard=none)(hd:o.dst=some k)(hk:aU k N=true)(hf:farP i Fa=true)(ho:o.op = .alloc ty)(hz:(prog.info? ty).bind (λi=>i.zero.map (·.cells))=some zs)
 (hn:∀g,hS prog ops Q N T' G w0 rest ((k,.v (.pointer (some ⟨g,0,none⟩)))::E) ((i,λw=>w0.heap.size<=g/\Blk w g ty zs)::Fa)):hS prog ops Q N T' G w0 ((i,o)::rest) E Fa:=λhE =>
 g_alloc zs w0.heap.size hg hd hk hf ho hz (λ_ h=>h.size) (λ_ _ _ h hb=>⟨h.1,h.2.later hb⟩) λg _ _ _ _=>hn g (hE.cons (v:=.v (.pointer (some ⟨g,0,none⟩))) trivial)
def h_endV(hst:StW b G S L R F M w0){g:Nat}{ty:TypeId}{ps:zb}(k i:Nat)(E':SE)(hi:lookP Fa i=some (λw=>w0.heap.size<=g/\Blk w g ty (catP ps)))(hk:lookS E k=some (.v (.pointer (some ⟨g,0,none⟩))))(hE':SubS E' E)(hfE:farE k E'=true)(hfL:farL k L=true)(hok:OkP ps)
 (h:lS prog b ops Q N T' ⟨(k,.a k 0)::E',⟨k,none,ty,ps⟩::L,R,F,M⟩):hS prog ops Q N T' G w0 [] E Fa:=λhE=>g_end λw hw hF=>λa ha=>by
 obtain⟨h1,h2⟩:=hF i _ hi
 have hfr:Fr N (denE (λj=>if j=k then g else G j) ((k,.a k 0)::E')) a:=ha.sub ⟨by rw [look_den,hk];show some (qJ (some ⟨g,0,none⟩))=some (qJ (some ⟨if k=k then g else G k,0,none⟩));rw [if_pos rfl],by rw [denE_far hfE];exact denE_sub hE'⟩
 have hst2:=hst.news (E:=E') (gs:=λ_=>g) hw [⟨k,none,ty,ps⟩] (by simp [freeV,hfE,hfL,farL]) (λu hu=>by rw [aD.1 hu];exact hok) (λ_ _=>h1) (λi j hi hj hne=>absurd (show i=j by simp at hi hj;omega) hne) λu hu=>by rw [aD.1 hu];show Blk w (if k=k then g else G k) ty (catP ps);rw [if_pos rfl];exact h2
 exact h a w ⟨_,S,hfr,OkE.cons (SubS.ok hE' hE) (v:=.a k 0) trivial,hst2⟩
def s_oneH{P:Program}{id:Nat}{l:zo}(n:Nat)(hn:n<=l.length)(hm:P.follows .mixedOrders=true)(hB:tailH l.toArray n (l.drop n).length=true)
 (h:∀G S w0,StW b G S L R F M w0->hS P l.toArray Q N (l.drop n) G w0 (idx 0 (l.take n)) E []):cS P b (.region id l.toArray true) Q N ⟨E,L,R,F,M⟩:=s_drawn n hn hm hB λG S w0 hst=>h G S w0 hst
end
def run_neqBoolW{N:Nat}{E:SE}{o:yk}{x y:Operand}{t':TypeId}{u v:SV}{p q:Bool}(ho:o.op = .binOp .neq 4 x y t')(hx:evS E x=some u)(hy:evS E y=some v)(hu:∀G,u.den G = .bool p)(hv:∀G,v.den G = .bool q):∀(G:zk) (a:Act) (w:yp),Fr N (denE G E) a->(execOp a.eval o).run prog w = .ok (.value ((SV.b (!(p==q))).den G)) w:=λG a w ha=>by have h1:a.eval x = .bool p:=(ha.eval (evS_ok hx)).trans (hu G);have h2:a.eval y = .bool q:=(ha.eval (evS_ok hy)).trans (hv G);unfold execOp;simp only [ho,h1,h2];go_simp;rfl
abbrev madeP(l:zu):Post Nat:={ ret:=λg=>.v (.slice (some ⟨g,0,none⟩) l.length l.length),p:=λg=>Rd 1 eB (some ⟨g,0,none⟩) l.length l }
abbrev madeN(l:zu):Post Nat:={ ret:=λg=>.v (.slice (some ⟨g,0,none⟩) l.length l.length),n:=λg=>Rd 1 eB (some ⟨g,0,none⟩) l.length l }
def Spec.p1{f:FuncId}{args:zq}{F:zv}{l:zu}(h:Spec f args [] F (madeN l)):Spec f args [] F (madeP l):=λw S X hs hX hF=>by
 refine(h w S X hs hX hF).mono ?_;rintro e w' ⟨x,S',h1,h2,h3,h4,h5,h6,h7⟩;refine⟨x,S',h1,h2,h3,h4,h5,h7.less λk _ hk=>?_, zU⟩;rcases hk with hk|hk
 .exact .inl (hX k hk).1
 .exact .inr hk
instance{l:zu}{g:Nat}:Pst ((madeP l).p g):=inferInstanceAs (Pst (Rd 1 eB (some ⟨g,0,none⟩) l.length l))
instance pst_true:Pst (λ_:yp=>True):=⟨λ_ _ _ _=>trivial⟩
instance{r:RV}{x:Unit}:Pst ((one r).p x):=⟨λ_ _ _ _=>trivial⟩
def madeP_rd{l:zu}{x:Nat}{w:yp}(h:∃y,((madeP l).ret x).den=((madeP l).ret y).den/\(madeP l).p y w):Rd 1 eB (some ⟨x,0,none⟩) l.length l w:=by obtain⟨y,e,hy⟩:=h;have e:Value.slice (some ⟨x,0,none⟩) l.length l.length = .slice (some ⟨y,0,none⟩) l.length l.length:=e;injection e with e;injection e with e;injection e with e;rw [e];exact hy
abbrev tellP(l:zu):Post (zt×Nat):={ ret:=λx=>.v (.slice x.1 l.length x.2),p:=λx=>Rd 1 eB x.1 x.2 l }
instance{l:zu}{x:zt×Nat}:Pst ((tellP l).p x):=inferInstanceAs (Pst (Rd 1 eB x.1 x.2 l))
end Go.Proofs.Q
namespace Nums
def kJ:zj->Nat
  | []=>0
  | x::r=>x+2*kJ r
theorem pV:∀(d:zj) (j v:Nat),j<d.length->kJ (d.set j v)+d[j]! * 2^j=kJ d+v*2^j
 | [],_,_,h=>by simp at h
 | x::r,0,v,_=>by simp only [fC,kJ,jR,uV];have:(x::r)[0]! = x:=rfl;rw [this];omega
 | x::r,j+1,v,h=>by
  have ih:=pV r j v (by simpa using h);have e:(x::r)[j+1]! = r[j]!:=by simp
  rw [e,fD,kJ,kJ,cB];have e1:r[j]! * (2^j*2)=2*(r[j]! * 2^j):=by rw [<-eQ,cX _ 2]
  have e2:v*(2^j*2)=2*(v*2^j):=by rw [<-eQ,cX _ 2]
  rw [e1,e2];omega
theorem uC(n:Nat):kJ (aB n 0)=0:=by
 induction n with
 | zero=>rfl
 | succ n ih=>rw [List.replicate_succ,kJ,ih]
def uD{d:zj}{j:Nat}(h:j<d.length):kJ (d.drop j)=d[j]! + 2*kJ (d.drop (j+1)):=by rw [dZ h,kJ,getElem!_pos d j h]
structure DG(N i:Nat)(f:Int)(d:zj):Prop where
  len:d.length=256
  sum:kJ d=N%2^i
  hi:∀j,i<=j->j<256->d[j]! = 0
  odd:∀j,j<256->d[j]! = 0\/(d[j]! % 2=1/\d[j]! < 16)
  last:f = -4\/∃m:Nat,f=m/\m<i/\d[m]! < 2^(i-m)/\d[m]! % 2=1
def vH(n j:Nat)(h:j<n):(aB n 0)[j]! = 0:=by rw [getElem!_pos _ j (by simpa using h)];simp
def DG.start(N:Nat):DG N 0 (-4) (aB 256 0) where
 len:=bL
 sum:=by rw [uC,jR,Nat.mod_one]
 hi:=λj _ h=>vH 256 j h
 odd:=λj h=>.inl (vH 256 j h)
 last:=.inl rfl
def p8(N i:Nat):N%2^(i+1)=N%2^i+N/2^i%2*2^i:=by rw [cB,Nat.mod_mul,cX (2^i)]
def DG.zero{N i:Nat}{f:Int}{d:zj}(h:DG N i f d)(hb:N/2^i%2=0):DG N (i+1) f d where
 len:=h.len
 sum:=by rw [h.sum,p8,hb,Nat.zero_mul,cD]
 hi:=λj hj=>h.hi j (by omega)
 odd:=h.odd
 last:=h.last.imp id λ⟨m,h1,h2,h3,h4⟩=>⟨m,h1,by omega,b9 h3 (mC (by decide) (by omega)),h4⟩
def oZ{d:zj}{j v:Nat}(h:j<d.length):(d.set j v)[j]! = v:=by rw [getElem!_pos _ j (by simpa using h)];simp
def rJ{d:zj}{j k v:Nat}(h:j≠k):(d.set j v)[k]! = d[k]!:=by simp only [List.getElem!_eq_getElem?_getD,List.getElem?_set_ne h]
def DG.fresh{N i:Nat}{f:Int}{d:zj}(h:DG N i f d)(hi:i<256)(hb:N/2^i%2=1):DG N (i+1) i (d.set i 1) where
 len:=by rw [bV,h.len]
 sum:=by have h1:=pV d i 1 (by rw [h.len];exact hi);rw [h.hi i (aF _) hi,h.sum] at h1;rw [p8,hb];omega
 hi:=λj hj hj2=>by rw [rJ (by omega)];exact h.hi j (by omega) hj2
 odd:=λj hj=>by
  by_cases e:i=j
  .subst e;rw [oZ (by rw [h.len];exact hi)];exact .inr ⟨by decide,by decide⟩
  .rw [rJ e];exact h.odd j hj
 last:=.inr ⟨i,rfl,by omega,by rw [oZ (by rw [h.len];exact hi),show i+1-i=1 from by omega];decide,by rw [oZ (by rw [h.len];exact hi)]⟩
def DG.more{N i m:Nat}{d:zj}(h:DG N i m d)(hi:i<256)(hb:N/2^i%2=1)(hm:i<m+4):m<i/\d[m]! < 2^(i-m)/\DG N (i+1) m (d.set m (d[m]! + 2^(i-m))):=by
 obtain⟨m',h1,h2,h3,h4⟩:∃m':Nat,(m:Int)=m'/\m'<i/\d[m']! < 2^(i-m')/\d[m']! % 2=1:=by
  rcases h.last with h1|h1
  .omega
  .exact h1
 obtain rfl:m=m':=by omega
 have hml:m<d.length:=by rw [h.len];omega
 have hpe:2^(i+1-m)=2^(i-m)*2:=by rw [show i+1-m=i-m+1 from by omega,cB]
 have hk:i-m=1\/i-m=2\/i-m=3:=by omega
 have hpow:2^(i-m)*2<=16/\2^(i-m)%2=0:=by rcases hk with e|e|e<;>rw [e]<;>decide
 refine⟨h2,h3,⟨by rw [bV,h.len],?_,λj hj hj2=>?_,λj hj=>?_,.inr ⟨m,rfl,by omega,?_,?_⟩⟩⟩
 .have e1:=pV d m (d[m]! + 2^(i-m)) hml
  have e2:2^(i-m)*2^m=2^i:=by rw [<-kC];congr 1;omega
  rw [Nat.add_mul,e2,h.sum] at e1;rw [p8,hb];omega
 .rw [rJ (by omega)];exact h.hi j (by omega) hj2
 .by_cases e:m=j
  .subst e;rw [oZ hml];exact .inr ⟨by omega,by omega⟩
  .rw [rJ e];exact h.odd j hj
 .rw [oZ hml,hpe];omega
 .rw [oZ hml];omega
namespace Ed
variable{n:Nat}[NeZero n]{d:Fin n}
def tot(d:Fin n):List (Pt n)->Nat->zk->Pt n
  | [],_,_=>zero
  | A::ps,i,f=>add d (mul d (f i) A) (tot d ps (i+1) f)
theorem o7(g:Good n d):∀{ps:List (Pt n)},(∀A∈ps,On d A)->∀i f,On d (tot d ps i f)
 | [],_,_,_=>lD
 | A::ps,h,i,f=>kW g (gD g (h A (by simp)) _) (o7 g (λB hB=>h B (by simp [hB])) (i+1) f)
theorem nB:∀{ps:List (Pt n)} {i:Nat} {f f':zk},(∀j,i<=j->j<i+ps.length->f j=f' j)->tot d ps i f=tot d ps i f'
 | [],_,_,_,_=>rfl
 | A::ps,i,f,f',h=>by rw [tot,tot,h i (aF _) (by simp),nB (i:=i+1) (f:=f) (f':=f') λj h1 h2=>h j (by omega) (by simp;omega)]
theorem r9(g:Good n d):∀{ps:List (Pt n)} {i:Nat} {f:zk},(∀j,i<=j->j<i+ps.length->f j=0)->tot d ps i f=zero
 | [],_,_,_=>rfl
 | A::ps,i,f,h=>by rw [tot,h i (aF _) (by simp),oH,zero_add g,r9 g λj h1 h2=>h j (by omega) (by simp;omega)]
theorem tL(g:Good n d):∀{ps:List (Pt n)},(∀A∈ps,On d A)->∀(i:Nat) (f:zk),tot d ps i (λj=>2*f j)=add d (tot d ps i f) (tot d ps i f)
 | [],_,_,_=>(zero_add g zero).symm
 | A::ps,h,i,f=>by have hA:=h A (by simp);have hs:∀B∈ps,On d B:=λB hB=>h B (by simp [hB]);rw [tot,tot,tL g hs (i+1) f,Nat.two_mul,mul_add g hA,sN g (gD g hA _) (gD g hA _) (o7 g hs _ _) (o7 g hs _ _)]
theorem sA(g:Good n d):∀{ps:List (Pt n)},(∀A∈ps,On d A)->∀(i j v:Nat) (f f':zk) (A:Pt n),ps[j]?=some A->f' (i+j)=f (i+j)+v->(∀k,k≠i+j->f' k=f k) ->
  tot d ps i f'=add d (tot d ps i f) (mul d v A)
 | [],_,_,_,_,_,_,A,hj,_,_=>by simp at hj
 | B::ps,h,i,0,v,f,f',A,hj,h1,h2=>by simp only [List.getElem?_cons_zero,a8] at hj;subst hj;have hB:=h B (by simp);have hs:∀B∈ps,On d B:=λB hB=>h B (by simp [hB]);rw [tot,tot,nB (ps:=ps) (i:=i+1) (f:=f') (f':=f) λk h3 _=>h2 k (by omega)];rw [cD] at h1;rw [h1,mul_add g hB,add_assoc g (gD g hB _) (gD g hB _) (o7 g hs _ _),add_assoc g (gD g hB _) (o7 g hs _ _) (gD g hB _),add_comm (mul d v B)]
 | B::ps,h,i,j+1,v,f,f',A,hj,h1,h2=>by
  have hB:=h B (by simp);have hs:∀B∈ps,On d B:=λB hB=>h B (by simp [hB]);have hA:On d A:=hs A (aR (by simpa using hj));rw [tot,tot,sA g hs (i+1) j v f f' A (by simpa using hj) (by rw [Nat.add_right_comm,Nat.add_assoc];exact h1) (λk hk=>h2 k (by omega)),h2 i (by omega),
   add_assoc g (gD g hB _) (o7 g hs _ _) (gD g hA _)]
end Ed
end Nums
namespace Go.Proofs.Q
open Go.RowKit Go.IntWalk Nums
def whs_eq(l:zj)(u k:Nat):whs l u k=mx (λj=>(up2 l u j+l[j]!)%2251799813685248) l k:=rfl
theorem up1_le{l:zj}{x:F}(h:EB l x):∀k,k<=5->up1 l 19 k<=19
 | 0,_=>aF _
 | k+1,hk=>by have h1:=up1_le h k (by omega);have h2:=eb_get h (k:=k) (by omega);show(l[k]! + up1 l 19 k)/2251799813685248<=19;omega
theorem up2_le{l:zj}{x:F}(h:EB l x){u:Nat}(hu:u<=361):∀k,k<=5->up2 l u k<=361
 | 0,_=>hu
 | k+1,hk=>by have h1:=up2_le h hu k (by omega);have h2:=eb_get h (k:=k) (by omega);show(up2 l u k+l[k]!)/2251799813685248<=361;omega
def whole_f{a:zj}{x:F}(ha:EB a x)(w:yp) :
  Calls prog 227 #[.agg (Us a).toArray] w λe w'=>e = .returned (.agg (Us (whole a)).toArray)/\Below w.heap.size w w':=by
 have hW:whole a=whs a (up1 a 19 5*19) 5:=rfl;rw [hW];clear hW;generalize hq1:up1 a 19 5=q;generalize hu0:q*19=u0
 go_enter func227,ntmps227
 go_wp2
 go_loopw [6,3] (λi u wr=>∃k:Nat,k<=5/\i = .int .i64 k/\u = .int .u64 (up1 a 19 k:Nat)/\Blk wr w.heap.size 247 (Us a).toArray/\Blk wr (w.heap.size+1) 247 z5/\Below w.heap.size w wr) (λi _ _=>5-(intOf i).toNat)
 case atStart =>
  exact⟨0,by omega,rfl,rfl,heap_alloc2_old w _ _,heap_alloc2_new w _ _,((Below.refl _ _).alloc (aF _) _).alloc (by simp) _⟩
 case round =>
  obtain⟨k,hk,rfl,rfl,h0,h1,hbel⟩:=hrel
  by_cases hlt:k<5
  .have hN:up1 a 19 (k+1)=(a[k]! + up1 a 19 k)/2251799813685248:=rfl
   have c0:=(h0.cell k).trans (Us_at (by rw [ha.len];exact hlt));have b0:=eb_get ha hlt;have b1:=up1_le ha k (by omega);generalize a[k]! = u at *;generalize up1 a 19 k=v at *;have q1:IntKind.u64.wrap ((u:Int)+(v:Int))=((u+v:Nat):Int):=by rw [bH];omega
   have q2:(0:Int)<=(k:Int):=by omega
   have HK:=dW (fF h0 (fF h1 (fF hbel hN)));clear h0 h1 hbel hN;go_wp2;go_roundw
   case rel =>
    obtain⟨h0,h1,hbel,hN⟩:=HK.out;exact⟨k+1,by omega,by go_num,by rw [hN];congr 1,h0,h1,hbel⟩
   case measure=>simp [intOf];omega
  .obtain rfl:k=5:=by omega
   have b1:=up1_le ha 5 (by omega);rw [hq1] at b1 ⊢;have hq:u0<=361:=by omega
   have q1:IntKind.u64.wrap ((q:Int)*19)=(u0:Int):=by rw [bH];omega
   clear hq1 hu0;have hW0:whs a u0 0=a:=by rw [whs_eq,mx_zero _ ha.len]
   have HK:=dW (fF h0 (fF h1 hbel));clear h0 h1 hbel;go_wp2;go_loopw [19,3] (λi u wq=>∃k:Nat,k<=5/\i = .int .i64 k/\u = .int .u64 (up2 a u0 k:Nat)/\Blk wq w.heap.size 247 (Us (whs a u0 k)).toArray/\Blk wq (w.heap.size+1) 247 z5/\Below w.heap.size w wq) (λi _ _=>5-(intOf i).toNat)
   case atStart =>
    obtain⟨h0,h1,hbel⟩:=HK.out;exact⟨0,by omega,rfl,rfl,by rw [hW0];exact h0,h1,hbel⟩
   case round =>
    obtain⟨k,hk,rfl,rfl,h0,h1,hbel⟩:=hrel;clear HK
    by_cases hlt:k<5
    .have hN:up2 a u0 (k+1)=(up2 a u0 k+a[k]!)/2251799813685248:=rfl
     have hS:(whs a u0 k).set k ((up2 a u0 k+a[k]!)%2251799813685248)=whs a u0 (k+1):=mx_set (λj=>(up2 a u0 j+a[j]!)%2251799813685248) a;have hg:(whs a u0 k)[k]! = a[k]!:=mx_get _ a hlt;have c0:=(h0.cell k).trans (Us_at (by rw [whs_eq,mx_len];exact hlt));rw [hg] at c0;have hf:=h0.free k;have b0:=eb_get ha hlt;have b1:=up2_le ha hq k (by omega);generalize a[k]! = u at *;generalize up2 a u0 k=v at *;have q2:IntKind.u64.wrap ((v:Int)+(u:Int))=((v+u:Nat):Int):=by rw [bH];omega
     have q3:=maskW (v+u) (by omega);have q4:(0:Int)<=(k:Int):=by omega
     have HK:=dW (fF h0 (fF h1 (fF hbel (fF hN hS))));clear h0 h1 hbel hN hS hg;generalize hs:v+u=s at *;go_wp2;go_roundw
     case rel =>
      obtain⟨h0,h1,hbel,hN,hS⟩:=HK.out;have h4:=h0.set k (.int .u64 ((s%2251799813685248:Nat):Int));rw [Us_set,hS] at h4;exact⟨k+1,by omega,by go_num,by rw [hN];congr 1,h4,h1.far (by simp) _,hbel.setCell (by simp) _⟩
     case measure=>simp [intOf];omega
    .obtain rfl:k=5:=by omega
     have hz:(Us (whs a u0 5)).toArray.size=5:=len_us (by rw [whs_eq,mx_len]);go_wp2_with (first
      | (refine wpList_load_row rfl 247 _ rfl w.heap.size rfl 247 (Us (whs a u0 5)).toArray (0,0) _ h0 underlying247 rfl (size_el _ hz) ?_)
      | (refine wpList_store_row rfl 247 _ _ rfl (w.heap.size+1) rfl (Us (whs a u0 5)).toArray rfl 247 _ h1 (size_el _ hz) (by rw [hz];rfl) (Us_one _) ?_))
     refine bodyPost_ret (results_cell_row rfl _ _ (w.heap.size+1) 247 (Us (whs a u0 5)).toArray (0,0) _ rfl (h1.row _) underlying247 rfl (size_el _ hz)) rfl ⟨rfl,?_⟩;exact below_setRow hbel (by omega) _
def W2(s:Nat):zr:=(Us [s/18446744073709551616,s%18446744073709551616]).toArray
def W2_size(s:Nat):(W2 s).size=2:=rfl
def W2_one(s:Nat):∀u∈(W2 s).toList,u.oneCell'=true:=Us_one _
def plus_f(s a b:Nat)(ha:a<18446744073709551616)(hb:b<18446744073709551616)(hs:s+a*b<340282366920938463463374607431768211456)(w:yp) :
  Calls prog 223 #[.agg (W2 s),.int .u64 a,.int .u64 b] w λe w'=>e = .returned (.agg (W2 (s+a*b)))/\Below w.heap.size w w':=by
 refine(plus_any (s/18446744073709551616) (s%18446744073709551616) a b (by omega) (by omega) ha hb w).mono ?_
 rintro e w' ⟨rfl,hw⟩
 refine⟨?_,hw⟩
 unfold W2
 generalize a*b=m at *
 have e1:(s/18446744073709551616+m/18446744073709551616+(s%18446744073709551616+m%18446744073709551616)/18446744073709551616)%18446744073709551616=(s+m)/18446744073709551616:=by omega
 have e2:(s%18446744073709551616+m%18446744073709551616)%18446744073709551616=(s+m)%18446744073709551616:=by omega
 rw [e1,e2]
def low_f(s:Nat)(w:yp) :
  Calls prog 224 #[.agg (W2 s)] w λe w'=>e = .returned (.int .u64 ((s%2251799813685248:Nat):Int))/\Below w.heap.size w w':=by
 refine(low_any (s/18446744073709551616) (s%18446744073709551616) (by omega) w).mono ?_
 rintro e w' ⟨rfl,hw⟩
 refine⟨?_,hw⟩
 have e1:s%18446744073709551616%2251799813685248=s%2251799813685248:=by omega
 rw [e1]
def high_f(s:Nat)(hs:s<41538374868278621028243970633760768)(w:yp) :
  Calls prog 225 #[.agg (W2 s)] w λe w'=>e = .returned (.int .u64 ((s/2251799813685248:Nat):Int))/\Below w.heap.size w w':=by
 refine(high_any (s/18446744073709551616) (s%18446744073709551616) (by omega) (by omega) w).mono ?_
 rintro e w' ⟨rfl,hw⟩
 refine⟨?_,hw⟩
 have e1:s/18446744073709551616*8192+s%18446744073709551616/2251799813685248=s/2251799813685248:=by omega
 rw [e1]
theorem lv_take:∀(l:zj) {k:Nat},k<l.length->lv (l.take (k+1))=lv (l.take k)+2251799813685248^k*l[k]!
 | d::ds,0,_=>by simp [lv]
 | d::ds,k+1,h=>by have ih:=lv_take ds (k:=k) (by simpa using h);show d+2251799813685248*lv (ds.take (k+1))=d+2251799813685248*lv (ds.take k)+2251799813685248^(k+1)*ds[k]!;rw [ih,cB];grind only
structure MM(a:zj)(y:F)(k c0 c1 c2 c3 c4 s0 s1 s2 s3 s4:Nat):Prop where
  cv:fof (lv [c0,c1,c2,c3,c4])=fof (2251799813685248^k)*y
  sv:fof (lv [s0,s1,s2,s3,s4])=fof (lv (a.take k))*y
  c0b:c0<42784196465000448
  c1b:c1<42784196465000448
  c2b:c2<42784196465000448
  c3b:c3<42784196465000448
  c4b:c4<42784196465000448
  c0u:k<=0->c0<2251799813947392
  c1u:k<=1->c1<2251799813947392
  c2u:k<=2->c2<2251799813947392
  c3u:k<=3->c3<2251799813947392
  c4u:k<=4->c4<2251799813947392
  s0b:s0<=k*96341445640026967064998646153216
  s1b:s1<=k*96341445640026967064998646153216
  s2b:s2<=k*96341445640026967064998646153216
  s3b:s3<=k*96341445640026967064998646153216
  s4b:s4<=k*96341445640026967064998646153216
def prod_le{v c:Nat}(hv:v<2251799813947392)(hc:c<42784196465000448):v*c<=96341445640026967064998646153216 :=
 bM (iS (tG hv) (tG hc)) (by decide)
def MM.next{a:zj}{x y:F}{k c0 c1 c2 c3 c4 s0 s1 s2 s3 s4:Nat}(h:MM a y k c0 c1 c2 c3 c4 s0 s1 s2 s3 s4)(ha:EB a x)(hk:k<5) :
  MM a y (k+1) (19*c4) c0 c1 c2 c3 (s0+a[k]! * c0) (s1+a[k]! * c1) (s2+a[k]! * c2) (s3+a[k]! * c3) (s4+a[k]! * c4):=by
 obtain⟨cv,sv,g0,g1,g2,g3,g4,u0,u1,u2,u3,u4,t0,t1,t2,t3,t4⟩:=h;have hv:=eb_get ha hk;have p0:=prod_le hv g0;have p1:=prod_le hv g1;have p2:=prod_le hv g2;have p3:=prod_le hv g3;have p4:=prod_le hv g4
 have hm:(k+1)*96341445640026967064998646153216=k*96341445640026967064998646153216+96341445640026967064998646153216:=by omega
 have:=u4 (by omega);refine⟨?_,?_,by omega,g0,g1,g2,g3,by omega,by omega,by omega,by omega,by omega,by omega,by omega,by omega,by omega,by omega⟩
 .rw [wQ,cv,cB,fA];generalize fof (2251799813685248^k)=u;generalize fof 2251799813685248=v;grind only
 .rw [xA,kL,sv,fA,cv,lv_take a (by rw [ha.len];exact hk),kL,fA];generalize fof (lv (a.take k))=u;generalize fof (2251799813685248^k)=v;generalize fof (a[k]!)=z;grind only
def MM.start{a:zj}{b0 b1 b2 b3 b4:Nat}{y:F}(h0:b0<2251799813947392)(h1:b1<2251799813947392)(h2:b2<2251799813947392)(h3:b3<2251799813947392)(h4:b4<2251799813947392)(hb:fof (lv [b0,b1,b2,b3,b4])=y) :
  MM a y 0 b0 b1 b2 b3 b4 0 0 0 0 0:=by
 refine⟨?_,?_,by omega,by omega,by omega,by omega,by omega,λ_=>h0,λ_=>h1,λ_=>h2,λ_=>h3,λ_=>h4,by omega,by omega,by omega,by omega,by omega⟩
 .rw [hb,jR,g8];grind only
 .have e1:fof (lv [0,0,0,0,0])=0:=lU;have e2:fof (lv (a.take 0))=0:=lU;rw [e1,e2];grind only
def MM.fin{a:zj}{x y:F}{c0 c1 c2 c3 c4 s0 s1 s2 s3 s4:Nat}(h:MM a y 5 c0 c1 c2 c3 c4 s0 s1 s2 s3 s4)(ha:EB a x) :
  fof (lv (crd s0 s1 s2 s3 s4))=x*y/\s0<41538374868278621028243970633760768/\s1<41538374868278621028243970633760768/\s2<41538374868278621028243970633760768/\s3<41538374868278621028243970633760768/\s4<41538374868278621028243970633760768 /\
   s0/2251799813685248<400000000000000000/\s1/2251799813685248<400000000000000000/\s2/2251799813685248<400000000000000000/\s3/2251799813685248<400000000000000000/\s4/2251799813685248<400000000000000000:=by
 have e:a.take 5=a:=bJ (by rw [ha.len];omega);obtain⟨cv,sv,g0,g1,g2,g3,g4,u0,u1,u2,u3,u4,t0,t1,t2,t3,t4⟩:=h;rw [e,ha.val] at sv;exact⟨by rw [wI,sv],by omega,by omega,by omega,by omega,by omega,by omega,by omega,by omega,by omega,by omega⟩
def own_low:Own 224:=λ_ _=>by go_simp
def own_high:Own 225:=λ_ _=>by go_simp
def own_carried:Own 226:=λ_ _=>by go_simp
def own_whole:Own 227:=λ_ _=>by go_simp
def own_elmul:Own 184:=λ_ _=>by go_simp
def own_eladd:Own 191:=λ_ _=>by go_simp
def own_elsub:Own 189:=λ_ _=>by go_simp
def own_hash:Own 185:=λ_ _=>by go_simp
def own_small:Own 187:=λ_ _=>by go_simp
section
variable{ops:zp}{C0:zv}{Q:Act->Prop}{a:Act}{o:yk}{rest:zo}
def b_el{l:zj}(g:Nat)(hl:l.length=5)(x:Operand)(hg:aQ o (yielded ops a.tmps)=true)(ho:o.op = .load 247 x)(hx:a.eval x = .pointer (some ⟨g,0,none⟩))
 (hc:∀w,C0 w->Blk w g 247 (Us l).toArray)(hk:wpB prog ops C0 Q rest (a.put o.dst (.agg (Us l).toArray))):wpB prog ops C0 Q (o::rest) a :=
 b_mid hg 247 x ho g 0 hx (Us l) _ (λw h=>(hc w h).range) underlying247 rfl (size_el (Us l).toArray (by rw [aW,Us_len,hl])) hk
end
def wd_limbs{l:zj}(hl:l.length=5)(hb:∀y∈l,y<2251799813685248){k:Nat}(hk:k<4) :
  bits .or .u64 ((l[64*k/51]! : Nat)/2^(64*k%51):Int) (IntKind.u64.wrap ((l[64*k/51+1]! : Nat)*2^(51-64*k%51):Int))=((wd (lv l) k:Nat):Int):=by
 obtain⟨a0,a1,a2,a3,a4,rfl⟩:=pM hl;have h0:=hb a0 (by simp);have h1:=hb a1 (by simp);have h2:=hb a2 (by simp);have h3:=hb a3 (by simp);have h4:=hb a4 (by simp)
 unfold wd
 rw [lv5]
 have h4':k=0\/k=1\/k=2\/k=3:=by omega
 have key:∀(i x y r t L:Nat),y*2^t%18446744073709551616%2^i=0->x/2^r<2^i->x/2^r<18446744073709551616->y*2^t%18446744073709551616+x/2^r=L ->
   bits .or .u64 ((x:Nat)/2^r:Int) (IntKind.u64.wrap ((y:Nat)*2^t:Int))=(L:Int):=by
  intro i x y r t L e1 e2 e3 e4
  have f1:((x:Int)/2^r)=((x/2^r:Nat):Int):=by simp
  have f2:IntKind.u64.wrap ((y:Int)*2^t)=((y*2^t%18446744073709551616:Nat):Int):=by rw [bH];simp
  rw [f1,f2,<-e4,u64_or_nat _ _ e3 (by omega),Nat.or_comm,nat_join i _ _ e1 e2]
 rcases h4' with rfl|rfl|rfl|rfl
 .exact key 51 a0 a1 0 51 _ (by omega) (by omega) (by omega) (by simp only [cN];omega)
 .exact key 38 a1 a2 13 38 _ (by omega) (by omega) (by omega) (by simp only [cN];omega)
 .exact key 25 a2 a3 26 25 _ (by omega) (by omega) (by omega) (by simp only [cN];omega)
 .exact key 12 a3 a4 39 12 _ (by omega) (by omega) (by omega) (by simp only [cN];omega)
end Go.Proofs.Q
namespace Go.Proofs.Q
open Go.RowKit Go.IntWalk
section
variable{P:Program}{ops:zp}{Q:zx}{Inv:zv}
def wpAnyP(P:Program)(ops:zp)(Q:zx)(Inv:zv)(p:Nat->Bool)(Fin:zn->zw):Nat->zn->zw
  | 0,listed,a,w=>(∀j∈a9 .any ops listed,∀i,p i=true->waitsT .any ops ops.size j i=true)/\Fin listed a w
  | fuel+1,listed,a,w=>a9 .any ops listed≠[]/\∀i∈a9 .any ops listed,wpOp P ops Q i (λa' w'=>Inv w'/\wpAnyP P ops Q Inv p Fin fuel (listed.setIfInBounds i true) a' w') a w
abbrev FinA(P:Program)(ops:zp)(Q:zx)(m:Nat):zn->zw:=λlisted a w=>wpAny P .any ops Q m listed a w
theorem wpAny_of_P{p:Nat->Bool}{m:Nat}:∀(fuel:Nat) (listed:zn) (a:Act) (w:yp),wpAnyP P ops Q Inv p (FinA P ops Q m) fuel listed a w->wpAny P .any ops Q (m+fuel) listed a w
 | 0,_,_,_,h=>h.2
 | fuel+1,_,_,_,h=>⟨λh0=>absurd h0 h.1,λi hi=>wpOp_mono (λa' w' h'=>wpAny_of_P fuel _ a' w' h'.2) (h.2 i hi)⟩
theorem P_first{p:Nat->Bool}{Fin:zn->zw}{i:Nat}{oi:yk}{v:Value}(hin:p i=true)(hi:ops[i]?=some oi)(hst:stillG oi.op=true)(hsel:∀(j:Nat) (o:yk) cs b,ops[j]?=some o->o.op ≠ .select cs b)(hQ:∀c a d v w,Q (.panic c) (a.put d v) w->Q (.panic c) a w) :
  ∀(fuel:Nat) (listed:zn) (a:Act) (w:yp),Inv w->Closed .any ops listed ->
   (∀j oj,ops[j]?=some oj->j≠i->listed.getD j true=false->(∀e∈oj.after,c7 .any e=true->e.on≠i)->oi.apart ops oj=true) ->
   i∈a9 .any ops listed->YieldsB P ops Inv oi (· = v) a->wpAnyP P ops Q Inv p Fin fuel (listed.setIfInBounds i true) (a.put oi.dst v) w->wpAnyP P ops Q Inv p Fin (fuel+1) listed a w:=by
 intro fuel
 induction fuel with
 | zero =>
  intro listed a w hC hcs _ hr hy H
  refine⟨λh=>(by rw [h] at hr;cases hr),λj hj=>?_⟩
  by_cases hji:j=i
  .subst hji;exact still_wpOp hi hst hy hC ⟨hC,H⟩
  .have h1:=H.1 j (ready_mono hj hji) i hin;obtain⟨_,oj,hoj,hall⟩:=mem_ready.1 hj;have h6:=hcs.waits _ j i oj hoj hall h1;rw [getD_ready hr] at h6;cases h6
 | succ fuel ih =>
  intro listed a w hC hcs hfree hr hy H
  refine⟨λh=>(by rw [h] at hr;cases hr),λj hj=>?_⟩
  by_cases hji:j=i
  .subst hji;exact still_wpOp hi hst hy hC ⟨hC,H⟩
  .obtain⟨hjun,oj,hoj,hall⟩:=mem_ready.1 hj
   have hnot:∀e∈oj.after,c7 .any e=true->e.on≠i:=λe he hb heq=>by have h1:=hall e he hb;rw [heq,getD_ready hr] at h1;cases h1
   have h2:=wpOp_putB (V:=(· = v)) hoj (hfree j oj hoj hji hjun hnot) (λcs b=>hsel i oi cs b hi) (λcs b=>hsel j oj cs b hoj) ⟨v,rfl⟩ (.inr ⟨v,λ_ h=>h⟩) hQ hy (λu hu=>by subst hu;exact H.2 j (ready_mono hj hji));have hun':∀k,(listed.setIfInBounds j true).getD k true=false->listed.getD k true=false:=λk hun=>by
    by_cases hjk:j=k
    .subst hjk;exact hjun
    .rw [getD_set_ne true hjk] at hun;exact hun
   refine wpOp_mono (λa' w' h3=>?_) h2;obtain⟨hy',h4⟩:=h3;obtain⟨hC',h5⟩:=h4 v rfl;refine⟨hC',ih (listed.setIfInBounds j true) a' w' hC' (hcs.set hj) (λk ok hk hki hun hno=>hfree k ok hk hki (hun' k hun) hno) (ready_mono hr (Ne.symm hji)) hy' ?_⟩;rw [Array.setIfInBounds_comm _ _ hji];exact h5
end
def pS(P:Program)(b:Base)(Q:zx)(N:Nat)(ops:zp)(Inv:zv)(p:Nat->Bool)(Fin:zn->zw)(fuel:Nat)(listed:zn)(e:Env):Prop:=Closed .any ops listed->∀a w,St b N e a w->Inv w->wpAnyP P ops (NoPanic Q) Inv p Fin fuel listed a w
def frontP(ops:zp)(p:Nat->Bool)(i:Nat)(listed:zn):Bool:=p i&&(a9 .any ops listed).contains i&&Region.free .any ops listed i&&Region.noSelect ops
section
variable{P:Program}{T:yw}{b:Base}{ops:zp}{Q:zx}{N fuel:Nat}{p:Nat->Bool}{Fin:zn->zw}{listed:zn}{E:SE}{L L0:ze}{R:zd}{F M:zv}{Inv:zv}{e:Env}
def panic_putP:∀c (a:Act) d v w,NoPanic Q (.panic c) (a.put d v) w->NoPanic Q (.panic c) a w:=λ_ _ _ _ _ h=>h
def p_front{o:yk}{k:Nat}{v:SV}(hT:OkT P T)(i:Nat)(hc:frontP ops p i listed=true)(ho:ops[i]?=some o)(hg:o.guard=none)(hd:o.dst=some k)(hk:aU k N=true)(hs:stillG o.op=true)(hv:stepS T E L0 o.op=some v)(hsub:∀x∈L0,x∈L)
 (hn:pS P b Q N ops (InvL L0) p Fin fuel (listed.setIfInBounds i true) ⟨(k,v)::E,L,R,F,M⟩):pS P b Q N ops (InvL L0) p Fin (fuel+1) listed ⟨E,L,R,F,M⟩:=λhcs a w hst hI=>by
 obtain⟨G,S,h1,h2,h3⟩:=hst;simp only [frontP,aN] at hc;obtain⟨⟨⟨hin,hr⟩,hfr⟩,hsel⟩:=hc
 have hr':i∈a9 .any ops listed:=by simpa using hr
 obtain⟨h4,h5⟩:=stepS_ok hT h2 (λx hx=>(h3.var x (hsub x hx)).2.1) hv;have h6:=hn (hcs.set hr') (a.put (some k) (v.den G)) w ⟨G,S,h1.put hk _,h2.cons h4,h3⟩ hI;refine P_first hin ho hs (eN hsel) panic_putP fuel listed a w hI hcs (iT ho hfr) hr' (v:=v.den G) (.inl ⟨by simp [aQ,hg],λw' hw'=>?_⟩) (by rw [hd];exact h6)
 unfold atB
 rw [h5 h1 λx hx=>by obtain⟨g,e1,e2⟩:=hw' x hx;rw [(h3.var x (hsub x hx)).2.2 g e1];exact e2]
 exact⟨rfl,rfl⟩
def p_frontO{o:yk}{k:Nat}(v:SV)(hvo:v.Ok)(i:Nat)(hc:frontP ops p i listed=true)(ho:ops[i]?=some o)(hg:o.guard=none)(hd:o.dst=some k)(hk:aU k N=true)(hs:stillG o.op=true)(hv:∀(G:zk) (a:Act) (w:yp),Fr N (denE G E) a->(execOp a.eval o).run P w = .ok (.value (v.den G)) w)
 (hn:pS P b Q N ops Inv p Fin fuel (listed.setIfInBounds i true) ⟨(k,v)::E,L,R,F,M⟩):pS P b Q N ops Inv p Fin (fuel+1) listed ⟨E,L,R,F,M⟩:=λhcs a w hst hI=>by
 obtain⟨G,S,h1,h2,h3⟩:=hst;simp only [frontP,aN] at hc;obtain⟨⟨⟨hin,hr⟩,hfr⟩,hsel⟩:=hc
 have hr':i∈a9 .any ops listed:=by simpa using hr
 have h6:=hn (hcs.set hr') (a.put (some k) (v.den G)) w ⟨G,S,h1.put hk _,h2.cons hvo,h3⟩ hI;refine P_first hin ho hs (eN hsel) panic_putP fuel listed a w hI hcs (iT ho hfr) hr' (v:=v.den G) (.inl ⟨by simp [aQ,hg],λw' _=>?_⟩) (by rw [hd];exact h6)
 unfold atB
 rw [hv G a w' h1];exact⟨rfl,rfl⟩
def p_step{o:yk}(i:Nat)(hr:a9 .any ops listed=[i])(ho:ops[i]?=some o)(h:∀K:zw,(∀e',(∀a w,St b N e' a w->Inv w)->pS P b Q N ops Inv p Fin fuel (listed.setIfInBounds i true) e'->kS b K N e')->lS P b ops (Exit.then K (NoPanic Q)) N [o] e):pS P b Q N ops Inv p Fin (fuel+1) listed e:=λhcs a w hst _ =>
 ⟨by rw [hr];simp,λj hj=>by rw [hr,aD] at hj;subst hj;have hcs':=hcs.set (i:=j) (by rw [hr];simp);exact wpOp_of_list ho (h (λa' w'=>Inv w'/\wpAnyP P ops (NoPanic Q) Inv p Fin fuel (listed.setIfInBounds j true) a' w') (λe' hI' ha a' w' hs'=>⟨hI' a' w' hs',ha hcs' a' w' hs' (hI' a' w' hs')⟩) a w hst)⟩
def p_step2{o o':yk}(i i':Nat)(hr:a9 .any ops listed=[i,i'])(ho:ops[i]?=some o)(ho':ops[i']?=some o')
 (h:∀K:zw,(∀e',(∀a w,St b N e' a w->Inv w)->pS P b Q N ops Inv p Fin fuel (listed.setIfInBounds i true) e'->kS b K N e')->lS P b ops (Exit.then K (NoPanic Q)) N [o] e)
 (h':∀K:zw,(∀e',(∀a w,St b N e' a w->Inv w)->pS P b Q N ops Inv p Fin fuel (listed.setIfInBounds i' true) e'->kS b K N e')->lS P b ops (Exit.then K (NoPanic Q)) N [o'] e):pS P b Q N ops Inv p Fin (fuel+1) listed e:=λhcs a w hst _ =>
 ⟨by rw [hr];simp,λj hj=>by
  rw [hr] at hj;have key:∀(i:Nat) (o:yk),i∈a9 .any ops listed->ops[i]?=some o->(∀K:zw,(∀e',(∀a w,St b N e' a w->Inv w)->pS P b Q N ops Inv p Fin fuel (listed.setIfInBounds i true) e'->kS b K N e')->lS P b ops (Exit.then K (NoPanic Q)) N [o] e)->wpOp P ops (NoPanic Q) i (λa' w'=>Inv w'/\wpAnyP P ops (NoPanic Q) Inv p Fin fuel (listed.setIfInBounds i true) a' w') a w:=λi o hi ho h =>
   wpOp_of_list ho (h (λa' w'=>Inv w'/\wpAnyP P ops (NoPanic Q) Inv p Fin fuel (listed.setIfInBounds i true) a' w') (λe' hI' ha a' w' hs'=>⟨hI' a' w' hs',ha (hcs.set hi) a' w' hs' (hI' a' w' hs')⟩) a w hst)
  rcases aH.1 hj with rfl|hj
  .exact key _ o (by rw [hr];simp) ho h
  .rw [aD] at hj;subst hj;exact key _ o' (by rw [hr];simp) ho' h'⟩
def p_frontI{o:yk}{k:Nat}(v:SV)(hvo:v.Ok)(i:Nat)(hc:frontP ops p i listed=true)(ho:ops[i]?=some o)(hg:o.guard=none)(hd:o.dst=some k)(hk:aU k N=true)(hs:stillG o.op=true)(hv:∀(G:zk) (a:Act) (w:yp),Fr N (denE G E) a->Inv w->(execOp a.eval o).run P w = .ok (.value (v.den G)) w)
 (hn:pS P b Q N ops Inv p Fin fuel (listed.setIfInBounds i true) ⟨(k,v)::E,L,R,F,M⟩):pS P b Q N ops Inv p Fin (fuel+1) listed ⟨E,L,R,F,M⟩:=λhcs a w hst hI=>by
 obtain⟨G,S,h1,h2,h3⟩:=hst;simp only [frontP,aN] at hc;obtain⟨⟨⟨hin,hr⟩,hfr⟩,hsel⟩:=hc
 have hr':i∈a9 .any ops listed:=by simpa using hr
 have h6:=hn (hcs.set hr') (a.put (some k) (v.den G)) w ⟨G,S,h1.put hk _,h2.cons hvo,h3⟩ hI;refine P_first hin ho hs (eN hsel) panic_putP fuel listed a w hI hcs (iT ho hfr) hr' (v:=v.den G) (.inl ⟨by simp [aQ,hg],λw' hw'=>?_⟩) (by rw [hd];exact h6)
 unfold atB
 rw [hv G a w' h1 hw'];exact⟨rfl,rfl⟩
def p_frontS{o:yk}{k:Nat}{v:SV}(hT:OkT P T)(i:Nat)(hc:frontP ops p i listed=true)(ho:ops[i]?=some o)(hg:o.guard=none)(hd:o.dst=some k)(hk:aU k N=true)(hs:stillG o.op=true)(hv:stepS T E L0 o.op=some v)(hsub:∀x∈L0,x∈L)(hI:∀w,Inv w->InvL L0 w)
 (hn:pS P b Q N ops Inv p Fin fuel (listed.setIfInBounds i true) ⟨(k,v)::E,L,R,F,M⟩):pS P b Q N ops Inv p Fin (fuel+1) listed ⟨E,L,R,F,M⟩:=λhcs a w hst hI0=>by
 obtain⟨G,S,h1,h2,h3⟩:=hst;simp only [frontP,aN] at hc;obtain⟨⟨⟨hin,hr⟩,hfr⟩,hsel⟩:=hc
 have hr':i∈a9 .any ops listed:=by simpa using hr
 obtain⟨h4,h5⟩:=stepS_ok hT h2 (λx hx=>(h3.var x (hsub x hx)).2.1) hv;have h6:=hn (hcs.set hr') (a.put (some k) (v.den G)) w ⟨G,S,h1.put hk _,h2.cons h4,h3⟩ hI0;refine P_first hin ho hs (eN hsel) panic_putP fuel listed a w hI0 hcs (iT ho hfr) hr' (v:=v.den G) (.inl ⟨by simp [aQ,hg],λw' hw'=>?_⟩) (by rw [hd];exact h6)
 unfold atB
 rw [h5 h1 λx hx=>by obtain⟨g,e1,e2⟩:=hI w' hw' x hx;rw [(h3.var x (hsub x hx)).2.2 g e1];exact e2]
 exact⟨rfl,rfl⟩
def p_frontA{o:yk}{k:Nat}(v:SV)(hvo:v.Ok)(i:Nat)(hc:frontP ops p i listed=true)(ho:ops[i]?=some o)(hg:o.guard=none)(hd:o.dst=some k)(hk:aU k N=true)(hs:stillG o.op=true)(hsub:∀x∈L0,x∈L)(hI:∀w,Inv w->InvL L0 w)
 (hv:∀(G:zk) (a:Act) (w:yp),Fr N (denE G E) a->LAt G L0 w->(execOp a.eval o).run P w = .ok (.value (v.den G)) w)
 (hn:pS P b Q N ops Inv p Fin fuel (listed.setIfInBounds i true) ⟨(k,v)::E,L,R,F,M⟩):pS P b Q N ops Inv p Fin (fuel+1) listed ⟨E,L,R,F,M⟩:=λhcs a w hst hI0=>by
 obtain⟨G,S,h1,h2,h3⟩:=hst;simp only [frontP,aN] at hc;obtain⟨⟨⟨hin,hr⟩,hfr⟩,hsel⟩:=hc
 have hr':i∈a9 .any ops listed:=by simpa using hr
 have h6:=hn (hcs.set hr') (a.put (some k) (v.den G)) w ⟨G,S,h1.put hk _,h2.cons hvo,h3⟩ hI0;refine P_first hin ho hs (eN hsel) panic_putP fuel listed a w hI0 hcs (iT ho hfr) hr' (v:=v.den G) (.inl ⟨by simp [aQ,hg],λw' hw'=>?_⟩) (by rw [hd];exact h6)
 unfold atB
 rw [hv G a w' h1 λx hx=>by obtain⟨g,e1,e2⟩:=hI w' hw' x hx;rw [(h3.var x (hsub x hx)).2.2 g e1];exact e2]
 exact⟨rfl,rfl⟩
def runO_ldL{o:yk}{t:TypeId}{x:Operand}{j off:Nat}{d:TypeDesc}{ps:zb}(v:Value)(ho:o.op = .load t x)(hx:evS E x=some (.a j off))(hl:lookL L0 j=some ps)(hv:(catP ps)[off]?=some v)(hu:P.underlying t=some d)(hr:d.isRow=false) :
  ∀(G:zk) (a:Act) (w:yp),Fr N (denE G E) a->LAt G L0 w->(execOp a.eval o).run P w = .ok (.value ((SV.v v).den G)) w:=λG a w ha hw=>by
 have h1:a.eval x = .pointer (some ⟨G j,off,none⟩):=ha.eval (evS_ok hx);obtain⟨u,hu2,rfl,hps⟩:=lookL_mem hl;have h2:=(hw u hu2).cell off;rw [hps,hv] at h2;have h3:=run_load_cell hu hr h2
 unfold execOp
 simp only [ho,h1,aG,h3,aC,aI]
 rfl
def p_ldO{o:yk}{k:Nat}{t ty:TypeId}{x:Operand}{g off:Nat}{ps:zb}{q:SQ}(hT:OkT P T)(i:Nat)(hc:frontP ops p i listed=true)(ho:ops[i]?=some o)(hg:o.guard=none)(hd:o.dst=some k)(hk:aU k N=true)(hop:o.op = .load t x)(hx:evS E x=some (.v (.pointer (some ⟨g,off,none⟩))))(hl:loadS T ps t off=some q)(hok:OkP ps)(hI:∀w,Inv w->ObjF g ty ps w)
 (hn:pS P b Q N ops Inv p Fin fuel (listed.setIfInBounds i true) ⟨(k,.q q)::E,L,R,F,M⟩):pS P b Q N ops Inv p Fin (fuel+1) listed ⟨E,L,R,F,M⟩ :=
 p_frontI (.q q) (loadS_at hT hok hl).1 i hc ho hg hd hk (by rw [hop];rfl) (λ_ _ w ha hw=>(load_obj hT hop hx hl ha (hI w hw)).2) hn
def inv_two{E':SE}{L':ze}{R':zd}{F' M':zv}{p:zv}(hsub:∀x∈L0,x∈L'/\x.g.isSome=true)(hp:∀w,F' w->M' w->p w):∀a w,St b N ⟨E',L',R',F',M'⟩ a w->InvL L0 w/\p w:=λa w hst=>by
 refine⟨?_,?_⟩
 .obtain⟨G,S,_,_,h3⟩:=hst;intro x hx;obtain⟨h1,h2⟩:=hsub x hx;obtain⟨g,hg⟩:=Option.isSome_iff_exists.1 h2;have h4:=h3.var x h1;refine⟨g,hg,?_⟩;rw [<-h4.2.2 g hg];exact h4.1
 .obtain⟨G,S,_,_,h3⟩:=hst;exact hp w h3.view.fact h3.view.fresh
def forcedJ(ops:zp):zj->zn->Bool
  | [],listed=>(a9 .any ops listed).isEmpty
  | k::ks,listed=>decide (a9 .any ops listed=[k])&&forcedJ ops ks (listed.setIfInBounds k true)
def opsJ(l:zo):zj->zo
  | []=>[]
  | k::ks=>match l[k]? with
    | some o=>o::opsJ l ks
    | none=>[]
theorem wpAny_forcedJ{l:zo}:∀(ks:zj) (listed:zn) (a:Act) (w:yp),(∀k∈ks,k<l.length)->forcedJ l.toArray ks listed=true ->
  wpList P l.toArray Q (opsJ l ks) a w->wpAny P .any l.toArray Q ks.length listed a w
 | [],_,_,_,_,hB,h=>⟨by simpa [forcedJ] using hB,h⟩
 | k::ks,listed,a,w,hl,hB,h=>by
  obtain⟨o,ho⟩:∃o,l[k]?=some o:=⟨_,aJ (hl k aM)⟩;have h0:l.toArray[k]?=some o:=by simpa using ho
  simp only [forcedJ,aN,decide_eq_true_eq] at hB;obtain⟨hr,hB'⟩:=hB;unfold opsJ at h;rw [ho] at h;dsimp only at h;refine⟨λe=>(by rw [hr] at e;cases e),λi hi=>?_⟩;rw [hr,aD] at hi;subst hi;have hl':∀j∈ks,j<l.length:=λj hj=>hl j (aK _ hj);unfold wpOp;simp only [h0];unfold wpList at h;split
  .rename_i hw;simp only [hw,if_true] at h;exact h.imp (Oper.wp_mono λa' w' h'=>wpAny_forcedJ ks _ a' w' hl' hB' h') id
  .rename_i hw;simp only [hw] at h;exact wpAny_forcedJ ks _ _ _ hl' hB' (by simpa using h)
def memJ(ks:zj)(i:Nat):Bool:=ks.any λk=>Nat.beq k i
def p_tail{ks:zj}(js:zj){l l':zo}(hB:((a9 .any l.toArray listed).all (λj=>ks.all λi=>waitsT .any l.toArray l.toArray.size j i)&&js.all (λk=>decide (k<l.length))&&forcedJ l.toArray js listed)=true)(hl:opsJ l js=l')(h:lS P b l.toArray (NoPanic Q) N l' e) :
  pS P b Q N l.toArray Inv (memJ ks) (FinA P l.toArray (NoPanic Q) js.length) 0 listed e:=λ_ a w hst _=>by
 subst hl;simp only [aN,List.all_eq_true,decide_eq_true_eq] at hB;refine⟨λj hj i hi=>?_,wpAny_forcedJ js listed a w hB.1.2 hB.2 (h a w hst)⟩;obtain⟨k,hk,e⟩:=List.any_eq_true.1 hi;obtain rfl:=Nat.eq_of_beq_eq_true e;exact hB.1.1 j hj k hk
def s_anyP{l:zo}{id:Nat}(ks:zj)(n m:Nat)(Inv:zv)(hm:P.follows .mixedOrders=true)(hn:m+n=l.length)(h0:∀a w,St b N e a w->Inv w)(h:pS P b Q N l.toArray Inv (memJ ks) (FinA P l.toArray (NoPanic Q) m) n (Array.replicate l.toArray.size false) e):cS P b (.region id l.toArray true) Q N e:=λa w hst=>by
 refine wp_region_noPanic (wp_region_any hm ?_);obtain⟨G,S,h1,h2,h3⟩:=hst;have hd:St b N e a w.drew:=⟨G,S,h1,h2,h3.drew⟩;have h4:=wpAny_of_P n _ a w.drew (h (Closed.none _) a w.drew hd (h0 a _ hd));have e1:m+n=l.toArray.size:=by simpa using hn
 rw [e1] at h4;exact h4
end
end Go.Proofs.Q
namespace Go.Proofs.Q
open Go.RowKit Go.IntWalk Nums
def Us_oneA(l:zj):∀v∈(Us l).toArray.toList,v.oneCell'=true:=λv hv=>Us_one l v (by simpa using hv)
def us_size{l:zj}{n:Nat}(h:l.length=n):(Us l).toArray.size=n:=by rw [aW,Us_len,h]
def eb_zero:EB [0,0,0,0,0] 0:=EB.mk5 (by omega) (by omega) (by omega) (by omega) (by omega) lU
def zl:zj:=[0,0,0,0,0]
abbrev eE(l:zj):SQ:=.p [.agg 5 (Us l).toArray]
def eE_p{l:zj}(h:l.length=5):OkP [.agg 5 (Us l).toArray]:=λq hq=>by rw [aD.1 hq];exact⟨us_size h,Us_oneA l⟩
abbrev elP(v:Nums.F):Post {r:zj // EB r v}:={ ret:=λr=>.q (eE r.1) }
def Spec.el{f:FuncId}{args:zq}{F:zv}{v:Nums.F}(h:∀w,F w->Calls prog f args.toArray w λe w'=>∃r,EB r v/\e = .returned (.agg (Us r).toArray)/\Below w.heap.size w w'):Spec f args [] F (elP v):=λw S _ hS _ hF =>
 (h w hF.now).mono λ_ _ ⟨r,hr,he,hb⟩=>⟨⟨r,hr⟩,S,he,eE_p hr.len,Chg.of_up hb,hS.keep λk hk=>hb.block k (hS.lt k hk),λ_ h _=>h,λ_ _=>trivial, zU⟩
instance:Pst Tw:=⟨λ_ _ h hb=>h.below hb⟩
section
variable{b:Base}{fn:Func}{N:Nat}{E:SE}{L:ze}{F M:zv}{rs:List ResultVar}
def k_el{v:Nums.F}(r:zj)(hv:EB r v)(hr:fn.results=rs.toArray)(hs:rs.length<=3)(h:resS TY E L rs=some [eE r]):kS b (bodyPost prog fn (endS b (elP v)) .ret) N ⟨E,L,[],F,M⟩:=zR zY ⟨r,hv⟩ hr hs h rfl rfl (λ_ _ _=>trivial) λ_ _=>trivial
end
def arr5:Arr 245 5:=⟨_,underlying245,by kernel_rfl⟩
def carried_C{F:zv}(a0 a1 a2 a3 a4:Nat)(h0:a0<18446744073709551616)(h1:a1<18446744073709551616)(h2:a2<18446744073709551616)(h3:a3<18446744073709551616)(h4:a4<18446744073709551616):Ct F 226 [eE [a0,a1,a2,a3,a4]] (one (.q (eE (crd a0 a1 a2 a3 a4)))):=⟨own_carried,Spec.pure (eE_p rfl) λw _=>carried_f a0 a1 a2 a3 a4 h0 h1 h2 h3 h4 w⟩
abbrev eM(s:Nat):SQ:=.p [.agg 2 (W2 s)]
abbrev eJ(n:Nat):SQ:=.c (.v (.int .u64 ((n:Nat):Int)))
def eM_ok(s:Nat):OkP [.agg 2 (W2 s)]:=λq hq=>by rw [aD.1 hq];exact⟨W2_size s,λv hv=>W2_one s v hv⟩
section
variable{b:Base}{Q:zx}{N:Nat}{E:SE}{L:ze}{R:zd}{F M:zv}{y:Code}
def s_ps(j:Nat){ps:zb}(ps':zb)(hl:lookL L j=some ps)(he:catP ps'=catP ps)(hok:OkP ps')(hn:cS prog b y Q N ⟨E,putL L j ps',R,F,M⟩):cS prog b y Q N ⟨E,L,R,F,M⟩:=λa w ⟨G,S,g1,g2,g3⟩=>by obtain⟨u,hu,rfl,hps⟩:=lookL_mem hl;have hb:=g3.at u hu;have h:=g3.set (lookL_name hl) hok;rw [he,<-hps,setRow_self w (G u.j) _ u.t (0,0) hb] at h;exact hn a w ⟨G,S,g1,g2,h⟩
end
section
variable{F:zv}
def eplus_C{s a b:Nat}(ha:a<18446744073709551616)(hb:b<18446744073709551616)(hs:s+a*b<340282366920938463463374607431768211456):Ct F 223 [eM s,eJ a,eJ b] (one (.q (eM (s+a*b)))):=⟨λ_ _=>by go_simp,Spec.pure (eM_ok _) λw _=>plus_f s a b ha hb hs w⟩
def low_C{s:Nat}:Ct F 224 [eM s] (one (.q (eJ ((s%2251799813685248:Nat))))):=⟨own_low,Spec.pure trivial λw _=>low_f s w⟩
def high_C{s:Nat}(hs:s<41538374868278621028243970633760768):Ct F 225 [eM s] (one (.q (eJ (s/2251799813685248:Nat)))):=⟨own_high,Spec.pure trivial λw _=>high_f s hs w⟩
end
def sub1r{x y:LV}{L:ze}:∀z∈[x],z∈y::x::L:=λz hz=>by rw [aD.1 hz];exact .tail _ (.head _)
def inv1r{b:Base}{N:Nat}{E:SE}{x y:LV}{L:ze}{R:zd}{F M:zv}(hx:x.g.isSome=true):∀a w,St b N ⟨E,y::x::L,R,F,M⟩ a w->InvL [x] w:=inv_of λz hz=>⟨sub1r z hz,by rw [aD.1 hz];exact hx⟩
def quoI(a c:Nat)(h:a<9223372036854775808):IntKind.i64.wrap ((a:Int).tdiv (c:Int))=((a/c:Nat):Int):=by have h2:=gM a c;rw [show(a:Int).tdiv (c:Int)=((a/c:Nat):Int) from rfl];generalize a/c=d at *;rw [i64_left,wrap64_in _ (by omega)]
structure MV where
  k:Nat
  c0:Nat
  c1:Nat
  c2:Nat
  c3:Nat
  c4:Nat
  s0:Nat
  s1:Nat
  s2:Nat
  s3:Nat
  s4:Nat
section
variable{F:zv}[Pst F]{a b:zj}{x y:Nums.F}
def mul_C(ha:EB a x)(hb:EB b y):Ct F 184 [eE a,eE b] (elP (x*y)):=⟨own_elmul,by
 obtain⟨b0,b1,b2,b3,b4,rfl,r0,r1,r2,r3,r4,rv⟩:=hb.pM;refine zQ [eE a,eE [b0,b1,b2,b3,b4]] 95 func184 rfl (by rw [ntmps184];rfl) (two_ok (eE_p ha.len) (eE_p rfl)) λB=>?_;refine zA rfl ?_;refine s_locs λG=>?_;refine zM λK hK=>?_;refine s_anyP [0,1,2,3,4,5,6,7,8,9,10,11,12,13,14] 20 0 (InvL [⟨3,some (G 3),247,[.agg 5 (Us [b0,b1,b2,b3,b4]).toArray]⟩]) (by kernel_rfl) rfl (inv1r rfl) ?_;refine p_front zY 0 (by kernel_rfl) rfl rfl rfl rfl rfl rfl sub1r ?_;refine p_frontO (.a 3 (0+1*0)) trivial 1 (by kernel_rfl) rfl rfl rfl rfl rfl (runO_ixA 0 rfl underlying245 rfl rfl rfl (by decide)) ?_;refine p_frontA (.v (.int .u64 (b0:Int))) trivial 2 (by kernel_rfl) rfl rfl rfl rfl rfl sub1r (λ_ h=>h) (runO_ldL _ rfl rfl rfl rfl underlying96 rfl) ?_;refine p_front zY 3 (by kernel_rfl) rfl rfl rfl rfl rfl rfl sub1r ?_;refine p_frontO (.a 3 (0+1*1)) trivial 4 (by kernel_rfl) rfl rfl rfl rfl rfl (runO_ixA 1 rfl underlying245 rfl rfl rfl (by decide)) ?_;refine p_frontA (.v (.int .u64 (b1:Int))) trivial 5 (by kernel_rfl) rfl rfl rfl rfl rfl sub1r (λ_ h=>h) (runO_ldL _ rfl rfl rfl rfl underlying96 rfl) ?_;refine p_front zY 6 (by kernel_rfl) rfl rfl rfl rfl rfl rfl sub1r ?_;refine p_frontO (.a 3 (0+1*2)) trivial 7 (by kernel_rfl) rfl rfl rfl rfl rfl (runO_ixA 2 rfl underlying245 rfl rfl rfl (by decide)) ?_;refine p_frontA (.v (.int .u64 (b2:Int))) trivial 8 (by kernel_rfl) rfl rfl rfl rfl rfl sub1r (λ_ h=>h) (runO_ldL _ rfl rfl rfl rfl underlying96 rfl) ?_;refine p_front zY 9 (by kernel_rfl) rfl rfl rfl rfl rfl rfl sub1r ?_;refine p_frontO (.a 3 (0+1*3)) trivial 10 (by kernel_rfl) rfl rfl rfl rfl rfl (runO_ixA 3 rfl underlying245 rfl rfl rfl (by decide)) ?_;refine p_frontA (.v (.int .u64 (b3:Int))) trivial 11 (by kernel_rfl) rfl rfl rfl rfl rfl sub1r (λ_ h=>h) (runO_ldL _ rfl rfl rfl rfl underlying96 rfl) ?_;refine p_front zY 12 (by kernel_rfl) rfl rfl rfl rfl rfl rfl sub1r ?_;refine p_frontO (.a 3 (0+1*4)) trivial 13 (by kernel_rfl) rfl rfl rfl rfl rfl (runO_ixA 4 rfl underlying245 rfl rfl rfl (by decide)) ?_;refine p_frontA (.v (.int .u64 (b4:Int))) trivial 14 (by kernel_rfl) rfl rfl rfl rfl rfl sub1r (λ_ h=>h) (runO_ldL _ rfl rfl rfl rfl underlying96 rfl) ?_;refine p_step 15 (by kernel_rfl) rfl λK2 hK2=>l_E rfl (hK2 _ (inv1r rfl) ?_);refine p_step 16 (by kernel_rfl) rfl λK2 hK2=>l_E rfl (hK2 _ (inv1r rfl) ?_);refine p_step 17 (by kernel_rfl) rfl λK2 hK2=>l_E rfl (hK2 _ (inv1r rfl) ?_);refine p_step 18 (by kernel_rfl) rfl λK2 hK2=>l_E rfl (hK2 _ (inv1r rfl) ?_);refine p_step 19 (by kernel_rfl) rfl λK2 hK2=>l_E rfl (hK2 _ (inv1r rfl) ?_);refine p_tail [] (by kernel_rfl) rfl (l_E rfl (hK _ ?_));refine zA rfl ?_;refine s_ps 10 [.agg 2 (W2 0)] rfl rfl (eM_ok 0) (s_ps 11 [.agg 2 (W2 0)] rfl rfl (eM_ok 0) (s_ps 12 [.agg 2 (W2 0)] rfl rfl (eM_ok 0) (s_ps 13 [.agg 2 (W2 0)] rfl rfl (eM_ok 0) (s_ps 14 [.agg 2 (W2 0)] rfl rfl (eM_ok 0) (zM λK1 hK1=>zA rfl (zN ?_))))));let V:MV->Env:=λs=>⟨[(32,.v (.int .i64 ((s.k:Nat):Int))),(5,.v (.int .u64 ((s.c0:Nat):Int))),(6,.v (.int .u64 ((s.c1:Nat):Int))),(7,.v (.int .u64 ((s.c2:Nat):Int))),(8,.v (.int .u64 ((s.c3:Nat):Int))),(9,.v (.int .u64 ((s.c4:Nat):Int))),(2,.a 2 0),(4,.a 4 0),(10,.a 10 0),(11,.a 11 0),(12,.a 12 0),(13,.a 13 0),(14,.a 14 0)],[⟨14,none,336,[.agg 2 (W2 s.s4)]⟩,⟨13,none,336,[.agg 2 (W2 s.s3)]⟩,⟨12,none,336,[.agg 2 (W2 s.s2)]⟩,⟨11,none,336,[.agg 2 (W2 s.s1)]⟩,⟨10,none,336,[.agg 2 (W2 s.s0)]⟩,⟨4,some (G 4),247,[.agg 5 (Us [0,0,0,0,0]).toArray]⟩,⟨2,some (G 2),247,[.agg 5 (Us a).toArray]⟩],[],F,λ_=>True⟩;refine c_weak (e':=V ⟨0,b0,b1,b2,b3,b4,0,0,0,0,0⟩) ⟨zE rfl, zL rfl rfl, .refl _,λ_ h _=>h, zU⟩ (s_loop (λs=>5-s.k) V (λs=>s.k<=5/\MM a y s.k s.c0 s.c1 s.c2 s.c3 s.c4 s.s0 s.s1 s.s2 s.s3 s.s4) ?_ ⟨0,b0,b1,b2,b3,b4,0,0,0,0,0⟩ ⟨aL _,MM.start r0 r1 r2 r3 r4 rv⟩);rintro⟨k,c0,c1,c2,c3,c4,s0,s1,s2,s3,s4⟩ ⟨hk,hM⟩;dsimp only at hk hM;refine zA rfl (zM λK2 hK2=>?_);refine zW ((k:Int)<5) rfl (λhlt=>?_) (λhge=>?_)
 .have hlt:k<5:=by omega
  have hN:=hM.next ha hlt;have hv:=eb_get ha hlt;obtain⟨g0,g1,g2,g3,g4,u4,t0,t1,t2,t3,t4⟩:c0<42784196465000448/\c1<42784196465000448/\c2<42784196465000448/\c3<42784196465000448/\c4<42784196465000448/\c4<2251799813947392/\s0<=385365782560107868259994584612864/\s1<=385365782560107868259994584612864/\s2<=385365782560107868259994584612864/\s3<=385365782560107868259994584612864/\s4<=385365782560107868259994584612864:=by obtain⟨_,_,g0,g1,g2,g3,g4,u0,u1,u2,u3,u4,t0,t1,t2,t3,t4⟩:=hM;exact⟨g0,g1,g2,g3,g4,u4 (by omega),by omega,by omega,by omega,by omega,by omega⟩
  have p0:=prod_le hv g0;have p1:=prod_le hv g1;have p2:=prod_le hv g2;have p3:=prod_le hv g3;have p4:=prod_le hv g4;have rd:(catP [.agg 5 (Us a).toArray])[0+k]?=some (.int .u64 ((a[k]! : Nat):Int)):=Us_in (by rw [ha.len];exact hlt);obtain⟨v,hve⟩:∃v,v=a[k]!:=⟨_,rfl⟩;rw [<-hve] at hN hv p0 p1 p2 p3 p4 rd;refine zO (hK2 _ (zM λK3 hK3=>zN (zA rfl (s_reg λK hK=>l_auto2 rfl (l_cell rfl arr5 hlt (.int .u64 (v:Int)) rd (l_N hK rfl ?_))))));refine s_reg λK hK=>l_X (eplus_C (s:=s0) (a:=v) (b:=c0) (by omega) (by omega) (by omega)) (λ_=>rfl) rfl λ_=>l_N hK rfl ?_;refine s_reg λK hK=>l_X (eplus_C (s:=s1) (a:=v) (b:=c1) (by omega) (by omega) (by omega)) (λ_=>rfl) rfl λ_=>l_N hK rfl ?_;refine s_reg λK hK=>l_X (eplus_C (s:=s2) (a:=v) (b:=c2) (by omega) (by omega) (by omega)) (λ_=>rfl) rfl λ_=>l_N hK rfl ?_;refine s_reg λK hK=>l_X (eplus_C (s:=s3) (a:=v) (b:=c3) (by omega) (by omega) (by omega)) (λ_=>rfl) rfl λ_=>l_N hK rfl ?_;refine s_reg λK hK=>l_X (eplus_C (s:=s4) (a:=v) (b:=c4) (by omega) (by omega) (by omega)) (λ_=>rfl) rfl λ_=>l_N hK rfl ?_;refine zD rfl (hK3 _ (zD rfl ?_));exact zX ⟨k+1,19*c4,c0,c1,c2,c3,s0+v*c0,s1+v*c1,s2+v*c2,s3+v*c3,s4+v*c4⟩ ⟨hlt,hN⟩ (by show 5-(k+1)<5-k;omega) ⟨⟨congrArg (λx=>some (SV.v (.int .i64 x))) (addI k 1 (by omega)),congrArg (λx=>some (SV.v (.int .u64 x))) (by show IntKind.u64.wrap (19*(c4:Int))=((19*c4:Nat):Int);rw [bH];omega),rfl,rfl,rfl,rfl,rfl,rfl,rfl,rfl,rfl,rfl,rfl,trivial⟩,zL rfl rfl, .refl _,λ_ h _=>h,λ_ h=>h⟩
 .obtain rfl:k=5:=by omega
  obtain⟨hv,m0,m1,m2,m3,m4,d0,d1,d2,d3,d4⟩:=hM.fin ha;have hE:EB (crd (s0%2251799813685248+19*(s4/2251799813685248)) (s1%2251799813685248+s0/2251799813685248) (s2%2251799813685248+s1/2251799813685248) (s3%2251799813685248+s2/2251799813685248) (s4%2251799813685248+s3/2251799813685248)) (x*y):=by have hE:=tC (a0:=s0%2251799813685248+19*(s4/2251799813685248)) (a1:=s1%2251799813685248+s0/2251799813685248) (a2:=s2%2251799813685248+s1/2251799813685248) (a3:=s3%2251799813685248+s2/2251799813685248) (a4:=s4%2251799813685248+s3/2251799813685248) (by omega) (by omega) (by omega) (by omega) (by omega);have h:fof (lv (crd s0 s1 s2 s3 s4))=x*y:=hv;unfold crd at h;rw [h] at hE;exact hE
  refine s_exit (zS (zS (k_out (hK1 _ ?_))));refine s_N 29 [] (by kernel_rfl) λK hK G S w0 hst=>?_;refine n_X hst (low_C (s:=s0)) rfl λ_=>n_X hst (high_C m4) rfl λ_=>n_X hst (low_C (s:=s1)) rfl λ_=>n_X hst (high_C m0) rfl λ_=>n_X hst (low_C (s:=s2)) rfl λ_=>n_X hst (high_C m1) rfl λ_=>n_X hst (low_C (s:=s3)) rfl λ_=>n_X hst (high_C m2) rfl λ_=>n_X hst (low_C (s:=s4)) rfl λ_=>n_X hst (high_C m3) rfl λ_=>?_;refine n_auto2 hst rfl (n_num 71 ((s0%2251799813685248+19*(s4/2251799813685248):Nat):Int) rfl (by rw [bH,bH];omega) (n_num 76 ((s1%2251799813685248+s0/2251799813685248:Nat):Int) rfl (by rw [bH];omega) (n_num 81 ((s2%2251799813685248+s1/2251799813685248:Nat):Int) rfl (by rw [bH];omega) (n_num 86 ((s3%2251799813685248+s2/2251799813685248:Nat):Int) rfl (by rw [bH];omega) (n_num 91 ((s4%2251799813685248+s3/2251799813685248:Nat):Int) rfl (by rw [bH];omega) ?_)))));refine n_f hst (.q (.p [.agg 5 (Us [s0%2251799813685248+19*(s4/2251799813685248),s1%2251799813685248+s0/2251799813685248,s2%2251799813685248+s1/2251799813685248,s3%2251799813685248+s2/2251799813685248,s4%2251799813685248+s3/2251799813685248]).toArray])) (eE_p rfl) (λC0 Q' _ hQ=>f_build ([s0%2251799813685248+19*(s4/2251799813685248),s1%2251799813685248+s0/2251799813685248,s2%2251799813685248+s1/2251799813685248,s3%2251799813685248+s2/2251799813685248,s4%2251799813685248+s3/2251799813685248].zipIdx.map λx=>(x.2,.int .u64 ((x.1:Nat):Int))) (Us [s0%2251799813685248+19*(s4/2251799813685248),s1%2251799813685248+s0/2251799813685248,s2%2251799813685248+s1/2251799813685248,s3%2251799813685248+s2/2251799813685248,s4%2251799813685248+s3/2251799813685248]).toArray rfl rfl rfl rfl rfl (by kernel_rfl) hQ) ?_;refine n_X hst (carried_C (s0%2251799813685248+19*(s4/2251799813685248)) (s1%2251799813685248+s0/2251799813685248) (s2%2251799813685248+s1/2251799813685248) (s3%2251799813685248+s2/2251799813685248) (s4%2251799813685248+s3/2251799813685248) (by omega) (by omega) (by omega) (by omega) (by omega)) rfl λ_=>n_N hst rfl hK rfl (zP ?_);exact k_el _ hE rfl (by decide) rfl⟩
omit [Pst F] in
def add_C(ha:EB a x)(hb:EB b y):Ct F 191 [eE a,eE b] (elP (x+y)):=⟨own_eladd,by
 refine zQ [eE a,eE b] 23 func191 rfl (by rw [ntmps191];rfl) (two_ok (eE_p ha.len) (eE_p hb.len)) λB=>?_;refine zA rfl (zM λK1 hK1=>zA rfl (zN ?_));let f:zk:=λj=>a[j]! + b[j]!;let V:Nat->Env:=λk=>⟨[(6,.v (.int .i64 ((k:Nat):Int))),(2,.a 2 0),(3,.a 3 0),(4,.a 4 0)],[⟨4,none,247,[.agg 5 (Us [0,0,0,0,0]).toArray]⟩,⟨3,none,247,[.agg 5 (Us b).toArray]⟩,⟨2,none,247,[.agg 5 (Us (mx f a k)).toArray]⟩],[],F,λ_=>True⟩;have eL:(some ⟨2,none,247,[.agg 5 (Us a).toArray]⟩:Option LV)=some ⟨2,none,247,[.agg 5 (Us (mx f a 0)).toArray]⟩:=by rw [mx_zero _ ha.len]
 refine c_weak (e':=V 0) ⟨zE rfl, ⟨rfl,rfl,rfl,rfl,eL,rfl,trivial⟩,.refl _,λ_ h _=>h, zU⟩ (s_loop (λk=>5-k) V (λk=>k<=5) ?_ 0 (aL _));intro k hk;refine zA rfl (zM λK2 hK2=>?_);refine zW ((k:Int)<5) rfl (λhlt=>?_) (λhge=>?_)
 .have hlt:k<5:=by omega
  have ra:(catP [.agg 5 (Us (mx f a k)).toArray])[0+k]?=some (.int .u64 ((a[k]! : Nat):Int)):=(Us_in (by rw [mx_len];exact hlt)).trans (by rw [mx_get _ _ hlt]);have rb:(catP [.agg 5 (Us b).toArray])[0+k]?=some (.int .u64 ((b[k]! : Nat):Int)):=Us_in (by rw [hb.len];exact hlt);have b0:=eb_get ha hlt;have b1:=eb_get hb hlt;refine zO (hK2 _ (zM λK3 hK3=>zN (zA rfl ?_)));refine s_drawnN 10 (by kernel_rfl) λG S w0 hst=>?_;refine n_auto2 hst rfl (n_cell hst rfl arr5 hlt (.int .u64 ((a[k]! : Nat):Int)) ra (n_auto2 hst rfl (n_cell hst rfl arr5 hlt (.int .u64 ((b[k]! : Nat):Int)) rb ?_)));refine n_auto2 hst rfl (n_num 17 ((f k:Nat):Int) rfl (by show _=((a[k]! + b[k]! : Nat):Int);rw [bH];omega) (n_L hst rfl ?_));refine l_put rfl arr5 hlt [.agg 5 (Us (mx f a (k+1))).toArray] (eE_p (mx_len _ _ _)) ?_ ?_ (zJ (hK3 _ ?_))
  .show 0+k<(Us (mx f a k)).toArray.size;rw [aW,Us_len,mx_len];omega
  .show Us (mx f a (k+1))=(Us (mx f a k)).set (0+k) (.int .u64 ((f k:Nat):Int));rw [aY,Us,Us,<-mx_set,dR]
  refine zD rfl ?_;exact zX (k+1) hlt (by show 5-(k+1)<5-k;omega) ⟨⟨congrArg (λx=>some (SV.v (.int .i64 x))) (addI k 1 (by omega)),rfl,rfl,rfl,trivial⟩,zL rfl rfl, .refl _,λ_ h _=>h,λ_ h=>h⟩
 .obtain rfl:k=5:=by omega
  obtain⟨a0,a1,a2,a3,a4,rfl,p0,p1,p2,p3,p4,pv⟩:=ha.pM;obtain⟨b0,b1,b2,b3,b4,rfl,r0,r1,r2,r3,r4,rv⟩:=hb.pM;have hE:=tC (a0:=a0+b0) (a1:=a1+b1) (a2:=a2+b2) (a3:=a3+b3) (a4:=a4+b4) (by omega) (by omega) (by omega) (by omega) (by omega);rw [x9,kL,pv,rv] at hE;refine s_exit (zS (zS (k_out (hK1 _ ?_))));refine s_reg λK hK=>l_X (carried_C (a0+b0) (a1+b1) (a2+b2) (a3+b3) (a4+b4) (by omega) (by omega) (by omega) (by omega) (by omega)) (λ_=>rfl) rfl λ_=>l_N hK rfl (zP ?_);exact k_el _ hE rfl (by decide) rfl⟩
def sub_C(ha:EB a x)(hb:EB b y):Ct Tw 189 [eE a,eE b] (elP (x-y)):=⟨own_elsub,by
 refine zQ [eE a,eE b] 27 func189 rfl (by rw [ntmps189];rfl) (two_ok (eE_p ha.len) (eE_p hb.len)) λB=>?_;refine zA rfl (zM λK1 hK1=>zA rfl (zN ?_));let f:zk:=λj=>a[j]! + (twl[j]! - b[j]!);let V:Nat->Env:=λk=>⟨[(6,.v (.int .i64 ((k:Nat):Int))),(2,.a 2 0),(3,.a 3 0),(4,.a 4 0)],[⟨4,none,247,[.agg 5 (Us [0,0,0,0,0]).toArray]⟩,⟨3,none,247,[.agg 5 (Us b).toArray]⟩,⟨2,none,247,[.agg 5 (Us (mx f a k)).toArray]⟩],[],Tw,λ_=>True⟩;have eL:(some ⟨2,none,247,[.agg 5 (Us a).toArray]⟩:Option LV)=some ⟨2,none,247,[.agg 5 (Us (mx f a 0)).toArray]⟩:=by rw [mx_zero _ ha.len]
 refine c_weak (e':=V 0) ⟨zE rfl, ⟨rfl,rfl,rfl,rfl,eL,rfl,trivial⟩,.refl _,λ_ h _=>h, zU⟩ (s_loop (λk=>5-k) V (λk=>k<=5) ?_ 0 (aL _));intro k hk;refine zA rfl (zM λK2 hK2=>?_);refine zW ((k:Int)<5) rfl (λhlt=>?_) (λhge=>?_)
 .have hlt:k<5:=by omega
  have ra:(catP [.agg 5 (Us (mx f a k)).toArray])[0+k]?=some (.int .u64 ((a[k]! : Nat):Int)):=(Us_in (by rw [mx_len];exact hlt)).trans (by rw [mx_get _ _ hlt]);have rb:(catP [.agg 5 (Us b).toArray])[0+k]?=some (.int .u64 ((b[k]! : Nat):Int)):=Us_in (by rw [hb.len];exact hlt);have b0:=eb_get ha hlt;have b1:=eb_get hb hlt;have b2:=twl_get hlt;refine zO (hK2 _ (zM λK3 hK3=>zN (zA rfl ?_)));refine s_drawnN 14 (by kernel_rfl) λG S w0 hst=>?_;refine n_auto2 hst rfl (n_cell hst rfl arr5 hlt (.int .u64 ((a[k]! : Nat):Int)) ra (n_auto2 hst rfl (n_tab hst rfl rfl rfl rfl arr5 hlt underlying96 rfl (λw h=>h.at hlt) (n_auto2 hst rfl (n_cell hst rfl arr5 hlt (.int .u64 ((b[k]! : Nat):Int)) rb ?_)))));refine n_auto2 hst rfl (n_num 21 ((f k:Nat):Int) rfl (by show _=((a[k]! + (twl[k]! - b[k]!):Nat):Int);rw [bH,bH];omega) (n_L hst rfl ?_));refine l_put rfl arr5 hlt [.agg 5 (Us (mx f a (k+1))).toArray] (eE_p (mx_len _ _ _)) ?_ ?_ (zJ (hK3 _ ?_))
  .show 0+k<(Us (mx f a k)).toArray.size;rw [aW,Us_len,mx_len];omega
  .show Us (mx f a (k+1))=(Us (mx f a k)).set (0+k) (.int .u64 ((f k:Nat):Int));rw [aY,Us,Us,<-mx_set,dR]
  refine zD rfl ?_;exact zX (k+1) hlt (by show 5-(k+1)<5-k;omega) ⟨⟨congrArg (λx=>some (SV.v (.int .i64 x))) (addI k 1 (by omega)),rfl,rfl,rfl,trivial⟩,zL rfl rfl, .refl _,λ_ h _=>h,λ_ h=>h⟩
 .obtain rfl:k=5:=by omega
  obtain⟨a0,a1,a2,a3,a4,rfl,p0,p1,p2,p3,p4,pv⟩:=ha.pM;obtain⟨b0,b1,b2,b3,b4,rfl,r0,r1,r2,r3,r4,rv⟩:=hb.pM;have hE:=tC (a0:=a0+(4503599627370458-b0)) (a1:=a1+(4503599627370494-b1)) (a2:=a2+(4503599627370494-b2)) (a3:=a3+(4503599627370494-b3)) (a4:=a4+(4503599627370494-b4)) (by omega) (by omega) (by omega) (by omega) (by omega);rw [xS r0 r1 r2 r3 r4,pv,rv] at hE;refine s_exit (zS (zS (k_out (hK1 _ ?_))));refine s_reg λK hK=>l_X (carried_C (a0+(4503599627370458-b0)) (a1+(4503599627370494-b1)) (a2+(4503599627370494-b2)) (a3+(4503599627370494-b3)) (a4+(4503599627370494-b4)) (by omega) (by omega) (by omega) (by omega) (by omega)) (λ_=>rfl) rfl λ_=>l_N hK rfl (zP ?_);exact k_el _ hE rfl (by decide) rfl⟩
omit [Pst F] in
def ewhole_C(ha:EB a x):Ct F 227 [eE a] (one (.q (eE (whole a)))):=⟨own_whole,Spec.pure (eE_p (iQ ha).1) λw _=>whole_f ha w⟩
omit [Pst F] in
def hash_C(ha:EB a x):Ct F 185 [eE a] (one (.q (eY 32 (enc x)))):=⟨own_hash,by
 obtain⟨hl,hb,hL⟩:=iQ ha;have hbl:(enc x).length=32:=iL x;have hby:∀k,k<4->∀j,j<8->((enc x)[8*k+j]!).toNat=wd (lv (whole a)) k/2^(8*j)%256:=λk hk j hj=>by rw [wd_byte _ _ _ hj,hL];exact bytes_get 32 x.val (by omega)
 have hC:=ewhole_C (F:=F) ha;generalize enc x=e at *;generalize whole a=l at *;have fok:∀n,OkP [.agg 32 (By (fb e n)).toArray]:=λn=>(eY_ok (fb_len e n)).1;refine zQ [eE a] 51 func185 rfl (by rw [ntmps185];rfl) (one_ok (eE_p ha.len)) λB=>?_;refine zA rfl (s_reg λK hK=>l_X hC (λ_=>rfl) rfl λ_=>l_N hK rfl (zA rfl (zM λK1 hK1=>zA rfl (zN ?_))));let W:SE->Nat->Env:=λE n=>⟨E++[(2,.a 2 0),(3,.a 3 0),(4,.a 4 0)],[⟨4,none,47,[.agg 32 (By (fb e n)).toArray]⟩,⟨3,none,247,[.agg 5 (Us l).toArray]⟩,⟨2,none,47,[.agg 32 (By (aB 32 0)).toArray]⟩],[],F,λ_=>True⟩;let V:Nat->Env:=λk=>W [(11,.v (.int .i64 ((k:Nat):Int)))] (8*k);have eL:(some ⟨4,none,47,[.agg 32 (By (aB 32 0)).toArray]⟩:Option LV)=some ⟨4,none,47,[.agg 32 (By (fb e (8*0))).toArray]⟩:=by rw [fb_zero]
 refine c_weak (e':=V 0) ⟨zE rfl, ⟨eL,rfl,rfl,rfl,rfl,rfl,trivial⟩,.refl _,λ_ h _=>h, zU⟩ (s_loop (λk=>4-k) V (λk=>k<=4) ?_ 0 (aL _));intro k hk;refine zA rfl (zM λK2 hK2=>?_);refine zW ((k:Int)<4) rfl (λhlt=>?_) (λhge=>?_)
 .have hlt:k<4:=by omega
  have hwd:=wd_limbs hl hb hlt;have hW:=hby k hlt;have q:∀i,i<5->(catP [.agg 5 (Us l).toArray])[0+i]?=some (.int .u64 ((l[i]! : Nat):Int)):=λi hi=>Us_in (by rw [hl];exact hi);have r1:=q (64*k/51) (by omega);have r2:=q (64*k/51+1) (by omega);have hr:64*k%51<=51:=by omega
  obtain⟨wk,hwk⟩:∃wk,wk=wd (lv l) k:=⟨_,rfl⟩;rw [<-hwk] at hwd hW;refine zO (hK2 _ (zM λK3 hK3=>zN (zA rfl ?_)));refine s_reg λK hK=>l_auto2 rfl (l_num 6 ((64*k:Nat):Int) rfl (mulI 64 k (by omega)) (zJ (hK _ ?_)));refine s_N 19 [] (by kernel_rfl) λK hK G S w0 hst=>?_;refine n_auto2 hst rfl (n_num 17 ((64*k/51:Nat):Int) rfl (quoI (64*k) 51 (by omega)) (n_cell hst rfl arr5 (by show 64*k/51<5;omega) _ r1 ?_));refine n_auto2 hst rfl (n_num 26 ((64*k/51+1:Nat):Int) rfl ((congrArg (λx=>IntKind.i64.wrap (x+1)) (quoI (64*k) 51 (by omega))).trans (addI _ 1 (by omega))) (n_cell hst rfl arr5 (by show 64*k/51+1<5;omega) _ r2 ?_));refine n_auto zY hst rfl (n_num 32 ((51-64*k%51:Nat):Int) rfl (subI 51 (64*k%51) hr (by omega)) ?_);refine n_auto2 hst rfl (n_num 34 ((wk:Nat):Int) rfl (by rw [kw64.shr (64*k%51) (bM hr (by decide)),cA (by show 51-64*k%51<=64;omega),<-hwd,Int.natCast_ediv,Int.natCast_pow];rfl) (n_N hst rfl hK rfl ?_));refine zA rfl (zN ?_);let V2:Nat->Env:=λj=>W [(35,.v (.int .i64 ((j:Nat):Int))),(11,.v (.int .i64 ((k:Nat):Int))),(5,.v (.int .i64 ((k:Nat):Int))),(7,.v (.int .u64 ((wk:Nat):Int)))] (8*k+j);refine c_weak (e':=V2 0) ⟨zE rfl, zL rfl rfl, .refl _,λ_ h _=>h,λ_ h=>h⟩ (s_loop (λj=>8-j) V2 (λj=>j<=8) ?_ 0 (aL _));intro j hj;refine zA rfl (zM λK4 hK4=>?_);refine zW ((j:Int)<8) rfl (λhlj=>?_) (λhge=>?_)
  .have hlj:j<8:=by omega
   have hbj:=hW j hlj;refine zO (hK4 _ (zM λK5 hK5=>zN (zA rfl ?_)));refine s_lit (zB rfl (l_num 44 ((8*j:Nat):Int) rfl (mulI 8 j (by omega)) ?_));refine l_auto2 rfl (l_num 41 ((8*k+j:Nat):Int) rfl ((congrArg (λx=>IntKind.i64.wrap (x+(j:Int))) (mulI 8 k (by omega))).trans (addI _ j (by omega))) ?_);refine l_num 46 (((e[8*k+j]!).toNat:Nat):Int) rfl (by rw [kw64.shr (8*j) (by omega),IntKind.wrap_u8',hbj];omega) ?_;refine l_put rfl arr32 (by show 8*k+j<32;omega) [.agg 32 (By (fb e (8*k+(j+1)))).toArray] (fok _) ?_ ?_ (l_E rfl (hK5 _ ?_))
   .show 0+(8*k+j)<(By (fb e (8*k+j))).toArray.size;rw [aW,By_len,fb_len];omega
   .show By (fb e (8*k+j+1))=(By (fb e (8*k+j))).set (0+(8*k+j)) (.int .u8 ((e[8*k+j]!).toNat:Int));rw [aY,By,By,<-fb_set,dR]
   refine zD rfl ?_;exact zX (j+1) hlj (by show 8-(j+1)<8-j;omega) ⟨⟨congrArg (λx=>some (SV.v (.int .i64 x))) (addI j 1 (by omega)),rfl,rfl,rfl,rfl,rfl,rfl,trivial⟩,zL rfl rfl, .refl _,λ_ h _=>h,λ_ h=>h⟩
  .obtain rfl:j=8:=by omega
   refine s_exit (zS (zS (k_out (hK3 _ (zD rfl ?_)))));exact zX (k+1) hlt (by show 4-(k+1)<4-k;omega) ⟨⟨congrArg (λx=>some (SV.v (.int .i64 x))) (addI k 1 (by omega)),rfl,rfl,rfl,trivial⟩,zL rfl rfl, .refl _,λ_ h _=>h,λ_ h=>h⟩
 .obtain rfl:k=4:=by omega
  have eL2:(some ⟨4,none,47,[.agg 32 (By (fb e (8*4))).toArray]⟩:Option LV)=some ⟨4,none,47,[.agg 32 (By e).toArray]⟩:=by rw [show 8*4=32 from rfl,fb_all hbl]
  refine s_exit (zS (zS (k_out (hK1 _ ?_))));refine c_weak (e':=⟨[(2,.a 2 0),(4,.a 4 0)],[⟨4,none,47,[.agg 32 (By e).toArray]⟩,⟨2,none,47,[.agg 32 (By (aB 32 0)).toArray]⟩],[],F,λ_=>True⟩) ⟨⟨rfl,rfl,trivial⟩,⟨eL2,rfl,rfl,rfl,trivial⟩,.refl _,λ_ h _=>h,λ_ h=>h⟩ ?_;refine zA rfl (zP ?_);exact zG () rfl (λ_ _ _=>trivial) λ_ _=>trivial⟩
end
end Go.Proofs.Q
namespace Go.Proofs.Q
open Go.RowKit Nums
end Go.Proofs.Q
namespace Nums
end Nums
namespace Nums
end Nums
namespace Nums
end Nums
namespace Go.Proofs.Q
open Go.RowKit Go.IntWalk Nums
end Go.Proofs.Q
namespace Nums
end Nums
namespace Go.Proofs.Q
open Go.RowKit Go.IntWalk Nums
def isGood(b:zu):Bool:=decide ((b[31]!).toNat<128)&&decide (enc (fof (le b%57896044618658097711785492504343953926634992332820282019728792003956564819968))=b)
def wd_more(T y q r:Nat)(hr:r<8)(hT:T<256^(8*q+r))(hy:y<256)(j:Nat) :
  wd (T+256^(8*q+r)*y) j=if j=q then wd T j+256^r*y else wd T j:=by
 have hp:(256:Nat)^(8*q+r)=18446744073709551616^q*256^r:=by rw [kC,nP]
 have hr8:(256:Nat)^(r+1)<=18446744073709551616:=mC (by omega) (show r+1<=8 by omega);have hr9:(256:Nat)^(r+1)=256^r*256:=cB ..;have hm:(256:Nat)^r*y<=256^r*255:=iS (aF _) (by omega);rw [hp] at hT ⊢;have hPq:0<(18446744073709551616:Nat)^q:=oS (by omega)
 unfold wd
 by_cases hjq:j=q
 .subst hjq;rw [if_pos rfl,eQ,k8 _ _ hPq];have hz:T/18446744073709551616^j<256^r:=qT hT;rw [a7 (by omega),a7 (by omega)]
 .rw [if_neg hjq]
  rcases Nat.lt_or_gt_of_ne hjq with hlt|hgt
  .obtain⟨d,rfl⟩:∃d,q=j+1+d:=⟨q-j-1,by omega⟩
   have e:(18446744073709551616:Nat)^(j+1+d)*256^r*y=18446744073709551616^j*(18446744073709551616*(18446744073709551616^d*256^r*y)):=by rw [kC,cB];simp only [eQ]
   rw [e,k8 _ _ (oS (by omega)),jV]
  .obtain⟨d,rfl⟩:∃d,j=q+1+d:=⟨j-q-1,by omega⟩
   have e:(18446744073709551616:Nat)^(q+1+d)=18446744073709551616^q*18446744073709551616*18446744073709551616^d:=by rw [kC,cB]
   have hd:0<(18446744073709551616:Nat)^d:=oS (by omega);have hb:18446744073709551616^q*18446744073709551616<=(18446744073709551616:Nat)^(q+1+d):=by rw [e];exact Nat.le_mul_of_pos_right _ hd
   have h1:18446744073709551616^q*256^r+18446744073709551616^q*256^r*y<=18446744073709551616^q*18446744073709551616:=by rw [eQ,<-Nat.mul_add];exact iS (aF _) (by omega)
   rw [rG (by omega),rG (by omega)]
def le_take{b:zu}{n:Nat}(h:n<b.length):le (b.take (n+1))=le (b.take n)+256^n*(b[n]!).toNat:=by rw [List.take_succ_eq_append_getElem h,iR,aV,cA (by omega),getElem!_pos b n h];show le (b.take n)+256^n*((b[n]).toNat+256*0)=_;rw [iI,cD]
def wds(b:zu)(n:Nat):zj:=(dV 5).map λj=>wd (le (b.take n)) j
def wds_len(b:zu)(n:Nat):(wds b n).length=5:=by simp [wds]
def wds_get(b:zu)(n:Nat){j:Nat}(h:j<5):(wds b n)[j]! = wd (le (b.take n)) j:=by rw [getElem!_pos _ j (by rw [wds_len];exact h)];simp [wds]
def wds_zero(b:zu):wds b 0=[0,0,0,0,0]:=by
 have e:∀j,wd (le (b.take 0)) j=0:=λj=>by show 0/_%_=0;rw [Nat.zero_div]
 simp only [wds,e];rfl
def wd_small{T n:Nat}(hT:T<256^n):wd T (n/8)<2^(8*(n%8)):=by
 have e:(256:Nat)^n=18446744073709551616^(n/8)*2^(8*(n%8)):=by
  have h:(256:Nat)^n=256^(8*(n/8)+n%8):=by congr 1;omega
  rw [h,kC,nP,nP]
 rw [e] at hT;have hz:=qT hT;exact dC (Nat.mod_le _ _) hz
def wds_set{b:zu}{n:Nat}(h:n<b.length):(wds b n).set (n/8) (wd (le (b.take n)) (n/8)+2^(8*(n%8))*(b[n]!).toNat)=wds b (n+1):=by
 have hT:=pE (b.take n);rw [aV,cA (by omega)] at hT;have e2:(256:Nat)^n=256^(8*(n/8)+n%8):=by congr 1;omega
 have e3:(2:Nat)^(8*(n%8))=256^(n%8):=by rw [nP]
 have hy:=(b[n]!).toNat_lt;apply c8 (by simp [wds]);intro j h1 h2;have hj:j<5:=by simpa [wds] using h2
 rw [oP];simp only [wds,List.getElem_map,List.getElem_range];rw [le_take h,e2,wd_more _ _ _ _ (by omega) (by rw [<-e2];exact hT) hy];by_cases hjq:n/8=j
 .subst hjq;rw [if_pos rfl,if_pos rfl,e3]
 .rw [if_neg hjq,if_neg (λe=>hjq e.symm)]
def or_byte{old y m:Nat}(hm:m<=56)(hold:old<2^m)(hy:y<256) :
  bits .or .u64 (old:Int) (IntKind.u64.wrap ((y:Int)*2^m))=((old+2^m*y:Nat):Int):=by
 have hp:(2:Nat)^m<=2^56:=mC (by omega) hm
 have h56:(2:Nat)^56=72057594037927936:=by decide
 have hx:y*2^m<=255*2^56:=iS (by omega) hp
 have f2:IntKind.u64.wrap ((y:Int)*2^m)=((y*2^m:Nat):Int):=by
  have:((y:Int)*2^m)=((y*2^m:Nat):Int):=by simp
  rw [this,wrapN _ (by omega)]
 rw [f2,u64_or_nat _ _ (by omega) (by omega),Nat.or_comm,nat_join m _ _ (Nat.mul_mod_left ..) hold,iD,cX]
def lbs(L:Nat):zj:=(dV 5).map λi=>L/2251799813685248^i%2251799813685248
def lbs_eb(L:Nat):EB (lbs L) (fof (L%57896044618658097711785492504343953926634992332820282019728792003956564819968)):=by refine EB.mk5 (a0:=L/2251799813685248^0%2251799813685248) (a1:=L/2251799813685248^1%2251799813685248) (a2:=L/2251799813685248^2%2251799813685248) (a3:=L/2251799813685248^3%2251799813685248) (a4:=L/2251799813685248^4%2251799813685248) (by omega) (by omega) (by omega) (by omega) (by omega) ?_;congr 1;rw [lv5];simp only [cN];omega
def lb_words{L:Nat}(hL:L<115792089237316195423570985008687907853269984665640564039457584007913129639936){i:Nat}(hi:i<5) :
  bits .and .u64 (bits .or .u64 ((wd L (51*i/64):Nat)/2^(51*i%64):Int) (IntKind.u64.wrap ((wd L (51*i/64+1):Nat)*2^(64-51*i%64):Int))) 2251799813685247=((L/2251799813685248^i%2251799813685248:Nat):Int):=by
 have key:∀(k x y r t R:Nat),y*2^t%18446744073709551616%2^k=0->x/2^r<2^k->x/2^r<18446744073709551616->y*2^t%18446744073709551616+x/2^r<18446744073709551616->(y*2^t%18446744073709551616+x/2^r)%2251799813685248=R ->
   bits .and .u64 (bits .or .u64 ((x:Nat)/2^r:Int) (IntKind.u64.wrap ((y:Nat)*2^t:Int))) 2251799813685247=(R:Int):=by
  intro k x y r t R e1 e2 e3 e5 e4
  have f1:((x:Int)/2^r)=((x/2^r:Nat):Int):=by simp
  have f2:IntKind.u64.wrap ((y:Int)*2^t)=((y*2^t%18446744073709551616:Nat):Int):=by rw [bH];simp
  rw [f1,f2,u64_or_nat _ _ e3 (by omega),Nat.or_comm,nat_join k _ _ e1 e2,maskW _ e5,e4]
 have h5:i=0\/i=1\/i=2\/i=3\/i=4:=by omega
 unfold wd
 rcases h5 with rfl|rfl|rfl|rfl|rfl
 .exact key 64 (L/18446744073709551616^0%18446744073709551616) (L/18446744073709551616^1%18446744073709551616) 0 64 _ (by omega) (by omega) (by omega) (by omega) (by simp only [cN];omega)
 .exact key 13 (L/18446744073709551616^0%18446744073709551616) (L/18446744073709551616^1%18446744073709551616) 51 13 _ (by omega) (by omega) (by omega) (by omega) (by simp only [cN];omega)
 .exact key 26 (L/18446744073709551616^1%18446744073709551616) (L/18446744073709551616^2%18446744073709551616) 38 26 _ (by omega) (by omega) (by omega) (by omega) (by simp only [cN];omega)
 .exact key 39 (L/18446744073709551616^2%18446744073709551616) (L/18446744073709551616^3%18446744073709551616) 25 39 _ (by omega) (by omega) (by omega) (by omega) (by simp only [cN];omega)
 .exact key 52 (L/18446744073709551616^3%18446744073709551616) (L/18446744073709551616^4%18446744073709551616) 12 52 _ (by omega) (by omega) (by omega) (by omega) (by simp only [cN];omega)
def own_newE:Own 178:=λ_ _=>by go_simp
def new_W{F:zv}[Pst F]{b:zu}{α:Type}{g:α->RV}(hb:b.length=32)(hy:isGood b=true->∀r,EB r (fof (le b%57896044618658097711785492504343953926634992332820282019728792003956564819968))->∃v,g v = .t [eE r,.c (.v (.bool true))])(hn:isGood b=false->∃v,g v = .t [eE zl,.c (.v (.bool false))]):Ct F 178 [eY 32 b] { ret:=g }:=⟨own_newE,by
 have hG:isGood b=decide (enc (fof (le b%57896044618658097711785492504343953926634992332820282019728792003956564819968))=b):=by
  unfold isGood;by_cases he:enc (fof (le b%57896044618658097711785492504343953926634992332820282019728792003956564819968))=b
  .have h128:(b[31]!).toNat<128:=by
    have:=rO (fof (le b%57896044618658097711785492504343953926634992332820282019728792003956564819968))
    rwa [he] at this
   rw [decide_eq_true h128,Bool.true_and]
  .rw [decide_eq_false he,Bool.and_false]
 rw [hG] at hy hn;clear hG;let f:zk:=λi=>le b/2251799813685248^i%2251799813685248;have hE:EB (mx f [0,0,0,0,0] 5) (fof (le b%57896044618658097711785492504343953926634992332820282019728792003956564819968)):=lbs_eb (le b);generalize fof (le b%57896044618658097711785492504343953926634992332820282019728792003956564819968)=z at *;have hL:=pE b;rw [hb] at hL;have hC:Ct F 185 [eE (mx f [0,0,0,0,0] 5)] (one (.q (eY 32 (enc z)))):=hash_C hE;have hez:=iL z;generalize enc z=ez at *;refine zQ [eY 32 b] 60 func178 rfl (by rw [ntmps178];rfl) (one_ok (eY_ok hb).1) λB=>?_;refine zA rfl (zA rfl (zM λK1 hK1=>zA rfl (zN ?_)));let V:Nat->Env:=λn=>⟨[(9,.v (.int .i64 ((n:Nat):Int))),(1,.a 1 0),(2,.a 2 0),(4,.a 4 0)],[⟨4,none,245,[.agg 5 (Us (wds b n)).toArray]⟩,⟨2,none,247,[.agg 5 (Us zl).toArray]⟩,⟨1,none,47,[.agg 32 (By b).toArray]⟩],[],F,λ_=>True⟩;have eL:(some ⟨4,none,245,[.agg 5 (Us [0,0,0,0,0]).toArray]⟩:Option LV)=some ⟨4,none,245,[.agg 5 (Us (wds b 0)).toArray]⟩:=by rw [wds_zero]
 refine c_weak (e':=V 0) ⟨zE rfl, ⟨eL,rfl,rfl,rfl,rfl,rfl,trivial⟩,.refl _,λ_ h _=>h, zU⟩ (s_loop (λn=>32-n) V (λn=>n<=32) ?_ 0 (aL _));intro n hn2;refine zA rfl (zM λK2 hK2=>?_);refine zW ((n:Int)<32) rfl (λhlt=>?_) (λhge=>?_)
 .have hlt:n<32:=by omega
  have hT:=pE (b.take n);rw [aV,cA (by omega)] at hT;have hsm:=wd_small hT;have h0:n/8<5:=by omega
  have ra:(catP [.agg 5 (Us (wds b n)).toArray])[0+n/8]?=some (.int .u64 ((wd (le (b.take n)) (n/8):Nat):Int)):=(Us_in (by rw [wds_len];exact h0)).trans (by rw [wds_get b n h0]);have rb:(catP [.agg 32 (By b).toArray])[0+n]?=some (.int .u8 ((b[n]!).toNat:Int)):=by rw [aY];exact By_get (by omega)
  have hy8:=(b[n]!).toNat_lt;have hm:8*(n%8)<=56:=by omega
  have hmm:8*(n%8)<=64:=by omega
  refine zO (hK2 _ (zM λK3 hK3=>zN (zA rfl ?_)));refine s_drawnN 13 (by kernel_rfl) λG S w0 hst=>?_;refine n_auto zY hst rfl (n_num 13 ((n/8:Nat):Int) rfl (quoI n 8 (by omega)) (n_cell hst rfl arr5 h0 _ ra ?_));refine n_auto zY hst rfl (n_cell hst rfl arr32 hlt _ rb ?_);refine n_auto zY hst rfl (n_num 22 ((8*(n%8):Nat):Int) rfl ((mulI (n%8) 8 (by omega)).trans (by rw [cX])) ?_);refine n_auto2 hst rfl (n_num 24 ((wd (le (b.take n)) (n/8)+2^(8*(n%8))*(b[n]!).toNat:Nat):Int) rfl (by rw [wrapN _ (by omega),show min (8*(n%8)) IntKind.u64.bits=8*(n%8) from cA hmm];exact or_byte hm hsm hy8) (n_L hst rfl ?_));refine l_put rfl arr5 h0 [.agg 5 (Us (wds b (n+1))).toArray] (eE_p (wds_len _ _)) ?_ ?_ (zJ (hK3 _ ?_))
  .show 0+n/8<(Us (wds b n)).toArray.size;rw [aW,Us_len,wds_len];omega
  .show Us (wds b (n+1))=(Us (wds b n)).set (0+n/8) (.int .u64 _);rw [aY,Us,Us,<-wds_set (by omega),dR]
  refine zD rfl ?_;exact zX (n+1) hlt (by show 32-(n+1)<32-n;omega) ⟨⟨congrArg (λx=>some (SV.v (.int .i64 x))) (addI n 1 (by omega)),rfl,rfl,rfl,trivial⟩,zL rfl rfl, .refl _,λ_ h _=>h,λ_ h=>h⟩
 obtain rfl:n=32:=by omega
 have hT:b.take 32=b:=bJ (by omega);have rw5:∀j,j<5->(catP [.agg 5 (Us (wds b 32)).toArray])[0+j]?=some (.int .u64 ((wd (le b) j:Nat):Int)):=λj hj=>(Us_in (by rw [wds_len];exact hj)).trans (by rw [wds_get b 32 hj,hT]);refine s_exit (zS (zS (k_out (hK1 _ (zA rfl (zM λK1 hK1=>zA rfl (zN ?_)))))));let U:Nat->Env:=λk=>⟨[(27,.v (.int .i64 ((k:Nat):Int))),(1,.a 1 0),(2,.a 2 0),(4,.a 4 0),(6,.a 6 0)],[⟨6,none,247,[.agg 5 (Us (mx f [0,0,0,0,0] k)).toArray]⟩,⟨4,none,245,[.agg 5 (Us (wds b 32)).toArray]⟩,⟨2,none,247,[.agg 5 (Us zl).toArray]⟩,⟨1,none,47,[.agg 32 (By b).toArray]⟩],[],F,λ_=>True⟩;refine c_weak (e':=U 0) ⟨zE rfl, zL rfl rfl, .refl _,λ_ h _=>h,λ_ h=>h⟩ (s_loop (λk=>5-k) U (λk=>k<=5) ?_ 0 (aL _));intro k hk;refine zA rfl (zM λK2 hK2=>?_);refine zW ((k:Int)<5) rfl (λhlt=>?_) (λhge=>?_)
 .have hlt:k<5:=by omega
  have hlb:=lb_words hL hlt;have h0:51*k/64<5:=by omega
  have h1:51*k/64+1<5:=by omega
  have hr:51*k%64<=64:=by omega
  refine zO (hK2 _ (zM λK3 hK3=>zN (zA rfl ?_)));refine s_reg λK hK=>l_auto2 rfl (l_num 8 ((51*k:Nat):Int) rfl (mulI 51 k (by omega)) (zJ (hK _ ?_)));refine s_drawnN 20 (by kernel_rfl) λG S w0 hst=>?_;refine n_auto zY hst rfl (n_num 34 ((51*k/64:Nat):Int) rfl (quoI (51*k) 64 (by omega)) (n_cell hst rfl arr5 h0 _ (rw5 _ h0) ?_));refine n_auto2 hst rfl (n_num 42 ((51*k/64+1:Nat):Int) rfl ((congrArg (λx=>IntKind.i64.wrap (x+1)) (quoI (51*k) 64 (by omega))).trans (addI _ 1 (by omega))) (n_cell hst rfl arr5 h1 _ (rw5 _ h1) ?_));refine n_auto zY hst rfl (n_num 47 ((64-51*k%64:Nat):Int) rfl (subI 64 (51*k%64) hr (by omega)) ?_);refine n_auto2 hst rfl (n_num 50 ((f k:Nat):Int) rfl (by rw [kw64.shr (51*k%64) hr,cA (by show 64-51*k%64<=64;omega),Int.natCast_ediv,Int.natCast_pow];exact hlb) (n_L hst rfl ?_));refine l_put rfl arr5 hlt [.agg 5 (Us (mx f [0,0,0,0,0] (k+1))).toArray] (eE_p (mx_len _ _ _)) ?_ ?_ (zJ (hK3 _ ?_))
  .show 0+k<(Us (mx f [0,0,0,0,0] k)).toArray.size;rw [aW,Us_len,mx_len];omega
  .show Us (mx f [0,0,0,0,0] (k+1))=(Us (mx f [0,0,0,0,0] k)).set (0+k) (.int .u64 ((f k:Nat):Int));rw [aY,Us,Us,<-mx_set,dR]
  refine zD rfl ?_;exact zX (k+1) hlt (by show 5-(k+1)<5-k;omega) ⟨⟨congrArg (λx=>some (SV.v (.int .i64 x))) (addI k 1 (by omega)),rfl,rfl,rfl,rfl,trivial⟩,zL rfl rfl, .refl _,λ_ h _=>h,λ_ h=>h⟩
 obtain rfl:k=5:=by omega
 refine s_exit (zS (zS (k_out (hK1 _ (zM λK1 hK1=>?_)))));refine s_N 4 [] (by kernel_rfl) λK hK G S w0 hst=>n_X hst hC rfl λ_=>?_;refine n_auto2 hst rfl (n_op hst (.b (!decide (ez=b))) trivial rfl rfl rfl (run_neqY rfl rfl rfl underlying47 (by kernel_rfl) hez hb) ?_);refine n_N hst rfl hK rfl ?_;refine s_if (!decide (ez=b)) rfl (λh=>?_) (λh=>?_)
 .obtain⟨v,hv⟩:=hn (by rwa [Bool.not_eq_true'] at h);refine zA rfl (zP ?_);exact zR zY v rfl (by decide) rfl hv rfl (λ_ _ _=>trivial) λ_ _=>trivial
 .obtain⟨v,hv⟩:=hy (by rwa [Bool.not_eq_false'] at h) _ hE;refine zO (hK1 _ (zA rfl (zP ?_)));exact zR zY v rfl (by decide) rfl hv rfl (λ_ _ _=>trivial) λ_ _=>trivial⟩
def info64:(prog.info? 96).map (λi=>(i.zero,i.size,i.bytes))=some (some (.int .u64 0),1,8):=by kernel_rfl
def partU_at(w:yp)(l:zj)(i:Nat)(hi:i<l.length):(part 96 (Us l).toArray (i*1)).run prog w = .ok (.int .u64 (l[i]:Nat)) w:=by
 have hagg:(isAgg 96).run prog w = .ok false w:=by unfold isAgg;rw [aG,run_underlying underlying96 w];rfl
 have hc:(Us l)[i]?=some (.int .u64 (l[i]:Nat)):=by simp [Us,aJ hi]
 unfold part;simp [aG,hagg,hc,aI]
def oneU_eq(d x y:Nat)(w:yp):(cC (d+1) 96 (.int .u64 (x:Int)) (.int .u64 (y:Int))).run prog w = .ok (decide (x=y)) w:=by
 simp [cC,run_underlying underlying96];by_cases h:x=y
 .simp [h]
 .simp [h];omega
def equalIn_words(d n t:Nat)(l m:zj)(ht:prog.underlying t=some (.array n 96))(hl:l.length=n)(hm:m.length=n)(w:yp) :
  (cC (d+2) t (.agg (Us l).toArray) (.agg (Us m).toArray)).run prog w = .ok (decide (l=m)) w:=by
 obtain⟨i0,hi0,hz0,hz1,hz2⟩:=info_parts info64
 have hI:∀(I:zj),(∀i∈I,i<n)->(forIn I ((none:Option Bool),()) λi _=>do
   let a <-part 96 (Us l).toArray (i*1)
   let b <-part 96 (Us m).toArray (i*1)
   let r <-cC (d+1) 96 a b
   if (!r)=true then pure (ForInStep.done (some false,())) else pure (ForInStep.yield (none,()))).run prog w = .ok (if ∀i∈I,l[i]! = m[i]! then(none,()) else(some false,())) w:=by
  intro I
  induction I with
  | nil=>intro _;simp [aI]
  | cons i I ih =>
   intro h
   have hi:i<l.length:=by have:=h i (by simp);omega
   have hj:i<m.length:=by have:=h i (by simp);omega
   have hp:=partU_at w l i hi;have hq:=partU_at w m i hj;have he:=oneU_eq d l[i] m[i] w;have e1:l[i]! = l[i]:=getElem!_pos l i hi;have e2:m[i]! = m[i]:=getElem!_pos m i hj
   by_cases hx:l[i]=m[i]
   .rw [show decide (l[i]=m[i])=true by simp [hx]] at he
    simp only [uQ,aG,hp,hq,aC,he,Bool.not_true,Bool.false_eq_true,if_false,aI];rw [ih (λj hj=>h j (by simp [hj]))];congr 1;by_cases ha:∀i∈I,l[i]! = m[i]!
    .have hb:∀j∈i::I,l[j]! = m[j]!:=by
      intro j hj;rcases List.mem_cons.mp hj with rfl|hj
      .rw [e1,e2,hx]
      .exact ha j hj
     rw [if_pos ha,if_pos hb]
    .rw [if_neg ha,if_neg (λhb=>ha λj hj=>hb j (aK _ hj))]
   .rw [show decide (l[i]=m[i])=false by simp [hx]] at he;simp only [uQ,aG,hp,hq,aC,he,Bool.not_false,if_true,aI];rw [if_neg (λhb=>hx (by have:=hb i (aM ..);rw [e1,e2] at this;exact this))]
 rw [cC];simp only [aG,run_underlying ht,aC,sizeOf,typeInfo,run_program,hi0,hz1,aI,Std.Legacy.Range.forIn_eq_forIn_range']
 rw [hI _ (λi hi=>by have:=jK.1 hi;simp [fP] at this;omega)]
 by_cases hlm:l=m
 .subst hlm;simp [aI]
 .have hne:¬ ∀i∈List.range' 0 n 1,l[i]! = m[i]!:=λha=>hlm (by
   apply c8 (by rw [hl,hm]);intro i h1 h2;have:=ha i (jK.2 (by omega))
   rwa [getElem!_pos l i h1,getElem!_pos m i h2] at this)
  have hs:fP [:n]=n:=by simp [fP]
  rw [hs,if_neg hne,show decide (l=m)=false by simp [hlm]];rfl
def partEl(w:yp)(l:zj)(hl:l.length=5):(part 245 (Us l).toArray 0).run prog w = .ok (.agg (Us l).toArray) w:=by
 have hagg:(isAgg 245).run prog w = .ok true w:=by unfold isAgg;rw [aG,run_underlying underlying245 w];rfl
 have hs:(sizeOf 245).run prog w = .ok 5 w:=by kernel_rfl
 have he:(Us l).toArray.extract 0 (0+5)=(Us l).toArray:=by apply Array.ext';simp only [List.extract_toArray,sU,aY,Nat.sub_zero,jC];exact bJ (by rw [Us_len,hl];exact aF _)
 unfold part;simp only [aG,hagg,aC,if_true,hs,aI,he]
def run_field_el(l:zj)(hl:l.length=5)(w:yp):(uZ 247 (.agg (Us l).toArray) 0).run prog w = .ok (.agg (Us l).toArray) w:=by have hp:=partEl w l hl;unfold uZ;simp only [aG,run_underlying underlying247,aC];exact hp
def equal_el(l m:zj)(hl:l.length=5)(hm:m.length=5)(w:yp) :
  (cC 10000 247 (.agg (Us l).toArray) (.agg (Us m).toArray)).run prog w = .ok (decide (l=m)) w:=by
 have he:=equalIn_words 9997 5 245 l m underlying245 hl hm w
 have hst:prog.stoodInHeld 247 = false:=by kernel_rfl
 rw [cC];simp only [aG,run_underlying underlying247,aC,run_program,hst];have he':(cC 9999 245 (.agg (Us l).toArray) (.agg (Us m).toArray)).run prog w = .ok (decide (l=m)) w:=he;rw [if_neg (by decide)];have hp:=partEl w l hl;have hq:=partEl w m hm;generalize decide (l=m)=q at *
 cases q<;>simp [aG,hp,hq,he',aI]
theorem lv_inj:∀{a b:zj},a.length=b.length->(∀y∈a,y<2251799813685248)->(∀y∈b,y<2251799813685248)->lv a=lv b->a=b
 | [],[],_,_,_,_=>rfl
 | x::a,y::b,hl,ha,hb,h=>by
  have h1:=ha x (aM ..);have h2:=hb y (aM ..);have h3:x+2251799813685248*lv a=y+2251799813685248*lv b:=h;have h4:x=y:=by omega
  have h5:lv a=lv b:=by omega
  rw [h4,lv_inj (by simpa using hl) (λz hz=>ha z (aK _ hz)) (λz hz=>hb z (aK _ hz)) h5]
def whole_iff{a b:zj}{x y:F}(ha:EB a x)(hb:EB b y):whole a=whole b↔x=y:=by
 obtain⟨l1,b1,v1⟩:=iQ ha;obtain⟨l2,b2,v2⟩:=iQ hb;constructor
 .intro h;apply Fin.ext;rw [<-v1,<-v2,h]
 .rintro rfl;exact lv_inj (by rw [l1,l2]) b1 b2 (by rw [v1,v2])
def is_f{a b:zj}{x y:F}(ha:EB a x)(hb:EB b y)(w:yp) :
  Calls prog 228 #[.agg (Us a).toArray,.agg (Us b).toArray] w λe w'=>e = .returned (.bool (decide (x=y)))/\Below w.heap.size w w':=by
 have hq:decide (x=y)=decide (whole a=whole b):=decide_eq_decide.2 (whole_iff ha hb).symm;rw [hq];clear hq;have l1:=(iQ ha).1;have l2:=(iQ hb).1;have hE:=λw1=>equal_el (whole a) (whole b) l1 l2 w1;have H1:=λw1=>whole_f ha w1;have H2:=λw1=>whole_f hb w1;generalize decide (whole a=whole b)=q at *;generalize whole a=u at *;generalize whole b=v at *;have hza:=ha.len;have hzb:=hb.len;have h0:Blk ((w.alloc (jQ (Us a).toArray 247)).alloc (jQ (Us b).toArray 247)) w.heap.size 247 (Us a).toArray:=heap_alloc2_old w _ _;have h1:Blk ((w.alloc (jQ (Us a).toArray 247)).alloc (jQ (Us b).toArray 247)) (w.heap.size+1) 247 (Us b).toArray:=heap_alloc2_new w _ _;have hbel:Below w.heap.size w ((w.alloc (jQ (Us a).toArray 247)).alloc (jQ (Us b).toArray 247)):=((Below.refl _ _).alloc (aF _) _).alloc (by simp) _;clear ha hb
 go_enter func228,ntmps228
 go_wp2
 refine reg_q (by kernel_rfl) (tail_ok (by kernel_rfl)) (λ_ _ d _ _ h=>by cases d<;>exact h) ?_;refine b_el w.heap.size hza _ rfl rfl rfl (λ_ h=>h.blk h0) ?_;simp only [nA,eO,fC,fD];refine b_one rfl own_whole (λw1=>H1 w1) rfl rfl ?_;simp only [nA,eO,fC,fD];refine b_el (w.heap.size+1) hzb _ rfl rfl rfl (λ_ h=>h.blk h1) ?_;simp only [nA,eO,fC,fD];refine b_one rfl own_whole (λw1=>H2 w1) rfl rfl ?_;simp only [nA,eO,fC,fD];refine b_eq (Us u).toArray (Us v).toArray rfl rfl rfl rfl (by kernel_rfl) hE ?_;simp only [nA,eO,fC,fD];refine b_assign rfl rfl ?_;simp only [nA,eO,fC,fD];refine wpB_nil ?_
 intro w1 hw1
 have hb2:=below_up hbel hw1
 go_wp2
 go_ret
 exact⟨rfl,hb2⟩
def whole_odd{a:zj}{x:F}(ha:EB a x):(whole a)[0]! % 2=x.val%2:=by obtain⟨l1,_,v1⟩:=iQ ha;obtain⟨a0,a1,a2,a3,a4,h⟩:=pM l1;rw [<-v1,h,lv5];show a0%2=_;omega
def odd_f{a:zj}{x:F}(ha:EB a x)(w:yp) :
  Calls prog 186 #[.agg (Us a).toArray] w λe w'=>e = .returned (.bool (decide (x.val%2=1)))/\Below w.heap.size w w':=by
 have ho:=whole_odd ha;obtain⟨l1,l2,_⟩:=iQ ha;have H1:=λw1=>dW (whole_f ha w1);rw [<-ho];clear ho;obtain⟨a0,a1,a2,a3,a4,h⟩:=pM l1;rw [h] at H1 l2 ⊢;have ha0:a0<2251799813685248:=l2 a0 (by simp);have e0:(Us [a0,a1,a2,a3,a4]).toArray = #[.int .u64 (a0:Int),.int .u64 (a1:Int),.int .u64 (a2:Int),.int .u64 (a3:Int),.int .u64 (a4:Int)]:=rfl;have e1:[a0,a1,a2,a3,a4][0]! = a0:=rfl;rw [e1];rw [e0] at H1;have hza:=len_us ha.len;have h0:=Blk.new w 247 (Us a).toArray;have hbel:Below w.heap.size w (w.alloc (jQ (Us a).toArray 247)):=(Below.refl _ _).alloc (aF _) _
 have hand:bits .and .u64 (a0:Int) 1=((a0%2:Nat):Int):=by have h:=u64_and_nat a0 1 (by omega) (by omega);rw [nat_mask1] at h;exact h
 go_enter func186,ntmps186
 go_wp2_with (refine wpList_load_row rfl 247 _ rfl w.heap.size rfl 247 (Us a).toArray (0,0) _ h0 underlying247 rfl (size_el _ hza) ?_)
 refine(H1 _).out.mono ?_
 rintro e w1 ⟨rfl,hw1⟩
 have hb2:=below_up hbel hw1
 have hfl:∀w1,(uZ 247 (.agg #[.int .u64 (a0:Int),.int .u64 (a1:Int),.int .u64 (a2:Int),.int .u64 (a3:Int),.int .u64 (a4:Int)]) 0).run prog w1 = .ok (.agg #[.int .u64 (a0:Int),.int .u64 (a1:Int),.int .u64 (a2:Int),.int .u64 (a3:Int),.int .u64 (a4:Int)]) w1 :=
  λw1=>run_field_el [a0,a1,a2,a3,a4] rfl w1
 have hix:∀w1,(Instr.index 245 (.agg #[.int .u64 (a0:Int),.int .u64 (a1:Int),.int .u64 (a2:Int),.int .u64 (a3:Int),.int .u64 (a4:Int)]) (.int .i64 0)).run prog w1 = .ok (.int .u64 (a0:Int)) w1:=λw1=>by kernel_rfl
 have hdec:(((a0%2:Nat):Int)==1)=decide (a0%2=1):=by rw [Bool.eq_iff_iff];simp;omega
 generalize ha2:a0%2=m at hand;rw [ha2] at hdec;have HD:=dW (show decide (m=1)=decide (a0%2=1) by rw [ha2]);clear ha2
 go_wp2
 go_ret
 exact⟨congrArg (λq=>Ending.returned (Value.bool q)) HD.out,hb2⟩
def small1_f(w:yp):Calls prog 187 #[.int .u64 1] w λe w'=>∃r,EB r 1/\e = .returned (.agg (Us r).toArray)/\Below w.heap.size w w':=by have h:=small_f 1 (by omega) w;rw [g8] at h;exact h
section
variable{F:zv}
def small1_C:Ct F 187 [.c (.v (.int .u64 1))] (elP 1):=⟨own_small,Spec.el λw _=>small1_f w⟩
end
section
variable{F:zv}{a:zj}{x:Nums.F}
def own_odd:Own 186:=λ_ _=>by go_simp
def odd_C(ha:EB a x):Ct F 186 [eE a] (one (.q (.c (.b (decide (x.val%2=1)))))):=⟨own_odd,Spec.pure trivial λw _=>odd_f ha w⟩
end
end Go.Proofs.Q
namespace Nums
namespace Ed
section
variable{n:Nat}[NeZero n]{d:Fin n}
def Rep.yD(hn:cP n){x y z t:Fin n}{P:Pt n}(r:Rep x y z P)(ht:t*z=x*y):t=P.x*P.y*z:=by refine cancel hn r.z ?_;rw [ht,r.x,r.y];grind only
def xW(px py qx qy z1 z2:Fin n):(py*z1+px*z1)*(qy*z2+qx*z2)-(py*z1-px*z1)*(qy*z2-qx*z2)=(px*qy+py*qx)*(2*(z1*z2)):=by grind only
def xV(px py qx qy z1 z2:Fin n):(py*z1+px*z1)*(qy*z2+qx*z2)+(py*z1-px*z1)*(qy*z2-qx*z2)=(py*qy+px*qx)*(2*(z1*z2)):=by grind only
def vR(px py qx qy z1 z2 d:Fin n):px*py*z1*((qx*qy*z2+qx*qy*z2)*d)=d*px*qx*py*qy*(2*(z1*z2)):=by grind only
def vQ(z1 z2:Fin n):z1*(z2+z2)=2*(z1*z2):=by grind only
def yO(k u:Fin n):u+k*u=(1+k)*u:=by grind only
def yP(k u:Fin n):u-k*u=(1-k)*u:=by grind only
def Rep.yQ(g:Good n d){P Q:Pt n}(hP:On d P)(hQ:On d Q){e f gg h u:Fin n}(hu:u≠0)(he:e=(P.x*Q.y+P.y*Q.x)*u)(hf:f=(1-kk d P Q)*u)(hg:gg=(1+kk d P Q)*u)(hh:h=(P.y*Q.y+P.x*Q.x)*u) :
  Rep (e*f) (gg*h) (f*gg) (Ed.add d P Q):=by
 have hx:=qE g hP hQ;have hy:=qD g hP hQ;have n1:=lC g hP hQ;have n2:=iX g hP hQ;subst he hf hg hh;refine⟨dI g.pr (dI g.pr n2 hu) (dI g.pr n1 hu),?_,?_⟩
 .rw [<-hx];grind only
 .rw [<-hy];grind only
def Rep.plus(g:Good n d){P Q:Pt n}(hP:On d P)(hQ:On d Q){x1 y1 z1 t1 x2 y2 z2 t2:Fin n}(r:Rep x1 y1 z1 P)(h1:t1*z1=x1*y1)(s:Rep x2 y2 z2 Q)(h2:t2*z2=x2*y2){un li z t e f gg h:Fin n}
 (hun:un=(y1-x1)*(y2-x2))(hli:li=(y1+x1)*(y2+x2))(hz:z=z1*(z2+z2))(ht:t=t1*((t2+t2)*d))(he:e=li-un)(hf:f=z-t)(hg:gg=z+t)(hh:h=li+un) :
  Rep (e*f) (gg*h) (f*gg) (Ed.add d P Q)/\e*h*(f*gg)=e*f*(gg*h):=by
 have e1:=r.yD g.pr h1;have e2:=s.yD g.pr h2;have hu:(2:Fin n)*(z1*z2)≠0:=dI g.pr g.two (dI g.pr r.z s.z);refine⟨Rep.yQ g hP hQ hu ?_ ?_ ?_ ?_,by grind only⟩
 .rw [he,hli,hun,r.x,r.y,s.x,s.y,xW]
 .rw [hf,hz,ht,e1,e2,vR,vQ,<-yP];rfl
 .rw [hg,hz,ht,e1,e2,vR,vQ,<-yO];rfl
 .rw [hh,hli,hun,r.x,r.y,s.x,s.y,xV]
def yV(px py z:Fin n):px*z*(py*z)+px*z*(py*z)=(px*py+py*px)*(z*z):=by grind only
def yT(px py z:Fin n):py*z*(py*z)-px*z*(px*z)=(py*py-px*px)*(z*z):=by grind only
def yS(px py z:Fin n):py*z*(py*z)+px*z*(px*z)=(py*py+px*px)*(z*z):=by grind only
def yU(k u:Fin n):u+u-(1+k)*u=(1-k)*u:=by grind only
def yM{P:Pt n}(hP:On d P):P.y*P.y-P.x*P.x=1+kk d P P:=by have h:P.y*P.y-P.x*P.x=1+d*P.x*P.x*P.y*P.y:=hP;rw [h];rfl
def Rep.dbl(g:Good n d){P:Pt n}(hP:On d P){x y z:Fin n}(r:Rep x y z P){xx yy zz xy e gg h f:Fin n}(hxx:xx=x*x)(hyy:yy=y*y)(hzz:zz=z*z)(hxy:xy=x*y)
 (he:e=xy+xy)(hg:gg=yy-xx)(hh:h=yy+xx)(hf:f=zz+zz-gg):Rep (e*f) (gg*h) (f*gg) (Ed.add d P P)/\e*h*(f*gg)=e*f*(gg*h):=by
 have hu:z*z≠0:=dI g.pr r.z r.z
 have hgg:gg=(1+kk d P P)*(z*z):=by rw [hg,hyy,hxx,r.x,r.y,yT,yM hP]
 refine⟨Rep.yQ g hP hP hu ?_ ?_ hgg ?_,by grind only⟩
 .rw [he,hxy,r.x,r.y,yV]
 .rw [hf,hzz,hgg,yU]
 .rw [hh,hyy,hxx,r.x,r.y,yS]
def Rep.one(hn:cP n)(x y:Fin n):Rep x y 1 ⟨x,y⟩:=⟨λh=>mV hn h.symm,by show x=x*1;grind only,by show y=y*1;grind only⟩
def yA(g:Good n d){P:Pt n}(hP:On d P)(hy:P.y=1):P=zero:=by
 have h:P.y*P.y-P.x*P.x=1+d*P.x*P.x*P.y*P.y:=hP;rw [hy] at h;have h2:P.x*P.x*(d+1)=0:=by grind only
 have hd:d+1≠0:=λh0=>by obtain⟨i,hi⟩:=g.i;refine g.d i ?_;rw [hi];grind only
 have hx:P.x=0:=by
  by_cases hx:P.x=0
  .exact hx
  .exact absurd h2 (dI g.pr (dI g.pr hx hx) hd)
 cases P;simp only at hx hy;rw [hx,hy];rfl
def Rep.yB(g:Good n d){P:Pt n}(hP:On d P){x y z:Fin n}(r:Rep x y z P):y=z↔P=Ed.zero:=by
 constructor
 .intro h;refine yA g hP (cancel g.pr r.z ?_);rw [<-r.y,h];grind only
 .rintro rfl;rw [r.y];show 1*z=z;grind only
end
end Ed
end Nums
namespace Go.Proofs.Q
open Go.RowKit Go.IntWalk Nums
def pc(X Y Z T:zj):zj:=X++(Y++(Z++T))
def pz:zj:=pc zl zl zl zl
def Us_pc(X Y Z T:zj):Us (pc X Y Z T)=Us X++(Us Y++(Us Z++Us T)):=by simp [pc,Us]
def pc_len{X Y Z T:zj}(hX:X.length=5)(hY:Y.length=5)(hZ:Z.length=5)(hT:T.length=5):(pc X Y Z T).length=20:=by simp [pc,hX,hY,hZ,hT]
def size_ad{n:Nat}(h:n=20):(prog.info? 293).map (·.size)=some n:=by rw [h];kernel_rfl
def part_pt(w:yp)(A V Z:zj)(off:Nat)(ho:A.length=off)(hV:V.length=5):(part 247 (Us A++(Us V++Us Z)).toArray off).run prog w = .ok (.agg (Us V).toArray) w:=by
 have hagg:(isAgg 247).run prog w = .ok true w:=by unfold isAgg;rw [aG,run_underlying underlying247 w];rfl
 have hs:(sizeOf 247).run prog w = .ok 5 w:=by kernel_rfl
 have he:(Us A++(Us V++Us Z)).toArray.extract off (off+5)=(Us V).toArray:=by apply Array.ext';simp only [List.extract_toArray,sU];rw [List.drop_append,iU (by rw [Us_len];omega),Us_len,ho,fL,jC,cR,fM,List.take_append,Us_len,hV,fL,qF,bC,bJ (by rw [Us_len,hV];exact aF _)]
 unfold part;simp only [aG,hagg,aC,if_true,hs,aI,he]
def equal_elD(d:Nat)(l m:zj)(hl:l.length=5)(hm:m.length=5)(w:yp) :
  (cC (d+3) 247 (.agg (Us l).toArray) (.agg (Us m).toArray)).run prog w = .ok (decide (l=m)) w:=by
 have he:=equalIn_words d 5 245 l m underlying245 hl hm w
 have hst:prog.stoodInHeld 247 = false:=by kernel_rfl
 rw [cC];simp only [aG,run_underlying underlying247,aC,run_program,hst];rw [if_neg (by decide)];have hp:=partEl w l hl;have hq:=partEl w m hm;generalize decide (l=m)=q at *
 cases q<;>simp [aG,hp,hq,he,aI]
def equal_pt(X Y Z T X' Y' Z' T':zj)(hX:X.length=5)(hY:Y.length=5)(hZ:Z.length=5)(hT:T.length=5)(hX':X'.length=5)(hY':Y'.length=5)(hZ':Z'.length=5)(hT':T'.length=5)(w:yp) :
  (cC 10000 249 (.agg (Us (pc X Y Z T)).toArray) (.agg (Us (pc X' Y' Z' T')).toArray)).run prog w = .ok (decide (X=X'/\Y=Y'/\Z=Z'/\T=T')) w:=by
 have e1:=equal_elD 9996 X X' hX hX' w;have e2:=equal_elD 9996 Y Y' hY hY' w;have e3:=equal_elD 9996 Z Z' hZ hZ' w;have e4:=equal_elD 9996 T T' hT hT' w
 have p1:∀X Y Z T:zj,X.length=5->(part 247 (Us (pc X Y Z T)).toArray 0).run prog w = .ok (.agg (Us X).toArray) w:=λX Y Z T h=>by have:=part_pt w [] X (Y++(Z++T)) 0 rfl h;simpa [pc,Us] using this
 have p2:∀X Y Z T:zj,X.length=5->Y.length=5->(part 247 (Us (pc X Y Z T)).toArray 5).run prog w = .ok (.agg (Us Y).toArray) w:=λX Y Z T h h2=>by have:=part_pt w X Y (Z++T) 5 h h2;simpa [pc,Us] using this
 have p3:∀X Y Z T:zj,X.length=5->Y.length=5->Z.length=5->(part 247 (Us (pc X Y Z T)).toArray 10).run prog w = .ok (.agg (Us Z).toArray) w:=λX Y Z T h h2 h3=>by have:=part_pt w (X++Y) Z T 10 (by simp [h,h2]) h3;simpa [pc,Us] using this
 have p4:∀X Y Z T:zj,X.length=5->Y.length=5->Z.length=5->T.length=5->(part 247 (Us (pc X Y Z T)).toArray 15).run prog w = .ok (.agg (Us T).toArray) w:=λX Y Z T h h2 h3 h4=>by have:=part_pt w (X++(Y++Z)) T [] 15 (by simp [h,h2,h3]) h4;simpa [pc,Us] using this
 have hst:prog.stoodInHeld 249 = false:=by kernel_rfl
 have a1:=p1 X Y Z T hX;have a2:=p2 X Y Z T hX hY;have a3:=p3 X Y Z T hX hY hZ;have a4:=p4 X Y Z T hX hY hZ hT;have b1:=p1 X' Y' Z' T' hX';have b2:=p2 X' Y' Z' T' hX' hY';have b3:=p3 X' Y' Z' T' hX' hY' hZ';have b4:=p4 X' Y' Z' T' hX' hY' hZ' hT';generalize (Us (pc X Y Z T)).toArray=u at *;generalize (Us (pc X' Y' Z' T')).toArray=v at *;clear p1 p2 p3 p4;rw [cC];simp only [aG,run_underlying underlying249,aC,run_program,hst];rw [if_neg (by decide)]
 by_cases h1:X=X'<;>by_cases h2:Y=Y'<;>by_cases h3:Z=Z'<;>by_cases h4:T=T' <;>
  simp only [h1,h2,h3,h4,decide_true,decide_false,and_true,and_false] at e1 e2 e3 e4 ⊢ <;>
  simp [aG,a1,a2,a3,a4,b1,b2,b3,b4,e1,e2,e3,e4,h1,h2,h3,h4,aI]
structure QB(l:zj)(A:Ed.Pt p):Prop where
  ex:∃X Y Z T x y z t,l=pc X Y Z T/\EB X x/\EB Y y/\EB Z z/\EB T t/\Ed.Rep x y z A/\t*z=x*y
  on:Ed.On dd A
def PB(l:zj)(A:Ed.Pt p):Prop:=(l=pz/\A=Ed.zero)\/QB l A
structure AB(l:zj)(A:Ed.Pt p):Prop where
  ex:∃X Y Z T x y z t,l=pc X Y Z T/\EB X (y+x)/\EB Y (y-x)/\EB Z (z+z)/\EB T ((t+t)*dd)/\Ed.Rep x y z A/\t*z=x*y
  on:Ed.On dd A
def PB.on{l:zj}{A:Ed.Pt p}(h:PB l A):Ed.On dd A:=by
 rcases h with⟨_,rfl⟩|h
 .exact Ed.lD
 .exact h.on
def ne_zl{l:zj}{z:F}(h:EB l z)(hz:z≠0):l≠zl:=by rintro rfl;exact hz (h.val.symm.trans lU)
def QB.ne{X Y Z T:zj}{z:F}(hZ:EB Z z)(hz:z≠0):¬(X=zl/\Y=zl/\Z=zl/\T=zl):=λh=>ne_zl hZ hz h.2.2.1
def own_at:Own 179:=λ_ _=>by go_simp
def own_pwhole:Own 182:=λ_ _=>by go_simp
def own_factor:Own 190:=λ_ _=>by go_simp
def own_addend:Own 220:=λ_ _=>by go_simp
def own_plus:Own 218:=λ_ _=>by go_simp
def own_doubled:Own 192:=λ_ _=>by go_simp
def eq_pz(w:yp):(cC 10000 249 (.agg (Us pz).toArray) (.agg (Us pz).toArray)).run prog w = .ok true w:=by have:=equal_pt zl zl zl zl zl zl zl zl rfl rfl rfl rfl rfl rfl rfl rfl w;rw [decide_eq_true ⟨rfl,rfl,rfl,rfl⟩] at this;exact this
def ne_pz{l:zj}{A:Ed.Pt p}(h:QB l A)(w:yp):(cC 10000 249 (.agg (Us l).toArray) (.agg (Us pz).toArray)).run prog w = .ok false w:=by obtain⟨⟨X,Y,Z,T,x,y,z,t,rfl,hX,hY,hZ,hT,hr,_⟩,_⟩:=h;have:=equal_pt X Y Z T zl zl zl zl hX.len hY.len hZ.len hT.len rfl rfl rfl rfl w;rw [decide_eq_false (QB.ne hZ hr.z)] at this;exact this
def facB:zu:=[163,120,89,19,202,77,235,117,171,216,65,65,77,10,112,0,152,232,121,119,121,64,199,140,115,254,111,43,238,108,3,82]
def bxB:zu:=[26,213,37,143,96,45,86,201,178,167,37,149,96,199,44,105,92,220,214,253,49,226,164,192,254,83,110,205,211,54,105,33]
def byB:zu:=[88,102,102,102,102,102,102,102,102,102,102,102,102,102,102,102,102,102,102,102,102,102,102,102,102,102,102,102,102,102,102,102]
def good_fac:isGood facB=true:=by decide +kernel
def good_bx:isGood bxB=true:=by decide +kernel
def good_by:isGood byB=true:=by decide +kernel
def le_fac:fof (le facB%57896044618658097711785492504343953926634992332820282019728792003956564819968)=dd:=j8 (by decide +kernel)
def le_bx:fof (le bxB%57896044618658097711785492504343953926634992332820282019728792003956564819968)=fof bx:=j8 (by decide +kernel)
def le_by:fof (le byB%57896044618658097711785492504343953926634992332820282019728792003956564819968)=fof bY:=j8 (by decide +kernel)
structure PtV where
  X:zj
  Y:zj
  Z:zj
  T:zj
def PtV.l(P:PtV):zj:=pc P.X P.Y P.Z P.T
abbrev PtV.ps(P:PtV):zb:=[.agg 5 (Us P.X).toArray,.agg 5 (Us P.Y).toArray,.agg 5 (Us P.Z).toArray,.agg 5 (Us P.T).toArray]
abbrev ePt(P:PtV):SQ:=.p P.ps
structure PtV.Ok(P:PtV):Prop where
  X:P.X.length=5
  Y:P.Y.length=5
  Z:P.Z.length=5
  T:P.T.length=5
def PtV.Ok.ps{P:PtV}(h:P.Ok):OkP P.ps:=λq hq=>by
 simp only [PtV.ps,aH,gB,or_false] at hq;rcases hq with rfl|rfl|rfl|rfl
 .exact⟨us_size h.X,Us_oneA _⟩
 .exact⟨us_size h.Y,Us_oneA _⟩
 .exact⟨us_size h.Z,Us_oneA _⟩
 .exact⟨us_size h.T,Us_oneA _⟩
def den_pt(P:PtV):(ePt P).den = .agg (Us P.l).toArray:=by show Value.agg (catP P.ps)=_;unfold PtV.l;rw [Us_pc,PtV.ps,catP_cons,catP_cons,catP_cons,catP_cons];simp [Pt.cells,catP]
def ptv_ok{X Y Z T:zj}{x y z t:Nums.F}(hX:EB X x)(hY:EB Y y)(hZ:EB Z z)(hT:EB T t):(⟨X,Y,Z,T⟩:PtV).Ok:=⟨hX.len,hY.len,hZ.len,hT.len⟩
abbrev ptP(V:zj->Prop):Post {P:PtV // V P.l/\P.Ok}:={ ret:=λP=>.q (ePt P.1) }
def pc_inj{P:PtV}(hP:P.Ok){X Y Z T:zj}{x y z:Nums.F}(hX:EB X x)(hY:EB Y y)(hZ:EB Z z)(e:P.l=pc X Y Z T):P=⟨X,Y,Z,T⟩:=by obtain⟨X',Y',Z',T'⟩:=P;unfold PtV.l pc at e;obtain⟨h1,e⟩:=rR e (hP.X.trans hX.len.symm);obtain⟨h2,e⟩:=rR e (hP.Y.trans hY.len.symm);obtain⟨h3,h4⟩:=rR e (hP.Z.trans hZ.len.symm);dsimp only at h1 h2 h3 h4;rw [h1,h2,h3,h4]
def QB.nums{P:PtV}{A:Ed.Pt p}(h:QB P.l A)(hP:P.Ok):∃x y z t,EB P.X x/\EB P.Y y/\EB P.Z z/\EB P.T t/\Ed.Rep x y z A/\t*z=x*y:=by obtain⟨X,Y,Z,T,x,y,z,t,e,hX,hY,hZ,hT,hr⟩:=h.ex;obtain rfl:=pc_inj hP hX hY hZ e;exact⟨x,y,z,t,hX,hY,hZ,hT,hr⟩
def AB.nums{P:PtV}{A:Ed.Pt p}(h:AB P.l A)(hP:P.Ok):∃x y z t,EB P.X (y+x)/\EB P.Y (y-x)/\EB P.Z (z+z)/\EB P.T ((t+t)*dd)/\Ed.Rep x y z A/\t*z=x*y:=by obtain⟨X,Y,Z,T,x,y,z,t,e,hX,hY,hZ,hT,hr⟩:=h.ex;obtain rfl:=pc_inj hP hX hY hZ e;exact⟨x,y,z,t,hX,hY,hZ,hT,hr⟩
def QB.of{X Y Z T:zj}{x y z t:Nums.F}{A:Ed.Pt p}(hX:EB X x)(hY:EB Y y)(hZ:EB Z z)(hT:EB T t)(hR:Ed.Rep x y z A)(ht:t*z=x*y)(hon:Ed.On dd A):QB (PtV.l ⟨X,Y,Z,T⟩) A/\PtV.Ok ⟨X,Y,Z,T⟩:=⟨⟨⟨X,Y,Z,T,x,y,z,t,rfl,hX,hY,hZ,hT,hR,ht⟩,hon⟩,ptv_ok hX hY hZ hT⟩
section
variable{b:Base}{fn:Func}{N:Nat}{E:SE}{L:ze}{F M:zv}{rs:List ResultVar}
def k_pt{V:zj->Prop}(P:PtV)(hP:V P.l/\P.Ok)(hr:fn.results=rs.toArray)(hs:rs.length<=3)(h:resS TY E L rs=some [ePt P]):kS b (bodyPost prog fn (endS b (ptP V)) .ret) N ⟨E,L,[],F,M⟩:=zR zY ⟨P,hP⟩ hr hs h rfl rfl (λ_ _ _=>trivial) λ_ _=>trivial
end
def iml:zj:=[1718705420411056,234908883556509,2233514472574048,2117202627021982,765476049583133]
def imf:F:=fof (lv iml)
def eb_im:EB iml imf:=EB.mk5 (by omega) (by omega) (by omega) (by omega) (by omega) rfl
def imf_sq:imf*imf = -1:=by unfold imf;rw [<-fA];have:fof (lv iml*lv iml)=fof (p-1):=j8 (by decide +kernel);rw [this,pR (by decide),g8,show fof p=0 from j8 (a:=p) (b:=0) (by decide)];generalize (1:F)=u;grind only
def cand3(u v:F)(c:F)(hc:fK (u*(v*v*v)*(v*v*v)*v) (2^252-3)=c) :
  u*(v*v*v)*c*(u*(v*v*v)*c)*v=u*fK (u*(v*v*v)*(v*v*v)*v) pq:=by
 have e:pq=(2^252-3)+(2^252-3)+1:=by decide
 rw [e,fE,mZ,hc];generalize hs:u*(v*v*v)*(v*v*v)*v=s;subst hs
 grind only
def quarter{u v y:F}(hu:u≠0)(h:v*y*y=u) :
  fK (u*(v*v*v)*(v*v*v)*v) pq=1\/fK (u*(v*v*v)*(v*v*v)*v) pq = -1:=by
 have hs:u*(v*v*v)*(v*v*v)*v=(v*v*v*v*y)*(v*v*v*v*y):=by rw [<-h];grind only
 have hne:v*v*v*v*y≠0:=by
  intro h0;apply hu;rw [<-h];by_cases hv:v=0
  .rw [hv];grind only
  .have hvv:=dI dU (dI dU (dI dU hv hv) hv) hv
   rcases zero_or dU h0 with h1|h1
   .exact absurd h1 hvv
   .rw [h1];grind only
 have h2:=sK hne;rw [<-xU,wD] at h2;rw [hs];generalize fK (v*v*v*v*y*(v*v*v*v*y)) pq=t at *
 have h3:t*t=1*1:=by rw [show fK t 2=t*t from by rw [fE,oK]] at h2;rw [h2];grind only
 exact tO dU h3
def root_none{u v X:F}(hX:u*(v*v*v)*fK (u*(v*v*v)*(v*v*v)*v) (2^252-3)=X)(h1:¬X*X*v=u)(h2:¬X*imf*(X*imf)*v=u)(y:F):v*y*y≠u:=by
 intro h;have hc:=cand3 u v _ rfl;rw [hX] at hc;have hu:u≠0:=by rintro rfl;apply h1;rw [hc];grind only
 rcases quarter hu h with h3|h3
 .apply h1;rw [hc,h3];grind only
 .apply h2;rw [h3] at hc;have hi:=imf_sq;generalize imf=i at *;clear h h1 h2 hX h3 hu;grind only
def root_even{u v X:F}(h:X*X*v=u)(ho:¬X.val%2=1):v*X*X=u/\X.val%2=0:=by refine⟨?_,by omega⟩;rw [<-h];grind only
def root_odd{u v X:F}(h:X*X*v=u)(ho:X.val%2=1):v*(0-X)*(0-X)=u/\(0-X).val%2=0:=by
 have hne:X≠0:=by rintro rfl;revert ho;decide
 have e:0-X = -X:=by grind only
 refine⟨?_,?_⟩
 .rw [<-h];grind only
 .rw [e,pQ hne];omega
section
variable{F:zv}[Pst F]{a b:zj}{x:Nums.F}
def own_squared:Own 221:=λ_ _=>by go_simp
def own_ones:Own 222:=λ_ _=>by go_simp
def own_eighth:Own 229:=λ_ _=>by go_simp
def own_is:Own 228:=λ_ _=>by go_simp
def own_inv3:Own 183:=λ_ _=>by go_simp
def own_root3:Own 188:=λ_ _=>by go_simp
omit [Pst F] in
def is_C{y:Nums.F}(ha:EB a x)(hb:EB b y):Ct F 228 [eE a,eE b] (one (.q (.c (.b (decide (x=y)))))):=⟨own_is,Spec.pure trivial λw _=>is_f ha hb w⟩
def mul_p{d e:Nat}(ha:EB a (fK x d))(hb:EB b (fK x e)):Ct F 184 [eE a,eE b] (elP (fK x (d+e))):=by rw [mZ];exact mul_C ha hb
def _root_.Nums.EB.pow{r:zj}{d e:Nat}(h:EB r (fK x d))(he:d=e):EB r (fK x e):=he▸h
def sq_p{d:Nat}(ha:EB a (fK x d))(n:Nat)(hn:n<300):Ct F 221 [eE a,.c (.v (.int .i64 (n:Int)))] (elP (fK x (d*2^n))):=⟨own_squared,by
 refine zQ [eE a,.c (.v (.int .i64 (n:Int)))] 13 func221 rfl (by rw [ntmps221];rfl) (two_ok (eE_p ha.len) trivial) λB=>?_;refine zA rfl (zM λK hK=>zA rfl (zN ?_));let V:Nat×zj->Env:=λs=>⟨[(6,.v (.int .i64 (s.1:Int))),(5,.v (.int .i64 (n:Int))),(4,.a 4 0),(2,.a 2 0)],[⟨4,none,247,[.agg 5 (Us [0,0,0,0,0]).toArray]⟩,⟨2,none,247,[.agg 5 (Us s.2).toArray]⟩],[],F,λ_=>True⟩;refine c_weak (e':=V (0,a)) ⟨zE rfl, zL rfl rfl, .refl _,λ_ h _=>h, zU⟩ (s_loop (λs=>n-s.1) V (λs=>s.1<=n/\EB s.2 (fK x (d*2^s.1))) ?_ (0,a) ⟨aL _,ha.pow (uV d).symm⟩);rintro⟨i,l⟩ ⟨hi,hl⟩;dsimp only at hi hl;refine zA rfl (zM λK1 hK1=>?_);refine zW ((i:Int)<(n:Int)) rfl (λhlt=>?_) (λhge=>?_)
 .refine zO (hK1 _ ?_);refine zM λK2 hK2=>zN (s_lit (l_X (mul_p hl hl) (λ_=>rfl) rfl λ⟨r,v⟩=>l_E rfl (hK2 _ (zD rfl ?_))));exact zX (i+1,r) ⟨by show i+1<=n;omega,v.pow (by rw [<-Nat.mul_two,eQ,<-cB])⟩ (by show n-(i+1)<n-i;omega) ⟨⟨congrArg (λx=>some (SV.v (.int .i64 x))) (addI i 1 (by omega)),rfl,rfl,rfl,trivial⟩,zL rfl rfl, .refl _,λ_ h _=>h,λ_ h=>h⟩
 .obtain rfl:i=n:=by omega
  refine s_exit (zS (zS (k_out (hK _ (zA rfl (zP ?_))))));exact k_el l hl rfl (by decide) rfl⟩
def ones_C(ha:EB a x):Ct F 222 [eE a] (elP (fK x (2^250-1))):=⟨own_ones,by
 refine zQ [eE a] 50 func222 rfl (by rw [ntmps222];rfl) (one_ok (eE_p ha.len)) λB=>?_;have h:EB a (fK x 1):=by rw [oK];exact ha
 refine zA rfl ?_;refine s_N 4 [(3,247)] (by kernel_rfl) λK hK G S w0 hst=>n_X hst (sq_p h 1 (by decide)) rfl λ⟨_,v⟩=>n_X hst (mul_p v h) rfl λ⟨_,h2⟩=>n_N hst rfl hK rfl ?_;refine s_N 4 [(4,247)] (by kernel_rfl) λK hK G S w0 hst=>n_X hst (sq_p h2 2 (by decide)) rfl λ⟨_,v⟩=>n_X hst (mul_p v h2) rfl λ⟨_,h4⟩=>n_N hst rfl hK rfl ?_;refine s_N 4 [(5,247)] (by kernel_rfl) λK hK G S w0 hst=>n_X hst (sq_p h4 1 (by decide)) rfl λ⟨_,v⟩=>n_X hst (mul_p v h) rfl λ⟨_,h5⟩=>n_N hst rfl hK rfl ?_;refine s_N 4 [(6,247)] (by kernel_rfl) λK hK G S w0 hst=>n_X hst (sq_p h5 5 (by decide)) rfl λ⟨_,v⟩=>n_X hst (mul_p v h5) rfl λ⟨_,h10⟩=>n_N hst rfl hK rfl ?_;refine s_N 4 [(7,247)] (by kernel_rfl) λK hK G S w0 hst=>n_X hst (sq_p h10 10 (by decide)) rfl λ⟨_,v⟩=>n_X hst (mul_p v h10) rfl λ⟨_,h20⟩=>n_N hst rfl hK rfl ?_;refine s_N 4 [(8,247)] (by kernel_rfl) λK hK G S w0 hst=>n_X hst (sq_p h20 20 (by decide)) rfl λ⟨_,v⟩=>n_X hst (mul_p v h20) rfl λ⟨_,h40⟩=>n_N hst rfl hK rfl ?_;refine s_N 4 [(9,247)] (by kernel_rfl) λK hK G S w0 hst=>n_X hst (sq_p h40 10 (by decide)) rfl λ⟨_,v⟩=>n_X hst (mul_p v h10) rfl λ⟨_,h50⟩=>n_N hst rfl hK rfl ?_;refine s_N 4 [(10,247)] (by kernel_rfl) λK hK G S w0 hst=>n_X hst (sq_p h50 50 (by decide)) rfl λ⟨_,v⟩=>n_X hst (mul_p v h50) rfl λ⟨_,h100⟩=>n_N hst rfl hK rfl ?_;refine s_N 7 [] (by kernel_rfl) λK hK G S w0 hst=>n_X hst (sq_p h100 100 (by decide)) rfl λ⟨_,v⟩=>n_X hst (mul_p v h100) rfl λ⟨_,v2⟩=>n_X hst (sq_p v2 50 (by decide)) rfl λ⟨_,v3⟩=>n_X hst (mul_p v3 h50) rfl λ⟨r,v4⟩=>n_N hst rfl hK rfl (zP ?_);exact k_el r (v4.pow (by decide +kernel)) rfl (by decide) rfl⟩
def eighth_C(ha:EB a x):Ct F 229 [eE a] (elP (fK x (2^252-3))):=⟨own_eighth,by
 refine zQ [eE a] 8 func229 rfl (by rw [ntmps229];rfl) (one_ok (eE_p ha.len)) λB=>?_;have h:EB a (fK x 1):=by rw [oK];exact ha
 refine zA rfl ?_;refine s_N 5 [] (by kernel_rfl) λK hK G S w0 hst=>n_X hst (ones_C ha) rfl λ⟨_,v⟩=>n_X hst (sq_p v 2 (by decide)) rfl λ⟨_,v2⟩=>n_X hst (mul_p v2 h) rfl λ⟨r,v3⟩=>n_N hst rfl hK rfl (zP ?_);exact k_el r (v3.pow (by decide +kernel)) rfl (by decide) rfl⟩
def inv_C(ha:EB a x):Ct F 183 [eE a] (elP (gV x)):=⟨own_inv3,by
 refine zQ [eE a] 19 func183 rfl (by rw [ntmps183];rfl) (one_ok (eE_p ha.len)) λB=>?_;have h:EB a (fK x 1):=by rw [oK];exact ha
 refine zA rfl (s_reg λK hK=>l_X (mul_p h h) (λ_=>rfl) rfl λ⟨_,h2⟩=>l_N hK rfl ?_);refine s_N 6 [(4,247)] (by kernel_rfl) λK hK G S w0 hst=>n_X hst (sq_p h2 2 (by decide)) rfl λ⟨_,v⟩=>n_X hst (mul_p v h2) rfl λ⟨_,v2⟩=>n_X hst (mul_p v2 h) rfl λ⟨_,h11⟩=>n_N hst rfl hK rfl ?_;refine s_N 5 [] (by kernel_rfl) λK hK G S w0 hst=>n_X hst (ones_C ha) rfl λ⟨_,v⟩=>n_X hst (sq_p v 5 (by decide)) rfl λ⟨_,v2⟩=>n_X hst (mul_p v2 h11) rfl λ⟨r,v3⟩=>n_N hst rfl hK rfl (zP ?_);exact k_el r (v3.pow (by decide +kernel)) rfl (by decide) rfl⟩
end
abbrev tupP(x:Nums.F):Post {r:zj // EB r x}:={ ret:=λr=>.t [eE r.1,.c (.v (.bool true))] }
abbrev noP:Post Unit:=one (.t [eE zl,.c (.v (.bool false))])
structure RootR(u v:Nums.F) where
  r:zj
  ok:Bool
  h:(∃x,EB r x/\v≠0/\(v*x*x=u/\x.val%2=0)/\ok=true)\/((v=0\/∀x,v*x*x≠u)/\r=[0,0,0,0,0]/\ok=false)
abbrev rootP(u v:Nums.F):Post (RootR u v):={ ret:=λr=>.t [eE r.r,.c (.v (.bool r.ok))] }
def Ct.to{α β:Type}{F:zv}{fn:FuncId}{qs:yq}{f:α->RV}{g:β->RV}(c:Ct F fn qs ({ ret:=f }:Post α))(h:∀x,∃y,f x=g y):Ct F fn qs ({ ret:=g }:Post β):=⟨c.own,λw S X h1 h2 h3=>(c.spec w S X h1 h2 h3).mono λ_ _ ⟨x,S',i1,i2,i3,i4,i5,_⟩=>by obtain⟨y,e⟩:=h x;exact⟨y,S',by rw [i1];exact congrArg (λr:RV=>Ending.returned r.den) e,by show(g y).sv.Ok;rw [<-e];exact i2,i3,i4,i5,λ_ _=>trivial, zU⟩⟩
def root_C{a b:zj}{u v:Nums.F}(hA:EB a u)(hB:EB b v):Ct Tw 188 [eE a,eE b] (rootP u v):=⟨own_root3,by
 refine zQ [eE a,eE b] 56 func188 rfl (by rw [ntmps188];rfl) (two_ok (eE_p hA.len) (eE_p hB.len)) λB=>?_;refine zA rfl (zM λK0 hK0=>s_reg λK hK=>l_X (is_C hB eb_zero) (λ_=>rfl) rfl λ_=>l_N hK rfl ?_);refine zW (v=0) rfl (λh0=>?_) (λh0=>zO (hK0 _ ?_))
 .refine zA rfl (zP ?_);exact zG (⟨[0,0,0,0,0],false,.inr ⟨.inl h0,rfl,rfl⟩⟩:RootR u v) rfl (λ_ _ _=>trivial) λ_ _=>trivial
 refine s_N 5 [(6,247)] (by kernel_rfl) λK hK G S w0 hst=>n_X hst (mul_C hB hB) rfl λ⟨_,v1⟩=>n_X hst (mul_C v1 hB) rfl λ⟨_,v2⟩=>n_N hst rfl hK rfl ?_;refine s_N 12 [(7,247)] (by kernel_rfl) λK hK G S w0 hst=>n_X hst (mul_C hA v2) rfl λ⟨_,v3⟩=>n_X hst (mul_C hA v2) rfl λ⟨_,v4⟩=>n_X hst (mul_C v4 v2) rfl λ⟨_,v5⟩=>n_X hst (mul_C v5 hB) rfl λ⟨_,v6⟩=>n_X hst (eighth_C v6) rfl λ⟨_,v7⟩=>n_X hst (mul_C v3 v7) rfl λ⟨r,hr⟩=>n_N hst rfl hK rfl ?_;obtain⟨X,hX⟩:∃X,u*(v*v*v)*fK (u*(v*v*v)*(v*v*v)*v) (2^252-3)=X:=⟨_,rfl⟩;have hnone:=root_none hX;rw [hX] at hr;refine zM λK0 hK0=>?_;have go:∀(r:zj) (Y:Nums.F),EB r Y->(¬Y*Y*v=u->∀y,v*y*y≠u)->∀e,Weak e ⟨[(2,.a 2 0),(3,.a 3 0),(4,.a 4 0),(7,.a 7 0)],[⟨7,none,247,[.agg 5 (Us r).toArray]⟩,⟨4,none,247,[.agg 5 (Us [0,0,0,0,0]).toArray]⟩,⟨3,none,247,[.agg 5 (Us b).toArray]⟩,⟨2,none,247,[.agg 5 (Us a).toArray]⟩],[],Tw,λ_=>True⟩->kS B K0 56 e:=λr Y hr hn e he=>k_weak he (hK0 _ ?_)
 .refine s_N 8 [] (by kernel_rfl) λK hK G S w0 hst=>n_X hst (mul_C hr hr) rfl λ⟨_,v1⟩=>n_X hst (mul_C v1 hB) rfl λ⟨_,v2⟩=>n_X hst (is_C v2 hA) rfl λ_=>n_N hst rfl hK rfl ?_
  by_cases h1:X*X*v=u
  .refine s_if false (congrArg (λq=>some (SV.b (!q))) (decide_eq_true h1)) (λh=>by cases h) λ_=>zO ?_;exact go r X hr (λh=>absurd h1 h) _ ⟨zE rfl, zL rfl rfl, .refl _,λ_ h _=>h,λ_ h=>h⟩
  .refine s_if true (congrArg (λq=>some (SV.b (!q))) (decide_eq_false h1)) (λ_=>s_lit ?_) λh=>by cases h
   refine l_auto2 rfl ?_;refine l_f (.p [.agg 5 (Us iml).toArray]) (eE_p (l:=iml) rfl) (λG S w C0 Q' _ _ hQ=>f_build [(0,.int .u64 1718705420411056),(1,.int .u64 234908883556509),(2,.int .u64 2233514472574048),(3,.int .u64 2117202627021982),(4,.int .u64 765476049583133)] (Us iml).toArray rfl rfl rfl rfl rfl (by kernel_rfl) hQ) rfl ?_;refine l_X (mul_C hr eb_im) (λ_=>rfl) rfl λ⟨r2,v3⟩=>l_E rfl ?_;exact go r2 _ v3 (λh=>hnone h1 h) _ ⟨zE rfl, zL rfl rfl, .refl _,λ_ h _=>h,λ_ h=>h⟩
 refine zM λK1 hK1=>?_;refine s_N 8 [] (by kernel_rfl) λK hK G S w0 hst=>n_X hst (mul_C hr hr) rfl λ⟨_,v1⟩=>n_X hst (mul_C v1 hB) rfl λ⟨_,v2⟩=>n_X hst (is_C v2 hA) rfl λ_=>n_N hst rfl hK rfl ?_;by_cases h1:Y*Y*v=u
 .refine s_if false (congrArg (λq=>some (SV.b (!q))) (decide_eq_true h1)) (λh=>by cases h) λ_=>zO (hK1 _ ?_)
  refine zM λK2 hK2=>s_reg λK hK=>l_X (odd_C hr) (λ_=>rfl) rfl λ_=>l_N hK rfl ?_;refine zW (Y.val%2=1) rfl (λho=>s_lit ?_) (λho=>zO (hK2 _ ?_))
  .refine l_X (sub_C eb_zero hr) (λ_=>rfl) rfl λ⟨r2,v3⟩=>l_E rfl (hK2 _ ?_);refine zA rfl (zP ?_);exact zG (⟨r2,true,.inl ⟨0-Y,v3,h0,root_odd h1 ho,rfl⟩⟩:RootR u v) rfl (λ_ _ _=>trivial) λ_ _=>trivial
  .refine zA rfl (zP ?_);exact zG (⟨r,true,.inl ⟨Y,hr,h0,root_even h1 ho,rfl⟩⟩:RootR u v) rfl (λ_ _ _=>trivial) λ_ _=>trivial
 .refine s_if true (congrArg (λq=>some (SV.b (!q))) (decide_eq_false h1)) (λ_=>?_) λh=>by cases h
  refine zA rfl (zP ?_);exact zG (⟨[0,0,0,0,0],false,.inr ⟨.inr (hn h1),rfl,rfl⟩⟩:RootR u v) rfl (λ_ _ _=>trivial) λ_ _=>trivial⟩
def newc_C{F:zv}[Pst F]{b:zu}{x:Nums.F}(hb:b.length=32)(hg:isGood b=true)(hx:fof (le b%57896044618658097711785492504343953926634992332820282019728792003956564819968)=x):Ct F 178 [eY 32 b] (tupP x):=new_W hb (λ_ r hr=>⟨⟨r,hx▸hr⟩,rfl⟩) λh=>by rw [hg] at h;cases h
def neg_mul1{n:Nat}[NeZero n](t z:Fin n):(0-t)*z=0-t*z:=by grind only
def neg_mul2{n:Nat}[NeZero n](x y:Fin n):(0-x)*y=0-x*y:=neg_mul1 x y
def _root_.Nums.Ed.Rep.y5{n:Nat}[NeZero n]{X Y Z:Fin n}{P:Ed.Pt n}(r:Ed.Rep X Y Z P):Ed.Rep (0-X) Y Z (Ed.neg P):=by
 have h:=r.neg;have e : -X=0-X:=by grind only
 rwa [e] at h
section
variable{F:zv}[Pst F]
def at_C{X Y:zj}{x y:Nums.F}(hX:EB X x)(hY:EB Y y)(hon:Ed.On dd ⟨x,y⟩):Ct F 179 [eE X,eE Y] (ptP (QB · ⟨x,y⟩)):=⟨own_at,by refine zQ [eE X,eE Y] 12 func179 rfl (by rw [ntmps179];rfl) (two_ok (eE_p hX.len) (eE_p hY.len)) λb=>?_;refine zA rfl ?_;refine s_N 7 [] (by kernel_rfl) λK hK G S w0 hst=>?_;refine n_X hst small1_C rfl λ⟨r,v⟩=>n_X hst (mul_C hX hY) rfl λ⟨s,u⟩=>n_N hst rfl hK rfl (zP ?_);exact k_pt ⟨X,Y,r,s⟩ (QB.of hX hY v u (Ed.Rep.one dU x y) (by grind only) hon) rfl (by decide) rfl⟩
def factor_C:Ct F 190 [] (elP dd):=⟨own_factor,by refine zQ [] 9 func190 rfl (by rw [ntmps190];rfl) no_ok λb=>?_;refine zA rfl (s_reg λK hK=>?_);refine l_buildC 32 facB rfl rfl rfl rfl (by kernel_rfl) (by kernel_rfl) rfl ?_;refine l_X (newc_C rfl good_fac le_fac) (λ_=>rfl) rfl λ⟨r,v⟩=>l_N hK rfl (zA rfl (zP ?_));exact k_el r v rfl (by decide) rfl⟩
def own_cbase5:Own 136:=λ_ _=>by go_simp
def base_C:Ct F 136 [] (ptP (QB · base)):=⟨own_cbase5,by refine zQ [] 18 func136 rfl (by rw [ntmps136];rfl) no_ok λb=>?_;refine zA rfl (s_reg λK hK=>?_);refine l_buildC 32 bxB rfl rfl rfl rfl (by kernel_rfl) (by kernel_rfl) rfl ?_;refine l_X (newc_C rfl good_bx le_bx) (λ_=>rfl) rfl λ⟨r,v⟩=>l_N hK rfl (s_reg λK hK=>?_);refine l_buildC 32 byB rfl rfl rfl rfl (by kernel_rfl) (by kernel_rfl) rfl ?_;refine l_X (newc_C rfl good_by le_by) (λ_=>rfl) rfl λ⟨s,u⟩=>l_N hK rfl (s_reg λK hK=>l_X (at_C v u gY) (λ_=>rfl) rfl λ⟨P,hP⟩=>l_N hK rfl (zP ?_));exact k_pt P hP rfl (by decide) rfl⟩
def cat_pt(P:PtV):catP P.ps=(Us P.l).toArray:=by have h:=den_pt P;injection h
def whole_C{P:PtV}{A:Ed.Pt p}(h:PB P.l A)(hP:P.Ok):Ct F 182 [ePt P] (ptP (QB · A)):=⟨own_pwhole,by
 refine zQ [ePt P] 10 func182 rfl (by rw [ntmps182];rfl) (one_ok hP.ps) λb=>?_;have hq:=cat_pt P;refine zA rfl (zM λK0 hK0=>s_reg λK hK=>zB rfl ?_);rcases h with⟨h,rfl⟩|h
 .refine l_f (.v (.bool true)) trivial (λG S w C0 Q' _ _ hQ=>f_eq (catP P.ps) (Us pz).toArray rfl rfl rfl rfl rfl rfl (by kernel_rfl) (by rw [hq,h];exact eq_pz) hQ) rfl ?_;refine l_N hK rfl (s_yes rfl (s_reg λK2 hK2=>l_X small1_C (λ_=>rfl) rfl λ⟨r,v⟩=>l_X (at_C eb_zero v Ed.lD) (λ_=>rfl) rfl λ⟨P,hP⟩=>l_N hK2 rfl (zP ?_)));exact k_pt P hP rfl (by decide) rfl
 .refine l_f (.v (.bool false)) trivial (λG S w C0 Q' _ _ hQ=>f_eq (catP P.ps) (Us pz).toArray rfl rfl rfl rfl rfl rfl (by kernel_rfl) (by rw [hq];exact ne_pz h) hQ) rfl ?_;refine l_N hK rfl (s_no rfl (zO (hK0 _ (zA rfl (zP ?_)))));exact k_pt P ⟨h,hP⟩ rfl (by decide) rfl⟩
end
def addend_C{P:PtV}{A:Ed.Pt p}(h:PB P.l A)(hP:P.Ok):Ct Tw 220 [ePt P] (ptP (AB · A)):=⟨own_addend,by refine zQ [ePt P] 28 func220 rfl (by rw [ntmps220];rfl) (one_ok hP.ps) λb=>?_;refine zA rfl (s_reg λK hK=>l_X (whole_C h hP) (λ_=>rfl) rfl λ⟨P,h,hP⟩=>l_N hK rfl ?_);obtain⟨x,y,z,t,hX,hY,hZ,hT,hR,ht⟩:=h.nums hP;refine s_N 23 [] (by kernel_rfl) λK hK G S w0 hst=>?_;refine n_X hst (add_C hY hX) rfl λ⟨r1,v1⟩=>n_X hst (sub_C hY hX) rfl λ⟨r2,v2⟩=>n_X hst (add_C hZ hZ) rfl λ⟨r3,v3⟩=>n_X hst (add_C hT hT) rfl λ⟨r4,v4⟩=>n_X hst factor_C rfl λ⟨r5,v5⟩=>n_X hst (mul_C v4 v5) rfl λ⟨r6,v6⟩=>n_N hst rfl hK rfl (zP ?_);exact k_pt ⟨r1,r2,r3,r6⟩ ⟨⟨⟨_,_,_,_,x,y,z,t,rfl,v1,v2,v3,v6,hR,ht⟩,h.on⟩,ptv_ok v1 v2 v3 v6⟩ rfl (by decide) rfl⟩
def plus_C{P Q:PtV}{A B:Ed.Pt p}(h:PB P.l A)(hP:P.Ok)(h':AB Q.l B)(hQ:Q.Ok):Ct Tw 218 [ePt P,ePt Q] (ptP (QB · (Ed.add dd A B))):=⟨own_plus,by refine zQ [ePt P,ePt Q] 66 func218 rfl (by rw [ntmps218];rfl) (two_ok hP.ps hQ.ps) λb=>?_;obtain⟨x',y',z',t',hX',hY',hZ',hT',hR',ht'⟩:=h'.nums hQ;refine zA rfl (s_reg λK hK=>l_X (whole_C h hP) (λ_=>rfl) rfl λ⟨P,h,hP⟩=>l_N hK rfl ?_);obtain⟨x,y,z,t,hX,hY,hZ,hT,hR,ht⟩:=h.nums hP;refine s_N 16 [(5,247),(6,247)] (by kernel_rfl) λK hK G S w0 hst=>?_;refine n_X hst (sub_C hY hX) rfl λ⟨r,v⟩=>n_X hst (mul_C v hY') rfl λ⟨r1,v1⟩=>n_X hst (add_C hY hX) rfl λ⟨r,v⟩=>n_X hst (mul_C v hX') rfl λ⟨r2,v2⟩=>n_N hst rfl hK rfl ?_;refine s_N 10 [(7,247),(8,247)] (by kernel_rfl) λK hK G S w0 hst=>?_;refine n_X hst (mul_C hZ hZ') rfl λ⟨r3,v3⟩=>n_X hst (mul_C hT hT') rfl λ⟨r4,v4⟩=>n_N hst rfl hK rfl ?_;refine s_N 12 [(9,247),(10,247),(11,247),(12,247)] (by kernel_rfl) λK hK G S w0 hst=>?_;refine n_X hst (sub_C v2 v1) rfl λ⟨e,ve⟩=>n_X hst (sub_C v3 v4) rfl λ⟨f,vf⟩=>n_X hst (add_C v3 v4) rfl λ⟨g,vg⟩=>n_X hst (add_C v2 v1) rfl λ⟨i,vi⟩=>n_N hst rfl hK rfl ?_;refine s_N 13 [] (by kernel_rfl) λK hK G S w0 hst=>?_;refine n_X hst (mul_C ve vf) rfl λ⟨r5,v5⟩=>n_X hst (mul_C vg vi) rfl λ⟨r6,v6⟩=>n_X hst (mul_C vf vg) rfl λ⟨r7,v7⟩=>n_X hst (mul_C ve vi) rfl λ⟨r8,v8⟩=>n_N hst rfl hK rfl (zP ?_);have hE:=Ed.Rep.plus good h.on h'.on hR ht hR' ht' rfl rfl rfl rfl rfl rfl rfl rfl;exact k_pt ⟨r5,r6,r7,r8⟩ (QB.of v5 v6 v7 v8 hE.1 hE.2 (Ed.kW good h.on h'.on)) rfl (by decide) rfl⟩
def own_neg:Own 143:=λ_ _=>by go_simp
def neg_C{P:PtV}{A:Ed.Pt p}(h:PB P.l A)(hP:P.Ok):Ct Tw 143 [ePt P] (ptP (QB · (Ed.neg A))):=⟨own_neg,by refine zQ [ePt P] 18 func143 rfl (by rw [ntmps143];rfl) (one_ok hP.ps) λb=>?_;refine zA rfl (s_reg λK hK=>l_X (whole_C h hP) (λ_=>rfl) rfl λ⟨P,h,hP⟩=>l_N hK rfl ?_);obtain⟨x,y,z,t,hX,hY,hZ,hT,hR,ht⟩:=h.nums hP;refine s_N 13 [] (by kernel_rfl) λK hK G S w0 hst=>?_;refine n_X hst (sub_C eb_zero hX) rfl λ⟨r,v⟩=>n_X hst (sub_C eb_zero hT) rfl λ⟨s,u⟩=>n_N hst rfl hK rfl (zP ?_);exact k_pt ⟨r,P.Y,P.Z,s⟩ (QB.of v hY hZ u (Ed.Rep.y5 hR) (by rw [neg_mul1,neg_mul2,ht]) (Ed.l7 h.on)) rfl (by decide) rfl⟩
def dbl_pow{A:Ed.Pt p}(hon:Ed.On dd A){i:Nat}:Ed.mul dd (2^(i+1)) A=Ed.add dd (Ed.mul dd (2^i) A) (Ed.mul dd (2^i) A):=by rw [cB,Nat.mul_two,Ed.mul_add good hon]
def DC(n:Nat)(A:Ed.Pt p)(i:Nat)(P:PtV):Prop:=∃x y z t,EB P.X x/\EB P.Y y/\EB P.Z z/\EB P.T t/\Ed.Rep x y z (Ed.mul dd (2^i) A)/\(i=0\/i=n->t*z=x*y)
def doubled_C{P:PtV}{A:Ed.Pt p}(h:PB P.l A)(hP:P.Ok)(n:Nat)(hn:n<4294967296):Ct Tw 192 [ePt P,.c (.v (.int .i64 (n:Int)))] (ptP (PB · (Ed.mul dd (2^n) A))):=⟨own_doubled,by
 refine zQ [ePt P,.c (.v (.int .i64 (n:Int)))] 76 func192 rfl (by rw [ntmps192];rfl) (two_ok hP.ps trivial) λb=>?_;have hq:=cat_pt P;refine zA rfl (zM λK0 hK0=>s_reg λK hK=>zB rfl ?_);rcases h with⟨h,rfl⟩|h
 .refine l_f (.v (.bool true)) trivial (λG S w C0 Q' _ _ hQ=>f_eq (catP P.ps) (Us pz).toArray rfl rfl rfl rfl rfl rfl (by kernel_rfl) (by rw [hq,h];exact eq_pz) hQ) rfl ?_;refine l_N hK rfl (s_yes rfl (zA rfl (zP ?_)));exact k_pt P ⟨.inl ⟨h,Ed.mul_zero good _⟩,hP⟩ rfl (by decide) rfl
 .refine l_f (.v (.bool false)) trivial (λG S w C0 Q' _ _ hQ=>f_eq (catP P.ps) (Us pz).toArray rfl rfl rfl rfl rfl rfl (by kernel_rfl) (by rw [hq];exact ne_pz h) hQ) rfl ?_
  refine l_N hK rfl (s_no rfl (zO (hK0 _ (zM λK hK=>zA rfl (zN ?_)))));let F:Nat×PtV->Env:=λs=>⟨[(19,.v (.int .i64 (s.1:Int))),(18,.v (.int .i64 (n:Int))),(1,.v (.int .i64 (n:Int))),(4,.a 4 0),(2,.a 2 0)],[⟨4,none,249,(⟨zl,zl,zl,zl⟩:PtV).ps⟩,⟨2,none,249,s.2.ps⟩],[],Tw,λ_=>True⟩;obtain⟨x,y,z,t,hX,hY,hZ,hT,hR,ht⟩:=h.nums hP;have hon:=h.on;refine c_weak (e':=F (0,P)) ⟨zE rfl, zL rfl rfl, .refl _,λ_ h _=>h, zU⟩ (s_loop (λs=>n-s.1) F (λs=>s.1<=n/\DC n A s.1 s.2/\s.2.Ok) ?_ (0,P) ⟨aL _,⟨x,y,z,t,hX,hY,hZ,hT,by rw [jR,Ed.sI good];exact hR,λ_=>ht⟩,hP⟩);clear hX hY hZ hT hR ht h hP hq P;rintro⟨i,P⟩ ⟨hi,hD,hP⟩;dsimp only at hi hD hP;refine zA rfl (zM λK1 hK1=>?_);refine zW ((i:Int)<(n:Int)) rfl (λhlt=>?_) (λhge=>?_)
  .refine zO (hK1 _ ?_)
   refine zM λK2 hK2=>zN (zA rfl ?_);obtain⟨x,y,z,t,hX,hY,hZ,hT,hR,ht⟩:=hD;refine s_N 20 [(6,247),(7,247),(8,247),(9,247)] (by kernel_rfl) λK hK G S w0 hst=>?_;refine n_X hst (mul_C hX hX) rfl λ⟨r1,v1⟩=>n_X hst (mul_C hY hY) rfl λ⟨r2,v2⟩=>n_X hst (mul_C hZ hZ) rfl λ⟨r3,v3⟩=>n_X hst (mul_C hX hY) rfl λ⟨r4,v4⟩=>n_N hst rfl hK rfl ?_;refine s_N 9 [(10,247),(11,247),(12,247)] (by kernel_rfl) λK hK G S w0 hst=>?_;refine n_X hst (add_C v4 v4) rfl λ⟨e,ve⟩=>n_X hst (sub_C v2 v1) rfl λ⟨g,vg⟩=>n_X hst (add_C v2 v1) rfl λ⟨j,vj⟩=>n_N hst rfl hK rfl ?_;refine s_N 5 [(13,247)] (by kernel_rfl) λK hK G S w0 hst=>?_;refine n_X hst (add_C v3 v3) rfl λ⟨f0,vf0⟩=>n_X hst (sub_C vf0 vg) rfl λ⟨f,vf⟩=>n_N hst rfl hK rfl ?_;refine s_N 10 [] (by kernel_rfl) λK hK G S w0 hst=>?_;refine n_X hst (mul_C ve vf) rfl λ⟨r5,v5⟩=>n_X hst (mul_C vg vj) rfl λ⟨r6,v6⟩=>n_X hst (mul_C vf vg) rfl λ⟨r7,v7⟩=>n_N hst rfl hK rfl ?_;have hE:=Ed.Rep.dbl good (Ed.gD good hon (2^i)) hR rfl rfl rfl rfl rfl rfl rfl rfl;rw [<-dbl_pow hon] at hE;have hw:IntKind.i64.wrap ((n:Int)-1)=(n:Int)-1:=wrapI rfl (by omega) (by omega);refine zA rfl ?_;refine zW ((i:Int)=IntKind.i64.wrap ((n:Int)-1)) rfl (λhl=>?_) (λhl=>?_)
   .refine s_lit ?_;refine l_X (mul_C ve vj) (λ_=>rfl) rfl λ⟨r8,v8⟩=>zB rfl (zJ (hK2 _ (zD rfl ?_)));exact zX (i+1,⟨r5,r6,r7,r8⟩) ⟨by show i+1<=n;omega,⟨_,_,_,_,v5,v6,v7,v8,hE.1,λ_=>hE.2⟩,ptv_ok v5 v6 v7 v8⟩ (by show n-(i+1)<n-i;omega) ⟨⟨congrArg some (congrArg SV.v (congrArg (cG .i64) (wrapI rfl (by omega) (by omega)))),rfl,rfl,rfl,rfl,trivial⟩,zL rfl rfl, .refl _,λ_ h _=>h,λ_ h=>h⟩
   .refine zO (hK2 _ ?_);refine zD rfl ?_;exact zX (i+1,⟨r5,r6,r7,zl⟩) ⟨by show i+1<=n;omega,⟨_,_,_,0,v5,v6,v7,eb_zero,hE.1,λh=>by rw [hw] at hl;omega⟩,ptv_ok v5 v6 v7 eb_zero⟩ (by show n-(i+1)<n-i;omega) ⟨⟨congrArg some (congrArg SV.v (congrArg (cG .i64) (wrapI rfl (by omega) (by omega)))),rfl,rfl,rfl,rfl,trivial⟩,zL rfl rfl, .refl _,λ_ h _=>h,λ_ h=>h⟩
  .obtain rfl:i=n:=by omega
   refine s_exit (zS (zS (k_out (hK _ ?_))));obtain⟨x,y,z,t,hX,hY,hZ,hT,hR,ht⟩:=hD;refine zA rfl (zP ?_);exact k_pt P ((QB.of hX hY hZ hT hR (ht (.inr rfl)) (Ed.gD good hon _)).imp_left .inr) rfl (by decide) rfl⟩
def PB.yz{l:zj}{A:Ed.Pt p}(h:PB l A):∃X Y Z T x y z t,l=pc X Y Z T/\EB X x/\EB Y y/\EB Z z/\EB T t/\(y=z↔A=Ed.zero):=by
 rcases h with⟨rfl,rfl⟩|⟨⟨X,Y,Z,T,x,y,z,t,rfl,hX,hY,hZ,hT,hR,_⟩,hon⟩
 .exact⟨zl,zl,zl,zl,0,0,0,0,rfl,eb_zero,eb_zero,eb_zero,eb_zero,by simp⟩
 .exact⟨X,Y,Z,T,x,y,z,t,rfl,hX,hY,hZ,hT,hR.yB good hon⟩
def on_vxx{x y:F}:Ed.On dd ⟨x,y⟩↔(y*y*dd+1)*x*x=y*y-1:=by show y*y-x*x=1+dd*x*x*y*y↔_;constructor<;>intro h<;>grind only
def dec_y{b:zu}{A:Ed.Pt p}{y:F}{s:Nat}(hle:le b=y.val+57896044618658097711785492504343953926634992332820282019728792003956564819968*s)(h:fU A=b):A.y=y/\A.x.val%2=s:=by rw [<-h,l9] at hle;unfold oN at hle;have h1:=y.isLt;have h2:=A.y.isLt;have h3:=vW;exact⟨Fin.ext (by omega),by omega⟩
def dec_enc{b:zu}(hb:b.length=32){x y:F}{s:Nat}(hle:le b=y.val+57896044618658097711785492504343953926634992332820282019728792003956564819968*s)(hs:x.val%2=s):fU ⟨x,y⟩=b:=by apply nT (by rw [kZ,hb]);rw [l9,hle];unfold oN;rw [hs]
def bit7(m:Nat)(h:m<128):bits .or .u8 (m:Int) 128=((m+128:Nat):Int):=by
 have key:∀m:Nat,m<128->bits .or .u8 (m:Int) 128=((m+128:Nat):Int)   := by decide +kernel
 exact key m h
def low7(m:Nat)(h:m<256):bits .and .u8 (m:Int) 127=((m%128:Nat):Int):=by
 have key:∀m:Nat,m<256->bits .and .u8 (m:Int) 127=((m%128:Nat):Int)   := by decide +kernel
 exact key m h
def croot_C{a b:zj}{y:F}(hA:EB a (y*y-1))(hB:EB b (y*y*dd+1)) :
  ((∃x,x.val%2=0/\Ed.On dd ⟨x,y⟩/\Ct Tw 188 [eE a,eE b] (tupP x))\/((∀x,¬Ed.On dd ⟨x,y⟩)/\Ct Tw 188 [eE a,eE b] noP)):=by
 have hv:=tJ y
 by_cases hx:∃x,Ed.On dd ⟨x,y⟩
 .left
  obtain⟨x0,h0⟩:=hx;have key:∀x:F,(y*y*dd+1)*x*x=y*y-1/\x.val%2=0->x=nW x0:=λx hx=>by
   have h1:=on_vxx.1 h0;have h2:x*x=x0*x0:=by
    refine cancel dU hv ?_;have e1:x*x*(y*y*dd+1)=(y*y*dd+1)*x*x:=by grind only
    have e2:x0*x0*(y*y*dd+1)=(y*y*dd+1)*x0*x0:=by grind only
    rw [e1,e2,hx.1,h1]
   exact sD (h2.trans (rC x0).symm) (by rw [hx.2,pG])
  refine⟨nW x0,pG x0,?_,(root_C hA hB).to ?_⟩
  .rw [rL,rC];exact(rL _ _).1 h0
  .rintro⟨r,ok,⟨x,hr,_,hx,rfl⟩|⟨h|h,_⟩⟩
   .exact⟨⟨r,key x hx▸hr⟩,rfl⟩
   .exact absurd h hv
   .exact absurd (on_vxx.1 h0) (h x0)
 .refine .inr ⟨λx h=>hx ⟨x,h⟩,(root_C hA hB).to ?_⟩
  rintro⟨r,ok,⟨x,_,_,h,_⟩|⟨_,rfl,rfl⟩⟩
  .exact absurd ⟨x,on_vxx.2 h.1⟩ hx
  .exact⟨(),rfl⟩
def own_hash2:Own 138:=λ_ _=>by go_simp
def eqdC(x y:Nums.F)(w:yp):(cC 10000 47 (.agg (By (enc x)).toArray) (.agg (By (enc y)).toArray)).run prog w = .ok (decide (x=y)) w:=by rw [equal32 _ _ (iL _) (iL _)];congr 1;exact decide_eq_decide.2 ⟨xF,congrArg enc⟩
def own_csmall:Own 140:=λ_ _=>by go_simp
def small_C{P:PtV}{A:Ed.Pt p}(h:PB P.l A)(hP:P.Ok):Ct Tw 140 [ePt P] (one (.q (.c (.b (decide (fU (Ed.mul dd 8 A)=fU Ed.zero)))))):=⟨own_csmall,by refine zQ [ePt P] 12 func140 rfl (by rw [ntmps140];rfl) (one_ok hP.ps) λb=>?_;refine zA rfl (s_reg λK hK=>?_);refine l_X (doubled_C h hP 3 (by decide)) (λ_=>rfl) rfl λ⟨P,h,hP⟩=>?_;refine l_N hK rfl ?_;obtain⟨X,Y,Z,T,x,y,z,t,e,hX,hY,hZ,hT,hi⟩:=h.yz;obtain rfl:=pc_inj hP hX hY hZ e;have hi:=hi.trans ⟨congrArg fU,oM h.on Ed.lD⟩;refine s_N 8 [] (by kernel_rfl) λK hK G S w0 hst=>?_;refine n_X hst (hash_C hY) rfl λ_=>n_X hst (hash_C hZ) rfl λ_=>?_;refine n_f hst (.b (decide (fU (Ed.mul dd (2^3) A)=fU Ed.zero))) trivial (λC0 Q' _ hQ=>f_eq (By (enc y)).toArray (By (enc z)).toArray rfl rfl rfl rfl rfl rfl (by kernel_rfl) (by rw [<-decide_eq_decide.2 hi];exact eqdC y z) hQ) ?_;refine n_N hst rfl hK rfl (zP ?_);exact zG () rfl (λ_ _ _=>trivial) λ_ _=>trivial⟩
def phash_C{P:PtV}{A:Ed.Pt p}(h:PB P.l A)(hP:P.Ok):Ct Tw 138 [ePt P] (one (.q (eY 32 (fU A)))):=⟨own_hash2,by
 refine zQ [ePt P] 25 func138 rfl (by rw [ntmps138];rfl) (one_ok hP.ps) λb=>?_;refine zA rfl (s_reg λK hK=>l_X (whole_C h hP) (λ_=>rfl) rfl λ⟨P,h,hP⟩=>l_N hK rfl ?_);obtain⟨x,y,z,t,hX,hY,hZ,hT,hR,ht⟩:=h.nums hP;have haf:=hR.aff dU;refine s_reg λK hK=>l_X (inv_C hZ) (λ_=>rfl) rfl λ⟨r,v⟩=>l_N hK rfl (s_reg λK hK=>l_X (mul_C hY v) (λ_=>rfl) rfl λ⟨s,u⟩=>?_);rw [haf.2] at u;refine l_X (hash_C u) (λ_=>rfl) rfl λ_=>l_N hK rfl (zM λK0 hK0=>s_reg λK hK=>l_X (mul_C hX v) (λ_=>rfl) rfl λ⟨s,u⟩=>?_);rw [haf.1] at u;refine l_X (odd_C u) (λ_=>rfl) rfl λ_=>l_N hK rfl ?_;have h31:=rO A.y;refine zW (A.x.val%2=1) rfl (λho=>?_) (λho=>?_)
 .refine s_lit ?_
  refine l_cell rfl arr32 (aE rfl) _ (By_get (l:=enc A.y) (j:=31) (by rw [iL];decide)) ?_;refine l_auto2 rfl ?_;refine l_put rfl arr32 (aE rfl) [.agg 32 (By (fU A)).toArray] (eY_ok (kZ A)).1 ?_ ?_ (zJ (hK0 _ ?_))
  .show _<(By (enc A.y)).toArray.size;rw [len_by (iL _)];exact aE rfl
  .show By (fU A)=(By (enc A.y)).set 31 (.int .u8 (bits .or .u8 ((enc A.y)[31]!.toNat:Int) 128));rw [bit7 _ h31,wG ho,By,By,dR,mI (by show _<256;omega)]
  .refine zA rfl (zP ?_);exact zG () rfl (λ_ _ _=>trivial) λ_ _=>trivial
 .refine zO (hK0 _ ?_);refine zA rfl (zP ?_);rw [<-uM ho];exact zG () rfl (λ_ _ _=>trivial) λ_ _=>trivial⟩
def le_bit{n:zu}(i:Nat)(hi:i/8<n.length):(n[i/8]!).toNat/2^(i%8)%2=le n/2^i%2:=by
 have e1:n=n.take (i/8)++(n[i/8]! :: n.drop (i/8+1)):=by
  conv=>lhs;rw [<-b6 (i/8) n]
  rw [dZ hi,getElem!_pos n (i/8) hi]
 have e2:le n=le (n.take (i/8))+256^(i/8)*((n[i/8]!).toNat+256*le (n.drop (i/8+1))):=by
  conv=>lhs;rw [e1]
  rw [iR,aV,cA (by omega)];rfl
 have h1:=pE (n.take (i/8));rw [aV,cA (by omega)] at h1;have e3:(2:Nat)^i=256^(i/8)*2^(i%8):=by rw [show(256:Nat)=2^8 by decide,<-nP,<-kC];congr 1;omega
 rw [e2,e3,<-Nat.div_div_eq_div_mul,k8 _ _ (by exact oS (by decide)),rG h1,aY];have h8:i%8<8:=cI _ (by decide);generalize (n[i/8]!).toNat=c;generalize le (n.drop (i/8+1))=d;generalize i%8=k at *;have e4:(256:Nat)=2^k*2^(8-k):=by rw [<-kC,show k+(8-k)=8 by omega]
 rw [e4,eQ,k8 _ _ (oS (by decide))];have e5:2^(8-k)*d=2*(2^(7-k)*d):=by rw [show 8-k=(7-k)+1 by omega,cB];grind only
 rw [e5];omega
def cutb(b:zu):zu:=b.set 31 (bP ((b[31]!).toNat%128))
def cutb_len{b:zu}(hb:b.length=32):(cutb b).length=32:=by rw [cutb,bV,hb]
def le_cutb{b:zu}(hb:b.length=32):le b=le (cutb b)+57896044618658097711785492504343953926634992332820282019728792003956564819968*((b[31]!).toNat/128)/\le (cutb b)<57896044618658097711785492504343953926634992332820282019728792003956564819968:=by have h1:=le_top hb;have h2:=tV hb;have h3:=xL hb (bP ((b[31]!).toNat%128));rw [mI (by show _<256;omega)] at h3;unfold cutb;omega
def good_cutb{b:zu}(hb:b.length=32):isGood (cutb b)=decide (le (cutb b)<p):=by
 have h:=(le_cutb hb).2;have hl:=cutb_len hb;have h128:=(tM hl).2 h;unfold isGood;rw [a7 h,decide_eq_true h128,Bool.true_and];congr 1;refine propext ⟨λe=>?_,λe=>?_⟩
 .rw [<-e,nU];exact(fof _).isLt
 .exact(x7 hl (x:=fof (le (cutb b))) (by rw [lE,a7 e])).symm
def not_good{b:zu}(hb:b.length=32)(h:¬le (cutb b)<p):¬ ∃A,Ed.On dd A/\fU A=b:=by rintro⟨A,_,rfl⟩;have h1:=le_cutb hb;rw [l9] at h1;unfold oN at h1;have h2:=A.y.isLt;have h3:=vW;omega
structure DecR(b:zu) where
  P:PtV
  e:Int
  ok:(∃A,QB P.l A/\P.Ok/\fU A=b/\e=0)\/((¬ ∃A,Ed.On dd A/\fU A=b)/\P=⟨zl,zl,zl,zl⟩/\e=50)
abbrev decP(b:zu):Post (DecR b):={ ret:=λr=>.t [ePt r.P,.c (.v (.int .i64 r.e))] }
def newno_C{F:zv}[Pst F]{b:zu}(hb:b.length=32)(hg:isGood b=false):Ct F 178 [eY 32 b] noP:=new_W hb (λh=>by rw [hg] at h;cases h) λ_=>⟨(),rfl⟩
def own_decodeC:Own 139:=λ_ _=>by go_simp
def decode_C{b:zu}(hb:b.length=32):Ct Tw 139 [eY 32 b] (decP b):=⟨own_decodeC,by
 refine zQ [eY 32 b] 57 func139 rfl (by rw [ntmps139];rfl) (one_ok (eY_ok hb).1) λB=>?_;have hle:=le_cutb hb;have hgc:=good_cutb hb;have hcl:=cutb_len hb;have hlt:=(b[31]!).toNat_lt;have h31:(catP [.agg 32 (By b).toArray])[31]?=some (.int .u8 (b[31]!.toNat:Int)):=By_get (l:=b) (j:=31) (by omega);obtain⟨od,hod⟩:∃od:Bool,decide (qX (b[31]!.toNat:Int) (2^min 7 IntKind.u8.bits)=1)=od:=⟨_,rfl⟩;have hod2:od=decide (b[31]!.toNat/128=1):=by rw [<-hod];refine decide_eq_decide.2 ?_;show qX (b[31]!.toNat:Int) 128=1↔_;rw [sW _ (by decide)];omega
 refine zA rfl (s_reg λK hK=>l_cell rfl arr32 (aE rfl) _ h31 (l_auto2 rfl (l_eq 4 (.b od) rfl (congrArg _ hod) (zJ (hK _ (s_reg λK hK=>l_cell rfl arr32 (aE rfl) _ h31 (l_auto2 rfl ?_)))))));refine l_put rfl arr32 (aE rfl) [.agg 32 (By (cutb b)).toArray] (eY_ok hcl).1 ?_ ?_ (zJ (hK _ ?_))
 .show _<(By b).toArray.size;rw [len_by hb];exact aE rfl
 .show By (cutb b)=(By b).set 31 (.int .u8 (bits .and .u8 (b[31]!.toNat:Int) 127));rw [low7 _ hlt,cutb,By,By,dR,mI (by show _<256;omega)]
 refine s_reg λK hK=>?_;by_cases hg:le (cutb b)<p
 .have hle2:le b=(fof (le (cutb b))).val+57896044618658097711785492504343953926634992332820282019728792003956564819968*(b[31]!.toNat/128):=by rw [lE,a7 hg];exact hle.1
  refine l_X (newc_C (x:=fof (le (cutb b))) hcl (by rw [hgc,decide_eq_true hg]) (by rw [a7 hle.2])) (λ_=>rfl) rfl λ⟨r,v⟩=>?_;generalize fof (le (cutb b))=y at *;refine l_N hK rfl (zM λK0 hK0=>zA rfl (s_no rfl (zO (hK0 _ ?_))));refine s_N 4 [(7,247),(8,247)] (by kernel_rfl) λK hK G S w0 hst=>?_;refine n_X hst small1_C rfl λ⟨r1,v1⟩=>n_X hst (mul_C v v) rfl λ⟨r2,v2⟩=>n_N hst rfl hK rfl ?_;refine s_T (x:=.tmp 40) (z:=.tmp 41) 12 9 6 247 (by kernel_rfl) λK hK G S w0 hst=>?_;refine n_X hst (sub_C v2 v1) rfl λ⟨r3,v3⟩=>n_X hst factor_C rfl λ⟨r4,v4⟩=>n_X hst (mul_C v2 v4) rfl λ⟨r5,v5⟩=>n_X hst (add_C v5 v1) rfl λ⟨r6,v6⟩=>?_;rcases croot_C v3 v6 with⟨x,hev,hon,hR⟩|⟨hno,hR⟩
  .refine n_X hst hR rfl λ⟨r7,v7⟩=>?_
   refine n_T hst hK rfl (zM λK0 hK0=>zA rfl (s_no rfl (zO (hK0 _ (zM λK0 hK0=>zA rfl ?_)))));cases od with
   | false =>
    refine s_if false rfl (λh=>by cases h) (λ_=>?_);refine zO (hK0 _ (zM λK0 hK0=>s_reg λK hK=>l_X (odd_C v7) (λ_=>rfl) rfl λ_=>l_auto2 rfl (l_op (.b (!(_==_))) trivial rfl rfl rfl (run_neqBoolW rfl rfl rfl (λ_=>rfl) λ_=>rfl) ?_)));refine l_is 52 false rfl (by rw [decide_eq_false (by omega)];rfl) (zJ (hK _ ?_));refine s_no rfl (zO (hK0 _ (s_reg λK hK=>l_X (at_C v7 v hon) (λ_=>rfl) rfl λ⟨P,hP⟩=>l_N hK rfl (zP ?_))))
    have h00:b[31]!.toNat/128=0:=by have:=of_decide_eq_false hod2.symm;omega
    exact zG (⟨P,0,.inl ⟨_,hP.1,hP.2,dec_enc hb (s:=0) (by rw [<-h00];exact hle2) hev,rfl⟩⟩:DecR b) rfl (λ_ _ _=>trivial) λ_ _=>trivial
   | true =>
    have h01:b[31]!.toNat/128=1:=of_decide_eq_true hod2.symm;rw [h01] at hle2;refine s_if true rfl (λ_=>?_) (λh=>by cases h);refine s_lit (l_X (sub_C eb_zero v7) (λ_=>rfl) rfl λ⟨r8,v8⟩=>l_auto2 rfl (zJ (hK0 _ (zM λK0 hK0=>s_reg λK hK=>l_X (odd_C v8) (λ_=>rfl) rfl λ_=>l_auto2 rfl (l_op (.b (!(_==_))) trivial rfl rfl rfl (run_neqBoolW rfl rfl rfl (λ_=>rfl) λ_=>rfl) ?_)))))
    by_cases hx0:x=0
    .refine l_is 52 true rfl (by rw [hx0];decide) (zJ (hK _ ?_))
     refine s_yes rfl (zA rfl (zP ?_));refine zG (⟨⟨zl,zl,zl,zl⟩,50,.inr ⟨?_,rfl,rfl⟩⟩:DecR b) rfl (λ_ _ _=>trivial) λ_ _=>trivial;rintro⟨A,hA,hAb⟩;obtain⟨e1,e2⟩:=dec_y hle2 hAb;have h3:Ed.On dd ⟨A.x,y⟩:=by rw [<-e1];exact hA
     have h4:=on_vxx.1 h3;have h5:=on_vxx.1 hon;rw [<-h5,hx0] at h4;have h6:A.x=0:=by
      by_cases h:A.x=0
      .exact h
      .exact absurd (h4.trans (by grind only)) (dI dU (dI dU (tJ y) h) h)
     rw [h6] at e2;revert e2;decide
    .have hpo:(0-x:Nums.F).val%2=1:=by rw [show(0-x:Nums.F) = -x from by grind only,pQ hx0,hev]
     refine l_is 52 false rfl (by rw [decide_eq_true hpo];rfl) (zJ (hK _ ?_));refine s_no rfl (zO (hK0 _ (s_reg λK hK=>?_)));have hon2:Ed.On dd ⟨0-x,y⟩:=by rw [show(0-x:Nums.F) = -x from by grind only];exact Ed.l7 hon
     refine l_X (at_C v8 v hon2) (λ_=>rfl) rfl λ⟨P,hP⟩=>l_N hK rfl (zP ?_);exact zG (⟨P,0,.inl ⟨_,hP.1,hP.2,dec_enc hb (s:=1) hle2 hpo,rfl⟩⟩:DecR b) rfl (λ_ _ _=>trivial) λ_ _=>trivial
  .refine n_X hst hR rfl λ_=>?_;refine n_T hst hK rfl (zM λK0 hK0=>zA rfl (s_yes rfl (zA rfl (zP ?_))));refine zG (⟨⟨zl,zl,zl,zl⟩,50,.inr ⟨?_,rfl,rfl⟩⟩:DecR b) rfl (λ_ _ _=>trivial) λ_ _=>trivial;rintro⟨A,hA,hAb⟩;obtain⟨e1,_⟩:=dec_y hle2 hAb;exact hno A.x (by rw [<-e1];exact hA)
 .refine l_X (newno_C hcl (by rw [hgc,decide_eq_false hg])) (λ_=>rfl) rfl λ_=>?_;refine l_N hK rfl (zM λK0 hK0=>zA rfl (s_yes rfl (zA rfl (zP ?_))));exact zG (⟨⟨zl,zl,zl,zl⟩,50,.inr ⟨not_good hb hg,rfl,rfl⟩⟩:DecR b) rfl (λ_ _ _=>trivial) λ_ _=>trivial⟩
def Ds(l:zj):zq:=l.map λx:Nat=>.int .u8 (x:Int)
def Ds_len(l:zj):(Ds l).length=l.length:=by simp [Ds]
def Ds_get{l:zj}{j:Nat}(h:j<l.length):(Ds l).toArray[j]?=some (.int .u8 (l[j]! : Nat)):=by simp [Ds,h]
def Ds_one(l:zj):∀u∈Ds l,u.oneCell'=true:=by intro u hu;obtain⟨x,_,rfl⟩:=aZ.1 hu;rfl
def Ds_oneA(l:zj):∀v∈(Ds l).toArray.toList,v.oneCell'=true:=λv hv=>Ds_one l v (by simpa using hv)
def Ds_size{l:zj}{n:Nat}(h:l.length=n):(Ds l).toArray.size=n:=by rw [aW,Ds_len,h]
def low1(m:Nat)(h:m<256):bits .and .u8 (m:Int) 1=((m%2:Nat):Int):=by
 have key:∀m:Nat,m<256->bits .and .u8 (m:Int) 1=((m%2:Nat):Int):=by decide +kernel
 exact key m h
def shl1(k:Nat)(h:k<4):IntKind.u8.wrap (1*2^k)=((2^k:Nat):Int):=by
 have hk:k=0\/k=1\/k=2\/k=3:=by omega
 rcases hk with rfl|rfl|rfl|rfl<;>decide
def orK(k x:Nat)(hk:k<4)(hx:x<2^k):bits .or .u8 (x:Nat) ((2^k:Nat):Int)=((x+2^k:Nat):Int):=by
 have k0:∀x:Nat,x<1->bits .or .u8 (x:Int) 1=((x+1:Nat):Int):=by decide +kernel
 have k1:∀x:Nat,x<2->bits .or .u8 (x:Int) 2=((x+2:Nat):Int):=by decide +kernel
 have k2:∀x:Nat,x<4->bits .or .u8 (x:Int) 4=((x+4:Nat):Int):=by decide +kernel
 have k3:∀x:Nat,x<8->bits .or .u8 (x:Int) 8=((x+8:Nat):Int):=by decide +kernel
 have hk':k=0\/k=1\/k=2\/k=3:=by omega
 rcases hk' with rfl|rfl|rfl|rfl
 .exact k0 x hx
 .exact k1 x hx
 .exact k2 x hx
 .exact k3 x hx
def dg_nat{N i:Nat}{f:Int}{d:zj}(h:DG N i f d)(hf:¬f+4<=(i:Int)):∃m:Nat,f=m:=by
 rcases h.last with h|⟨m,h,_⟩
 .exact absurd h (by omega)
 .exact⟨m,h⟩
def arr256:Arr 295 256:=⟨_,underlying295,by kernel_rfl⟩
def own_digits:Own 219:=λ_ _=>by go_simp
abbrev eDs(d:zj):SQ:=.p [.agg 256 (Ds d).toArray]
def eDs_ok{d:zj}(h:d.length=256):OkP [.agg 256 (Ds d).toArray]:=λq hq=>by rw [aD.1 hq];exact⟨Ds_size h,Ds_oneA d⟩
abbrev digP(b:zu):Post {d:zj // d.length=256/\kJ d=le b/\∀j,j<256->d[j]! = 0\/(d[j]! % 2=1/\d[j]! < 16)}:={ ret:=λd=>.q (eDs d.1) }
def By_Ds(n:Nat):By (aB n 0)=Ds (aB n 0):=by simp [By,Ds]
def By_get0{n:Nat}{l:zu}{j:Nat}(h:j<l.length):(catP [.agg n (By l).toArray])[0+j]?=some (.int .u8 ((l[j]!).toNat:Int)):=by rw [aY];exact By_get h
def Ds_get0{n:Nat}{l:zj}{j:Nat}(h:j<l.length):(catP [.agg n (Ds l).toArray])[0+j]?=some (.int .u8 (l[j]! : Nat)):=by rw [aY];exact Ds_get h
def bit_fdiv{c i:Nat}(h:c<256)(hi:i<=8):bits .and .u8 (qX (c:Int) (2^min i IntKind.u8.bits)) 1=((c/2^i%2:Nat):Int):=by
 have e:qX (c:Int) (2^min i IntKind.u8.bits)=((c/2^i:Nat):Int):=by rw [show min i IntKind.u8.bits=i from cA hi,sW _ (Int.pow_nonneg (by decide))];simp
 rw [e,low1 _ (dC (gM _ _) h)]
def digits_C{F:zv}[Pst F]{b:zu}(hb:b.length=32):Ct F 219 [eY 32 b] (digP b):=⟨own_digits,by
 refine zQ [eY 32 b] 34 func219 rfl (by rw [ntmps219];rfl) (one_ok (eY_ok hb).1) λB=>?_;refine zA rfl (zA rfl (zA rfl (zM λK1 hK1=>zA rfl (zN ?_))));let P:Nat×Int×zj×zr->Env:=λs=>⟨[(6,.v (.int .i64 (s.1:Int))),(4,.v (.int .i64 s.2.1)),(1,.a 1 0),(2,.a 2 0),(3,.a 3 0)],[⟨3,none,295,[.agg 256 s.2.2.2]⟩,⟨2,none,295,[.agg 256 (By (aB 256 0)).toArray]⟩,⟨1,none,47,[.agg 32 (By b).toArray]⟩],[],F,λ_=>True⟩;refine c_weak (e':=P (0, -4,aB 256 0,(By (aB 256 0)).toArray)) ⟨zE rfl, zL rfl rfl, .refl _,λ_ h _=>h, zU⟩ (s_loop (λs=>256-s.1) P (λs=>s.1<=256/\DG (le b) s.1 s.2.1 s.2.2.1/\s.2.2.2=(Ds s.2.2.1).toArray) ?_ (0, -4,aB 256 0,(By (aB 256 0)).toArray) ⟨aL _,DG.start _,congrArg List.toArray (By_Ds 256)⟩);rintro⟨i,f,d,D⟩ ⟨hi,hD,hd⟩;dsimp only at hi hD hd;subst hd;refine zA rfl (zM λK2 hK2=>?_);refine zW ((i:Int)<256) rfl (λhlt=>?_) (λhge=>?_)
 .have hin:i<256:=by omega
  refine zO (hK2 _ (zM λK3 hK3=>zN (zA rfl (zM λK4 hK4=>s_reg λK hK=>l_auto2 rfl ?_))));refine l_num 10 ((i/8:Nat):Int) rfl (wrapQ i 8 (by omega)) ?_;refine l_cell rfl arr32 (by show i/8<32;omega) _ (By_get0 (l:=b) (j:=i/8) (by omega)) ?_;refine l_auto2 rfl ?_;have hbit:=le_bit (n:=b) i (by omega);have hx:=bit_fdiv (c:=b[i/8]!.toNat) (i:=i%8) (cV _) (by omega);rw [hbit] at hx;refine l_eq 17 (.b (decide (le b/2^i%2=0))) rfl (by show SV.b (decide (bits .and .u8 (qX (b[i/8]!.toNat:Int) (2^min (i%8) IntKind.u8.bits)) 1=0))=_;rw [hx];exact congrArg SV.b (decide_eq_decide.2 (by omega))) (zJ (hK _ ?_));have hw1:IntKind.i64.wrap ((i:Int)+1)=((i+1:Nat):Int):=addI i 1 (by omega);refine zW (le b/2^i%2=0) rfl (λhz=>?_) (λhz=>?_)
  .refine s_exit (zS (k_out (hK3 _ ?_)));refine zD rfl ?_;exact zX (i+1,f,d,(Ds d).toArray) ⟨hin,hD.zero hz,rfl⟩ (by show 256-(i+1)<256-i;omega) ⟨⟨congrArg (λx=>some (SV.v (.int .i64 x))) hw1,rfl,rfl,rfl,rfl,trivial⟩,zL rfl rfl, .refl _,λ_ h _=>h,λ_ h=>h⟩
  .refine zO (hK4 _ ?_)
   refine zM λK5 hK5=>?_;have hb1:le b/2^i%2=1:=by omega
   have hf4:IntKind.i64.wrap (f+4)=f+4:=by rcases hD.last with h|⟨m,h,hm,_⟩<;>rw [i64_left,wrap64_in _ (by omega)]
   refine s_reg λK hK=>l_auto2 rfl ?_;refine l_eq 21 (.b (decide ((i:Int)>=f+4))) rfl (by rw [hf4]) (zJ (hK _ ?_));have go:∀(m:Nat) (hm:m<=i) (h4:i-m<4) (hdm:d[m]! < 2^(i-m)) (hD2:DG (le b) (i+1) m (d.set m (d[m]! + 2^(i-m)))) e,SubS ((6,.v (.int .i64 (i:Int)))::(5,.v (.int .i64 (i:Int)))::(4,.v (.int .i64 (m:Int)))::(1,.a 1 0)::(2,.a 2 0)::(3,.a 3 0)::[]) e->kS B K5 34 ⟨e,(P (i,f,d,(Ds d).toArray)).L,[],F,λ_=>True⟩:=λm hm h4 hdm hD2 e he=>by
    refine k_weak (e':=⟨[(6,.v (.int .i64 (i:Int))),(5,.v (.int .i64 (i:Int))),(4,.v (.int .i64 (m:Int))),(1,.a 1 0),(2,.a 2 0),(3,.a 3 0)],(P (i,f,d,(Ds d).toArray)).L,[],F,λ_=>True⟩) ⟨he,zL rfl rfl, .refl _,λ_ h _=>h,λ_ h=>h⟩ (hK5 _ ?_);have hdl:=hD.len;refine s_drawnN 9 (by kernel_rfl) λG S w0 hst=>?_;refine n_auto2 hst rfl ?_;refine n_cell hst rfl arr256 (by show m<256;omega) _ (Ds_get0 (l:=d) (j:=m) (by omega)) ?_;refine n_auto zY hst rfl ?_;refine n_num 28 ((i-m:Nat):Int) rfl (subI i m hm (by omega)) ?_;refine n_auto2 hst rfl ?_;refine n_num 30 ((d[m]! + 2^(i-m):Nat):Int) rfl ?_ ?_
    .show bits .or .u8 (d[m]! : Int) (IntKind.u8.wrap (1*2^min (i-m) IntKind.u8.bits))=_;rw [show min (i-m) IntKind.u8.bits=i-m from cA (by show i-m<=8;omega),shl1 _ h4,orK _ _ h4 hdm]
    refine n_ix hst rfl arr256 (by show m<256;omega) ?_;refine n_L hst rfl ?_;refine l_st1 rfl [.agg 256 (Ds (d.set m (d[m]! + 2^(i-m)))).toArray] (eDs_ok (by rw [bV,hdl])) ?_ ?_ (zJ ?_)
    .show 0+m<(Ds d).toArray.size;rw [Ds_size hdl];omega
    .show Ds (d.set m _)=(Ds d).set (0+m) _;rw [aY,Ds,dR];rfl
    refine hK3 _ (zD rfl ?_);exact zX (i+1,m,d.set m (d[m]! + 2^(i-m)),_) ⟨hin,hD2,rfl⟩ (by show 256-(i+1)<256-i;omega) ⟨⟨congrArg (λx=>some (SV.v (.int .i64 x))) hw1,rfl,rfl,rfl,rfl,trivial⟩,zL rfl rfl, .refl _,λ_ h _=>h,λ_ h=>h⟩
   refine zW ((i:Int)>=f+4) rfl (λhge=>?_) (λhge=>?_)
   .refine s_lit (l_auto2 rfl (zJ ?_));have hd0:=hD.hi i (aF _) hin;refine go i (aF _) (by omega) (by rw [hd0];exact Nat.two_pow_pos _) (by rw [hd0,fL];exact hD.fresh hin hb1) _ ⟨rfl,rfl,rfl,rfl,rfl,rfl,trivial⟩
   .obtain⟨m,rfl⟩:=dg_nat hD (by omega);obtain⟨hmi,hdm,hD2⟩:=hD.more hin hb1 (by omega);exact zO (go m (by omega) (by omega) hdm hD2 _ ⟨rfl,rfl,rfl,rfl,rfl,rfl,trivial⟩)
 .obtain rfl:i=256:=by omega
  have hsum:kJ d=le b:=by have h1:=pE b;rw [hb,show(256:Nat)^32=2^256 from by decide] at h1;rw [hD.sum,a7 h1]
  refine s_exit (zS (zS (k_out (hK1 _ (zA rfl (zP ?_))))));exact zG ⟨d,hD.len,hsum,hD.odd⟩ rfl (λ_ _ _=>trivial) λ_ _=>trivial⟩
def ePt_ok{P:PtV}(h:P.Ok):OkP (ePt P).parts1/\(ePt P).cl.length=20:=⟨h.ps,by show(ePt P).den.cells.toList.length=20;rw [den_pt];show(Us P.l).length=20;rw [Us_len];exact pc_len h.X h.Y h.Z h.T⟩
structure RS where
  M:List PtV
  d:zj
  A:Ed.Pt p
structure RS.Ok(r:RS):Prop where
  m8:r.M.length=8
  ms:∀j P,r.M[j]?=some P->P.Ok/\AB P.l (Ed.mul dd (2*j+1) r.A)
  dl:r.d.length=256
  odd:∀j,j<256->r.d[j]! = 0\/(r.d[j]! % 2=1/\r.d[j]! < 16)
  on:Ed.On dd r.A
abbrev eRow(M:List PtV)(d:zj):SQ:=.p [.agg 160 (flatF ePt M).toArray,.agg 256 (Ds d).toArray]
def eRow_ok{M:List PtV}{d:zj}(h:OkF 20 ePt M)(hm:M.length=8)(hd:d.length=256):OkP (eRow M d).parts1:=λq hq=>by
 rcases aH.1 hq with rfl|hq
 .exact⟨by show(flatF ePt M).toArray.size=160;rw [aW,flatF_len h,hm],λv hv=>flatF_one h v hv⟩
 .exact eDs_ok hd q hq
abbrev rowP(A:Ed.Pt p)(b:zu):Post {r:RS // r.Ok/\r.A=A/\kJ r.d=le b}:={ ret:=λr=>.q (eRow r.1.M r.1.d) }
def own_row:Own 181:=λ_ _=>by go_simp
def z8P:List PtV:=aB 8 ⟨zl,zl,zl,zl⟩
def row_C{P:PtV}{A:Ed.Pt p}{b:zu}(h:PB P.l A)(hP:P.Ok)(hb:b.length=32):Ct Tw 181 [ePt P,eY 32 b] (rowP A b):=⟨own_row,by
 refine zQ [ePt P,eY 32 b] 27 func181 rfl (by rw [ntmps181];rfl) (two_ok hP.ps (eY_ok hb).1) λB=>?_;refine zA rfl (s_reg λK hK=>l_X (digits_C hb) (λ_=>rfl) rfl λ⟨d,hd,hs,ho⟩=>l_N hK rfl (s_reg λK hK=>?_));refine l_X (doubled_C h hP 1 (by decide)) (λ_=>rfl) rfl λ⟨P2,h2,hP2⟩=>?_;refine l_X (addend_C h2 hP2) (λ_=>rfl) rfl λ⟨W,hW,hWo⟩=>l_N hK rfl (zM λK1 hK1=>zA rfl (zN ?_));have hon:=h.on;have h0:(aB 160 (cG .u64 0)).toArray=(flatF ePt z8P).toArray:=by kernel_rfl
 have hz0:(⟨zl,zl,zl,zl⟩:PtV).Ok:=⟨rfl,rfl,rfl,rfl⟩;let V:Nat×PtV×List PtV×zr->Env:=λs=>⟨[(14,.v (.int .i64 (s.1:Int))),(2,.a 2 0),(4,.a 4 0),(5,.a 5 0),(6,.a 6 0)],[⟨6,none,293,W.ps⟩,⟨5,none,297,[.agg 160 s.2.2.2,.agg 256 (Ds d).toArray]⟩,⟨4,none,297,[.agg 160 (aB 160 (cG .u64 0)).toArray,.agg 256 (By (aB 256 0)).toArray]⟩,⟨2,none,249,s.2.1.ps⟩],[],Tw,λ_=>True⟩;refine c_weak (e':=V (0,P,z8P,(aB 160 (cG .u64 0)).toArray)) ⟨zE rfl, zL rfl rfl, .refl _,λ_ h _=>h, zU⟩ (s_loop (λs=>8-s.1) V (λs=>s.1<=8/\PB s.2.1.l (Ed.mul dd (2*s.1+1) A)/\s.2.1.Ok/\s.2.2.1.length=8/\OkF 20 ePt s.2.2.1/\(∀j P,j<s.1->s.2.2.1[j]?=some P->P.Ok/\AB P.l (Ed.mul dd (2*j+1) A))/\s.2.2.2=(flatF ePt s.2.2.1).toArray) ?_ (0,P,z8P,(aB 160 (cG .u64 0)).toArray) ⟨aL _,by rw [iI,aY,Ed.sI good];exact h,hP,bL,λx hx=>by rw [List.eq_of_mem_replicate hx];exact ePt_ok hz0,λ_ _ h=>absurd h (by omega),h0⟩);clear h hP P;rintro⟨i,P,M,C⟩ ⟨hi,h,hP,hm,hM,hj,hC⟩;dsimp only at hi h hP hm hM hj hC;subst hC;refine zA rfl (zM λK2 hK2=>?_);refine zW ((i:Int)<8) rfl (λhlt=>?_) (λhge=>?_)
 .have hin:i<8:=by omega
  refine zO (hK2 _ (zM λK3 hK3=>zN (zA rfl (s_reg λK hK=>l_X (addend_C h hP) (λ_=>rfl) rfl λ⟨Q,hQ,hQo⟩=>l_auto2 rfl ?_))));refine l_op (.a 5 (0+20*i)) trivial rfl rfl rfl (runO_ixA i rfl underlying294 (by kernel_rfl) rfl rfl hin) ?_;rw [aY];refine l_stF Q rfl rfl rfl rfl rfl hM (ePt_ok hQo) (by rw [hm];exact hin) ?_;refine zJ (hK _ (s_lit (l_X (plus_C h hP hW hWo) (λ_=>rfl) rfl λ⟨P',h',hP'⟩=>l_auto2 rfl (zJ (hK3 _ (zD rfl ?_))))));refine zX (i+1,P',M.set i Q,(flatF ePt (M.set i Q)).toArray) ⟨hin,?_,hP',by rw [bV,hm],hM.set (ePt_ok hQo),λj P hji hp=>?_,rfl⟩ (by show 8-(i+1)<8-i;omega) ⟨⟨congrArg (λx=>some (SV.v (.int .i64 x))) (addI i 1 (by omega)),rfl,rfl,rfl,rfl,trivial⟩,zL rfl rfl, .refl _,λ_ h _=>h,λ_ h=>h⟩
  .show PB P'.l (Ed.mul dd (2*(i+1)+1) A);rw [show 2*(i+1)+1=(2*i+1)+2^1 by omega,Ed.mul_add good hon];exact .inr h'
  .by_cases e:i=j
   .subst e;have hp:(M.set i Q)[i]?=some P:=hp;rw [List.getElem?_set_self (by rw [hm];exact hin)] at hp;cases hp;exact⟨hQo,hQ⟩
   .have hp:(M.set i Q)[j]?=some P:=hp;rw [List.getElem?_set_ne e] at hp;have hji:j<i+1:=hji;exact hj j P (by omega) hp
 .obtain rfl:i=8:=by omega
  refine s_exit (zS (zS (k_out (hK1 _ (zA rfl (zP ?_))))));exact zG ⟨⟨M,d,A⟩,⟨hm,λj P hp=>hj j P (by rw [<-hm];exact(aP.1 hp).1) hp,hd,ho,hon⟩,rfl,hs⟩ rfl (λ_ _ _=>trivial) λ_ _=>trivial⟩
def quo2(v:Nat)(h:v<16):IntKind.u8.wrap ((v:Int).tdiv 2)=((v/2:Nat):Int):=by
 have key:∀v:Nat,v<16->IntKind.u8.wrap ((v:Int).tdiv 2)=((v/2:Nat):Int):=by decide +kernel
 exact key v h
def dOf(rs:List RS)(j:Nat):zj:=(rs[j]?.map RS.d).getD []
def dOf_at{rs:List RS}{j:Nat}{r:RS}(h:rs[j]?=some r):dOf rs j=r.d:=by rw [dOf,h];rfl
def on_as{rs:List RS}(h:∀r∈rs,r.Ok):∀A∈rs.map RS.A,Ed.On dd A:=λA hA=>by obtain⟨r,hr,rfl⟩:=aZ.1 hA;exact(h r hr).on
def above(rs:List RS)(k:Nat):Ed.Pt p:=Ed.tot dd (rs.map RS.A) 0 λm=>kJ ((dOf rs m).drop k)
def tpart(rs:List RS)(k j:Nat):Ed.Pt p:=Ed.tot dd (rs.map RS.A) 0 λm=>if m<j then kJ ((dOf rs m).drop k) else 2*kJ ((dOf rs m).drop (k+1))
def above_end{rs:List RS}(h:∀r∈rs,r.Ok):above rs 256=Ed.zero:=by refine Ed.r9 good λj _ hj=>?_;rw [List.length_map,aY] at hj;rw [dOf_at (aJ hj),cT (by rw [(h _ (iF hj)).dl];exact aF _)];rfl
def tpart_zero{rs:List RS}(h:∀r∈rs,r.Ok)(k:Nat):tpart rs k 0=Ed.add dd (above rs (k+1)) (above rs (k+1)):=by rw [above,<-Ed.tL good (on_as h)];exact Ed.nB λj _ _=>if_neg (by omega)
def tpart_all{rs:List RS}(k:Nat):tpart rs k rs.length=above rs k :=
 Ed.nB λj _ hj=>if_pos (by simpa using hj)
def tpart_step{rs:List RS}(h:∀r∈rs,r.Ok){k j:Nat}{r:RS}(hj:rs[j]?=some r)(hk:k<256):tpart rs k (j+1)=Ed.add dd (tpart rs k j) (Ed.mul dd r.d[k]! r.A):=by
 refine Ed.sA good (on_as h) 0 j r.d[k]! _ _ r.A (by rw [List.getElem?_map,hj];rfl) ?_ λm hm=>?_
 .simp only [aY];rw [if_pos (by omega),if_neg (by omega),dOf_at hj,uD (by rw [(h r (aR hj)).dl];exact hk),iD]
 .simp only [aY] at hm
  by_cases e:m<j
  .rw [if_pos (by omega),if_pos e]
  .rw [if_neg (by omega),if_neg e]
def tpart_same{rs:List RS}(h:∀r∈rs,r.Ok){k j:Nat}{r:RS}(hj:rs[j]?=some r)(hk:k<256)(h0:r.d[k]! = 0):tpart rs k (j+1)=tpart rs k j:=by rw [tpart_step h hj hk,h0,Ed.oH,Ed.add_zero good]
def size_A{l:zj}(h:l.length=20):(prog.info? 293).map (·.size)=some (Us l).toArray.size:=size_ad (us_size h)
abbrev eRS(r:RS):SQ:=eRow r.M r.d
def RS.Ok.okF{r:RS}(h:r.Ok):OkF 20 ePt r.M:=λP hP=>by obtain⟨j,hj,rfl⟩:=List.getElem_of_mem hP;exact ePt_ok (h.ms j _ (aJ hj)).1
def RS.Ok.row{r:RS}(h:r.Ok):OkP (eRS r).parts1:=eRow_ok h.okF h.m8 h.dl
def RS.cl{r:RS}:(eRS r).cl=flatF ePt r.M++Ds r.d:=by show(catP [.agg 160 (flatF ePt r.M).toArray,.agg 256 (Ds r.d).toArray]).toList=_;rw [catP_cons];simp [Pt.cells,catP]
def RS.Ok.flat{r:RS}(h:r.Ok):(flatF ePt r.M).length=160:=by rw [flatF_len h.okF,h.m8]
section
variable{rs:List RS}{gs go c:Nat}{w:yp}{j:Nat}{r:RS}
def rs_digit(h:Rd 416 eRS (some ⟨gs,go,none⟩) c rs w)(hj:rs[j]?=some r)(hr:r.Ok){m:Nat}(hm:m<256):w.cell? ⟨gs,go+416*j+160+1*m,none⟩=some (.int .u8 (r.d[m]! : Nat)):=by obtain⟨b,o,e,_,h1⟩:=h.2.2.2.2 (by have:=(aP.1 hj).1;omega);cases e;have h2:=h1 j r hj (160+m) (.int .u8 (r.d[m]! : Nat)) (by rw [RS.cl,List.getElem?_append_right (by rw [hr.flat];omega),hr.flat,fM];have:=Ds_get (l:=r.d) (j:=m) (by rw [hr.dl];exact hm);simpa using this);rw [show go+416*j+160+1*m=go+416*j+(160+m) by omega];exact h2
def rs_mult(h:Rd 416 eRS (some ⟨gs,go,none⟩) c rs w)(hj:rs[j]?=some r)(hr:r.Ok){i:Nat}{P:PtV}(hi:r.M[i]?=some P):w.rangeAt gs (go+416*j+0+20*i) (catP P.ps).toList:=by obtain⟨b,o,e,_,h1⟩:=h.2.2.2.2 (by have:=(aP.1 hj).1;omega);cases e;obtain⟨A,Z,h2,h3,_⟩:=flatF_split hr.okF hi;have h4:=range_in (A:=A) (B:=(ePt P).cl) (Z:=Z++Ds r.d) (h1 j r hj) (by rw [RS.cl,h2,aT,aT]);rw [h3] at h4;rw [cD];exact h4
end
def own_total:Own 180:=λ_ _=>by go_simp
def total_C{rs:List RS}{A:zt}{c0:Nat}(hok:∀r∈rs,r.Ok)(hlen:rs.length<4294967296):Ct (λw=>Tw w/\Rd 416 eRS A c0 rs w) 180 [.c (.v (.slice A rs.length c0))] (ptP (PB · (above rs 0))):=⟨own_total,by
 refine zQ [.c (.v (.slice A rs.length c0))] 45 func180 rfl (by rw [ntmps180];rfl) (one_ok trivial) λB=>?_;refine zA rfl (zA rfl (zA rfl (zM λK1 hK1=>zA rfl (zN ?_))));have hz0:(⟨zl,zl,zl,zl⟩:PtV).Ok:=⟨rfl,rfl,rfl,rfl⟩;let L:PtV->ze:=λP=>[⟨3,none,249,P.ps⟩,⟨2,none,249,(⟨zl,zl,zl,zl⟩:PtV).ps⟩];let V:Nat×Nat×PtV->Env:=λs=>⟨[(8,.v (.int .i64 (s.1:Int))),(4,.v (.int .i64 (s.2.1:Int))),(0,.v (.slice A rs.length c0)),(2,.a 2 0),(3,.a 3 0)],L s.2.2,[],λw=>Tw w/\Rd 416 eRS A c0 rs w,λ_=>True⟩;refine c_weak (e':=V (0,0,⟨zl,zl,zl,zl⟩)) ⟨zE rfl, zL rfl rfl, .refl _,λ_ h _=>h, zU⟩ (s_loop (λs=>256-s.1) V (λs=>s.1<=256/\s.2.1<=s.1/\s.2.2.Ok/\∃P,PB s.2.2.l P/\Ed.mul dd (2^s.2.1) P=above rs (256-s.1)) ?_ (0,0,⟨zl,zl,zl,zl⟩) ⟨aL _,aF _,hz0,Ed.zero,.inl ⟨rfl,rfl⟩,by rw [jR,Ed.mul_zero good];exact(above_end hok).symm⟩);rintro⟨i,c,W⟩ ⟨hi,hc,hW,P,hP,hs⟩;dsimp only at hi hc hW hP hs;refine zA rfl (zM λK2 hK2=>?_);refine zW ((i:Int)<256) rfl (λhlt=>?_) (λhge=>?_)
 .refine zO (hK2 _ ?_)
  refine zM λK3 hK3=>zN (zA rfl (zA rfl (zA rfl (zN ?_))));obtain⟨k,hk⟩:∃k,256-i=k+1:=⟨255-i,by omega⟩;have hk2:255-(i:Int)=(k:Int):=by omega
  let V2:Nat×Nat×PtV->Env:=λs=>⟨[(15,.v (.int .i64 (s.1:Int))),(14,.v (.int .i64 (rs.length:Int))),(5,.v (.int .i64 (i:Int))),(8,.v (.int .i64 (i:Int))),(4,.v (.int .i64 (s.2.1:Int))),(0,.v (.slice A rs.length c0)),(2,.a 2 0),(3,.a 3 0)],L s.2.2,[],λw=>Tw w/\Rd 416 eRS A c0 rs w,λ_=>True⟩;refine c_weak (e':=V2 (0,c+1,W)) ⟨⟨rfl,rfl,rfl,rfl,congrArg (λx=>some (SV.v (.int .i64 x))) (addI c 1 (by omega)),rfl,rfl,rfl,trivial⟩,zL rfl rfl, .refl _,λ_ h _=>h,λ_ h=>h⟩ (s_loop (λs=>rs.length-s.1) V2 (λs=>s.1<=rs.length/\s.2.1<=i+1/\s.2.2.Ok/\∃P,PB s.2.2.l P/\Ed.mul dd (2^s.2.1) P=tpart rs k s.1) ?_ (0,c+1,W) ⟨aL _,by show c+1<=i+1;omega,hW,P,hP,by rw [dbl_pow hP.on,hs,hk,<-tpart_zero hok]⟩);clear hs hP hW hc P;rintro⟨j,c2,W2⟩ ⟨hj,hc,hW,P,hP,hs⟩;dsimp only at hj hc hW hP hs;refine zA rfl (zM λK5 hK5=>?_);refine zW ((j:Int)<(rs.length:Int)) rfl (λhlt=>?_) (λhge=>?_)
  .have hjn:j<rs.length:=by omega
   refine zO (hK5 _ (zM λK6 hK6=>zN (zA rfl ?_)));have hr:rs[j]?=some rs[j]:=aJ hjn;have hrok:=hok _ (iF hjn);have hodd:=hrok.odd k (by omega);have hstep:=tpart_step hok hr (k:=k) (by omega);have hsame:=tpart_same hok hr (k:=k) (by omega);generalize rs[j]=r at *;refine s_pure (∃b o,A=some ⟨b,o,none⟩) (λw h _=>by obtain⟨b,o,e,_⟩:=h.2.2.2.2.2 (by omega);exact⟨b,o,e⟩) λ⟨gs,go,hA⟩=>?_;subst hA;have hw1:IntKind.i64.wrap ((j:Int)+1)=((j+1:Nat):Int):=addI j 1 (by omega);refine s_reg λK hK=>zB rfl ?_;refine l_num 21 (k:Int) rfl (by rw [hk2,i64_left,wrap64_in _ (by omega)]) ?_;refine l_op (.v (.pointer (some ⟨gs,go+416*j,none⟩))) trivial rfl rfl rfl (runO_ixS j rfl underlying330 (by kernel_rfl) rfl rfl hjn) ?_;refine zB rfl ?_;refine l_op (.v (.pointer (some ⟨gs,go+416*j+160+1*k,none⟩))) trivial rfl rfl rfl (runO_ixP k rfl underlying295 (by kernel_rfl) rfl rfl (by omega)) ?_;refine l_opV (.v (.int .u8 (r.d[k]! : Nat))) trivial rfl rfl rfl (run_ldM rfl rfl underlying5 rfl λG S w hw=>rs_digit hw.fact.2 hr hrok (by omega)) ?_;refine l_N hK rfl (zA rfl ?_);generalize hv:r.d[k]! = v at *;refine zW ((v:Int)>0) rfl (λhv0=>?_) (λhv0=>?_)
   .have hvo:v%2=1/\v<16:=by omega
    have hm8:=hrok.m8;obtain⟨Q,hQ⟩:∃Q,r.M[v/2]?=some Q:=⟨_,aJ (by omega)⟩;obtain⟨hQo,hQB⟩:=hrok.ms _ _ hQ;rw [show 2*(v/2)+1=v from by omega] at hQB;refine s_N 12 [] (by kernel_rfl) λK hK G S w0 hst=>?_;refine n_X hst ((doubled_C hP hW c2 (by omega)).imp λ_ h=>h.1) rfl λ⟨P',hP',hPo'⟩=>?_;refine n_auto zY hst rfl (n_num 34 ((v/2:Nat):Int) rfl (quo2 v hvo.2) ?_);refine n_op hst (.v (.pointer (some ⟨gs,go+416*j,none⟩))) trivial rfl rfl rfl (runO_ixS j rfl underlying330 (by kernel_rfl) rfl rfl hjn) ?_;refine n_auto zY hst rfl ?_;refine n_op hst (.v (.pointer (some ⟨gs,go+416*j+0+20*(v/2),none⟩))) trivial rfl rfl rfl (runO_ixP (v/2) rfl underlying294 (by kernel_rfl) rfl rfl (by omega)) ?_;refine n_opV hst (.q (ePt Q)) hQo.ps rfl rfl rfl (run_ldR rfl rfl underlying293 rfl (by rw [cat_pt];exact size_A (pc_len hQo.X hQo.Y hQo.Z hQo.T)) rfl λG S w hw=>rs_mult hw.fact.2 hr hrok hQ) ?_;refine n_X hst ((plus_C hP' hPo' hQB hQo).imp λ_ h=>h.1) rfl λ⟨P3,hP3,hPo2⟩=>n_N hst rfl hK rfl (zD rfl (hK6 _ (zD rfl ?_)));rw [hs,<-hstep] at hP3;exact zX (j+1,0,P3) ⟨hjn,aL _,hPo2,_,.inr hP3,by rw [jR,Ed.sI good]⟩ (by show rs.length-(j+1)<rs.length-j;omega) ⟨⟨congrArg (λx=>some (SV.v (.int .i64 x))) hw1,rfl,rfl,rfl,rfl,rfl,rfl,rfl,trivial⟩,zL rfl rfl, .refl _,λ_ h _=>h,λ_ h=>h⟩
   .refine zO (hK6 _ ?_);refine zD rfl ?_;exact zX (j+1,c2,W2) ⟨hjn,hc,hW,P,hP,hs.trans (hsame (by omega)).symm⟩ (by show rs.length-(j+1)<rs.length-j;omega) ⟨⟨congrArg (λx=>some (SV.v (.int .i64 x))) hw1,rfl,rfl,rfl,rfl,rfl,rfl,rfl,trivial⟩,zL rfl rfl, .refl _,λ_ h _=>h,λ_ h=>h⟩
  .obtain rfl:j=rs.length:=by omega
   rw [tpart_all] at hs;refine s_exit (zS (zS (k_out (hK3 _ (zD rfl ?_)))));exact zX (i+1,c2,W2) ⟨by show i+1<=256;omega,hc,hW,P,hP,by rw [hs];congr 1;show k=256-(i+1);omega⟩ (by show 256-(i+1)<256-i;omega) ⟨⟨congrArg (λx=>some (SV.v (.int .i64 x))) (addI i 1 (by omega)),rfl,rfl,rfl,rfl,trivial⟩,zL rfl rfl, .refl _,λ_ h _=>h,λ_ h=>h⟩
 .obtain rfl:i=256:=by omega
  refine s_exit (zS (zS (k_out (hK1 _ (s_reg λK hK=>?_)))));refine l_X ((doubled_C hP hW c (by omega)).imp λ_ h=>h.1) (λ_=>rfl) rfl λ⟨P',hP',hPo⟩=>?_;refine l_N hK rfl (zP ?_);rw [hs] at hP';exact k_pt P' ⟨hP',hPo⟩ rfl (by decide) rfl⟩
def above1(r:RS):above [r] 0=Ed.mul dd (kJ r.d) r.A:=by show Ed.add dd (Ed.mul dd (kJ (r.d.drop 0)) r.A) Ed.zero=_;rw [Ed.add_zero good,jC]
def above2(r s:RS):above [r,s] 0=Ed.add dd (Ed.mul dd (kJ r.d) r.A) (Ed.mul dd (kJ s.d) s.A):=by show Ed.add dd (Ed.mul dd (kJ (r.d.drop 0)) r.A) (Ed.add dd (Ed.mul dd (kJ (s.d.drop 0)) s.A) Ed.zero)=_;rw [Ed.add_zero good,jC,jC]
def okF_rs{rs:List RS}(h:∀r∈rs,r.Ok):OkF 416 eRS rs:=λr hr=>⟨(h r hr).row,by rw [RS.cl,aA,(h r hr).flat,Ds_len,(h r hr).dl]⟩
def own_cmul:Own 137:=λ_ _=>by go_simp
def own_both:Own 142:=λ_ _=>by go_simp
def pmul_C{P:PtV}{A:Ed.Pt p}{b:zu}(h:PB P.l A)(hP:P.Ok)(hb:b.length=32):Ct Tw 137 [ePt P,eY 32 b] (ptP (PB · (Ed.mul dd (le b) A))):=⟨own_cmul,by
 refine zQ [ePt P,eY 32 b] 10 func137 rfl (by rw [ntmps137];rfl) (two_ok hP.ps (eY_ok hb).1) λB=>?_;refine zA rfl (s_reg λK hK=>l_X (row_C h hP hb) (λ_=>rfl) rfl λ⟨r,hr,hA,hs⟩=>?_);have hok:∀x∈[r],x.Ok:=λx hx=>by rw [aD.1 hx];exact hr
 refine l_list (fe:=eRS) zY B.B.heap.size [r] rfl rfl rfl rfl rfl (λ_=>rfl) rfl (aE rfl) (aE rfl) (okF_rs hok) (aF _) λA'=>l_freeM 0 rfl (aF _) (zI (own:=[]) (F':=λw=>Tw w/\Rd 416 eRS A' 1 [r] w) [.slice A' [r].length 1] own_total rfl (total_C hok (aE rfl)).spec (λw h1 h2=>⟨h1,h2.1⟩) λ⟨P',hP',hPo⟩=>l_N hK rfl (zP ?_));rw [above1,hA,hs] at hP';exact k_pt P' ⟨hP',hPo⟩ rfl (by decide) rfl⟩
def both_C{P:PtV}{A:Ed.Pt p}{n m:zu}(hn:n.length=32)(h:PB P.l A)(hP:P.Ok)(hm:m.length=32):Ct Tw 142 [eY 32 n,ePt P,eY 32 m] (ptP (PB · (Ed.add dd (Ed.mul dd (le n) base) (Ed.mul dd (le m) A)))):=⟨own_both,by
 refine zQ [eY 32 n,ePt P,eY 32 m] 15 func142 rfl (by rw [ntmps142];rfl) (λu hu=>by
  rcases aH.1 hu with rfl|hu
  .exact(eY_ok hn).1
  .exact two_ok (v:=ePt P) (v2:=eY 32 m) hP.ps (eY_ok hm).1 u hu) λB=>?_
 refine zA rfl ?_;refine s_regH 8 (by decide) rfl (by kernel_rfl) λK hK G S w0 hst=>?_;refine h_X hst base_C rfl (λ_ _ hw _=>hw.fact) λ⟨P1,h1,hP1⟩=>h_X hst (row_C (.inr h1) hP1 hn) rfl (λ_ _ hw _=>hw.fact) λ⟨r,hr,hA,hs⟩=>h_X hst (row_C h hP hm) rfl (λ_ _ hw _=>hw.fact) λ⟨s,hr2,hA2,hs2⟩=>?_;have hok:∀x∈[r,s],x.Ok:=λx hx=>by
  rcases aH.1 hx with rfl|hx
  .exact hr
  .rw [aD.1 hx];exact hr2
 refine h_litF eRS zY [r,s] (okF_rs hok) rfl rfl rfl rfl rfl rfl (λ_=>rfl) rfl (aE rfl) (aE rfl) λg=>?_;refine h_callE (F':=λw=>Tw w/\Rd 416 eRS (some ⟨g,0,none⟩) 2 [r,s] w) hst [.slice (some ⟨g,0,none⟩) 2 2] rfl rfl rfl rfl own_total rfl rfl (λ_=>rfl) (total_C hok (aE rfl)).spec (λw hw hu=>⟨hw.fact,hu 6 _ rfl (by kernel_rfl)⟩) λ⟨P',hP',hPo⟩ _=>?_;refine h_end hst (l_N hK rfl (zP ?_));rw [above2,hA,hs,hA2,hs2] at hP';exact k_pt P' ⟨hP',hPo⟩ rfl (by decide) rfl⟩
section
variable{b:Base}{Q:Exit → Act → yp → Prop}{ops:zp}{N fuel i k:Nat}{E:SE}{L L0:ze}{R R' own:zd}{F M F' Inv:yp → Prop}{o:yk}{rest:zo}{p:Nat → Bool}{Fin:zn → Act → yp → Prop}{listed:zn}{v:SV}
def z7(i:Nat)(hc:frontP ops p i listed=true)(h:(ops[i]?, o.guard, o.dst, Nat.blt k N, stillG o.op, stepS TY E L0 o.op)=(some o, none, some k, true, true, some v))(hsub:∀x∈L0, x∈L)(hI:∀w, Inv w → InvL L0 w)
   (hn:pS prog b Q N ops Inv p Fin fuel (listed.setIfInBounds i true) ⟨(k, v)::E, L, R, F, M⟩):pS prog b Q N ops Inv p Fin (fuel+1) listed ⟨E, L, R, F, M⟩ := by
  simp only [Prod.mk.injEq] at h;obtain⟨h1, h2, h3, h4, h5, h6⟩ := h;exact p_frontS zY i hc h1 h2 h3 h4 h5 h6 hsub hI hn
def z9(i:Nat)(hc:frontP ops p i listed=true)(h:(ops[i]?, o.guard, o.dst, Nat.blt k N, stillG o.op, stepS TY E L0 o.op)=(some o, none, some k, true, true, some v))(hsub:∀x∈L0, x∈L)
   (hn:pS prog b Q N ops (InvL L0) p Fin fuel (listed.setIfInBounds i true) ⟨(k, v)::E, L, R, F, M⟩):pS prog b Q N ops (InvL L0) p Fin (fuel+1) listed ⟨E, L, R, F, M⟩ := z7 i hc h hsub (fun _ h => h) hn
end
end Go.Proofs.Q
