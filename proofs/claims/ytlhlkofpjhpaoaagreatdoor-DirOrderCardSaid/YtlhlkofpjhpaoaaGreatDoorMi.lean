import Derived.Test.YtlhlkofpjhpaoaaGreatDoorMh
import Derived.Test.YtlhlkofpjhpaoaaGreatDoorMf
import Derived.Test.YtlhlkofpjhpaoaaGreatDoorMb
import Derived.Test.YtlhlkofpjhpaoaaGreatDoorMg
import Derived.StillTailTactics
import Derived.Test.YtlhlkofpjhpaoaaGreatDoorMd
import Derived.Test.YtlhlkofpjhpaoaaGreatDoorMe
set_option maxRecDepth 100000
set_option maxHeartbeats 1000000
open And renaming intro->eH
open Go.IntKind renaming wrap_u64->aZ
open Go.Lib renaming hid->dG
open Go.Value renaming pointer->oJ
open List renaming replicate->aA,length_append->aD,mem_singleton->aF,mem_cons_of_mem->aI,mem_cons->aJ,mem_cons_self->aM,size_toArray->aT,length_take->aY,take_of_length_le->bC,length_replicate->bE,pairwise_cons->bN,mem_map->bU,length_set->bV,ext_getElem->dB,length_drop->dE,take_append_of_le_length->fN,drop_of_length_le->gC,drop_eq_getElem_cons->gQ,nil_append->g9,not_mem_nil->jD,find?_eq_none->jZ,mem_of_find?_eq_some->kB,range->l6,foldl_append->oE
open Nat renaming le_refl->aH,mod_eq_of_lt->aX,lt_of_lt_of_le->bZ,pow_succ->b9,mod_lt->cA,mul_comm->cU,add_zero->dN,reducePow->dX,mul_assoc->fH,pow_zero->kH,mul_zero->k7,mul_mod->lQ,add_mul_mod_self_left->l5,le_of_lt->rF
open Option.some renaming injEq->aU
open UInt8 renaming ofNat->a9,toNat_lt->dW
namespace Go.Proofs.YtlhlkofpjhpaoaaGreatDoor
open Go.RowKit Go.IntWalk Nums
theorem own_lay512:Own 135:=λ_ _=>by go_simp
theorem own_sum512:Own 101:=λ_ _=>by go_simp
structure Tsh(w:World):Prop where
  steps:Ts w
  cell:∀i,i<8->w.cell? ⟨0,i,none⟩=some (.int .u64 (sqs[i]! : Nat))
  lt : 0 < w.heap.size
theorem Tsh.below{w w':World}(h:Tsh w)(hb:Below w.heap.size w w'):Tsh w' :=
 ⟨h.steps.below hb,λi hi=>(hb.cell (p:=⟨0,i,none⟩) h.lt).trans (h.cell i hi),bZ h.lt hb.size⟩
def start512:Oct:=⟨sqs[0]!,sqs[1]!,sqs[2]!,sqs[3]!,sqs[4]!,sqs[5]!,sqs[6]!,sqs[7]!⟩
theorem start512_ob:OB 64 start512:=by
 constructor<;>decide
theorem start512_list:start512.list=sqs:=by decide
theorem Tsh.range{w:World}(h:Tsh w):w.rangeAt 0 0 (Us sqs):=λj v hv=>by
 rw [Nat.zero_add]
 have hj:j<8:=by
  have:=(List.getElem?_eq_some_iff.1 hv).1;rw [Us_len] at this;exact this
 rw [h.cell j hj];have h1:(Us sqs).toArray[j]?=some (.int .u64 (sqs[j]! : Nat)):=Us_at (show j<sqs.length from hj);rw [<-h1]
 simpa using hv
theorem OB.list_lt{o:Oct}(h:OB 64 o):∀x∈o.list,x<18446744073709551616:=by
 intro x hx
 simp only [Oct.list,aJ,jD,or_false] at hx
 rcases hx with rfl|rfl|rfl|rfl|rfl|rfl|rfl|rfl
 ·exact h.a
 ·exact h.b
 ·exact h.c
 ·exact h.d
 ·exact h.e
 ·exact h.f
 ·exact h.g
 ·exact h.h
instance pst_sh:Pst Tsh:=⟨λ_ _ h hb=>h.below hb⟩
theorem rd_obj{L:List LV}{R:List Res}{F M:World->Prop}{g t:Nat}{ps:List Pt}(i:Nat)(hi:R[i]?=some (ObjS g t ps)):∀G S w,View G S L R F M w->ObjF g t ps w:=λ_ _ _ h=>by
 obtain⟨S1,_,h1,_⟩:=h.res.at hi;exact h1.1
theorem own_take512:Own 133:=λ_ _=>by go_simp
theorem ob_runw{s:Sha}{B:Nat}:∀(n:Nat) (o:Oct) (l:List UInt8),l.length<=n->OB s.w o->OB s.w (fA s B o l)
 | n,o,l,hn,ho=>by
  rw [fA]
  split
  ·exact ho
  ·cases n with
   | zero=>omega
   | succ n=>exact ob_runw n _ _ (by rw [dE];omega) (OB.fD _ _ _)
def k512:BK:=⟨c7,128,217,228,λo=>[.agg 8 (Us o.list).toArray],133⟩
theorem k512_ok:k512.Ok where
 n64:=by decide
 n128:=by decide
 own:=own_take512
 tk:=λ{gh gb o b} ho hb=>by
  refine spec_S (own:=k512.R gh gb o b) [.c (.v (atG gh)),.c (.v (atG gb))] 5 Tryz.func133 rfl (by rw [Tryz.ntmps133];rfl) (two_ok trivial trivial) λB=>?_;refine s_lit (l_ldO TY_ok rfl rfl rfl rfl rfl rfl (rd_obj 0 rfl) (l_ldO TY_ok rfl rfl rfl rfl rfl rfl (rd_obj 1 rfl) ?_));refine l_X (turn512_C ho hb) (λ_=>rfl) rfl λ_=>l_stO TY_ok 0 rfl rfl rfl rfl rfl rfl rfl (l_E rfl ?_);exact k_ret TY_ok () rfl (by decide) rfl rfl rfl (λ_ _ _=>trivial) λ_ _=>trivial
theorem lay512_C{F:World->Prop}{o:Oct}(ho:OB 64 o):Ct F 135 [eW 8 o.list] (one (.q (eY 64 (o.list.map (g7 c7)).flatten))):=⟨own_lay512,Spec.pure (eY_ok (by rw [jV (g7 c7) λx=>jT c7 x];rfl)).1 λw _=>lay512_f rfl (OB.list_lt ho) w⟩
theorem sum512_C{P:Option Addr}{pc:Nat}{ss:List Seg}(hn:ss.length<=9223372036854775807):Ct (λw=>Tsh w/\PartsF P pc ss w) 101 [.c (.v (.slice P ss.length pc))] (one (.q (eY 64 (cE c7 (ss.map Seg.l).flatten)))):=⟨own_sum512,by
 refine spec_S [.c (.v (.slice P ss.length pc))] 12 Tryz.func101 rfl (by rw [Tryz.ntmps101];rfl) (one_ok trivial) λB=>?_;refine s_auto TY_ok rfl ?_;refine s_reg λK hK=>l_opV (.q (eW 8 start512.list)) (eW_ok rfl) rfl rfl rfl (run_ldR (g:=0) (off:=0) (cs:=(Us start512.list).toArray) rfl rfl Tryz.underlying217 rfl (size_w8 _ rfl) rfl λ_ _ _ hv=>by rw [start512_list];exact hv.fact.1.range) (l_N hK rfl ?_);refine s_reg λK hK=>l_auto2 rfl (s_end (k_give 4 rfl (E':=[(0,.v (.slice P ss.length pc)),(2,.a 2 0),(3,.a 3 0)]) ⟨rfl,rfl,rfl,trivial⟩ λgb=>k_give 3 rfl (E':=[(4,.v (atG gb)),(0,.v (.slice P ss.length pc)),(2,.a 2 0)]) ⟨rfl,rfl,rfl,trivial⟩ λgh=>hK _ ?_));refine s_reg λK hK=>l_op (.v (.slice (some ⟨gb,0,none⟩) 128 128)) trivial rfl rfl rfl (runO_allP rfl Tryz.underlying228 size_u8 rfl) (l_autoS TY_ok rfl (l_op (.v (k512.take gh gb)) trivial rfl rfl rfl (run_makeF (vals:=[atG gh,atG gb]) rfl rfl λ_=>rfl) ?_));refine l_callA (own:=k512.R gh gb start512 (aA 128 0)) (R':=[]) [.slice (some ⟨gb,0,none⟩) 128 128,.slice P ss.length pc,k512.take gh gb] rfl rfl rfl own_fill rfl rfl (λ_ _=>rfl) (fill_S k512_ok start512_ob bE hn) (λw h _=>⟨h.1.steps,h.2⟩) λb'=>?_;have hD:((fA c7 128 start512 ((ss.map Seg.l).flatten++dT 128 ((ss.map Seg.l).flatten.length%128) (8*(ss.map Seg.l).flatten.length))).list.map (g7 c7)).flatten=cE c7 (ss.map Seg.l).flatten:=rfl;have hO:OB 64 (fA c7 128 start512 ((ss.map Seg.l).flatten++dT 128 ((ss.map Seg.l).flatten.length%128) (8*(ss.map Seg.l).flatten.length))):=ob_runw (s:=c7) _ _ _ (aH _) start512_ob;refine l_R (k512.R gh gb (fA c7 128 start512 ((ss.map Seg.l).flatten++dT 128 ((ss.map Seg.l).flatten.length%128) (8*(ss.map Seg.l).flatten.length))) b'.1) rfl (l_N hK rfl ?_);generalize fA c7 128 start512 ((ss.map Seg.l).flatten++dT 128 ((ss.map Seg.l).flatten.length%128) (8*(ss.map Seg.l).flatten.length))=o at *;refine s_freeO 0 rfl (s_freeO 0 rfl ?_);refine s_reg λK hK=>l_ldO TY_ok rfl rfl rfl rfl rfl rfl (λ_ _ _ hv=>hv.fact.2.1) (l_X (lay512_C hO) (λ_=>rfl) rfl λ_=>l_N hK rfl (s_ret ?_));rw [hD]
 exact k_ret TY_ok () rfl (by decide) rfl rfl rfl (λ_ _ _=>trivial) λ_ _=>trivial⟩
theorem sum512_f(A:Option Addr)(ls:List (List UInt8))(pc:Nat)(w:World)(hT:Tsh w)(hA:Parts w w.heap.size A ls)(hpc:ls.length<=pc)(hpm:pc<=9223372036854775807) :
  Calls Tryz.prog 101 #[.slice A ls.length pc] w λe w'=>e = .returned (.agg (By (cE c7 ls.flatten)).toArray)/\Below w.heap.size w w':=by
 obtain⟨ss,rfl,h⟩:=segs_of ⟨hpc,hpm⟩ hA;rw [List.length_map] at *;exact(sum512_C (by omega)).row ⟨hT,h⟩
end Go.Proofs.YtlhlkofpjhpaoaaGreatDoor
namespace Nums
theorem oP:bP 1224481:=cW (k:=1107) (by decide) (by decide +kernel) (by decide +kernel)
theorem pH:bP 531581:=cW (k:=730) (by decide) (by decide +kernel) (by decide +kernel)
theorem tG:bP 41:=cW (k:=7) (by decide) (by decide) (by decide +kernel)
theorem q8:bP 2851:=cW (k:=54) (by decide) (by decide) (by decide +kernel)
theorem sG:bP 269:=cW (k:=17) (by decide) (by decide) (by decide +kernel)
theorem uP:bP 7:=cW (k:=3) (by decide) (by decide) (by decide +kernel)
theorem tH:bP 11:=cW (k:=4) (by decide) (by decide) (by decide +kernel)
theorem tF:bP 1257559732178653:=fR (q1:=1224481) (q2:=531581) (a:=2) (k:=51) oP pH (by decide +kernel)
theorem tE:bP 4434155615661930479:=fR (q1:=1257559732178653) (q2:=41) (a:=3) (k:=62) tF tG (by decide +kernel)
theorem tD:bP 172054593956031949258510691:=fR (q1:=4434155615661930479) (q2:=2851) (a:=2) (k:=88) tE q8 (by decide +kernel)
theorem tC:bP 19757330305831588566944191468367130476339:=fR (q1:=172054593956031949258510691) (q2:=269) (a:=2) (k:=134) tD sG (by decide +kernel)
theorem tB:bP 276602624281642239937218680557139826668747:=fR (q1:=19757330305831588566944191468367130476339) (q2:=7) (a:=2) (k:=138) tC uP (by decide +kernel)
theorem rQ:bP LL:=fR (q1:=276602624281642239937218680557139826668747) (q2:=11) (a:=2) (k:=253) tB tH (by decide +kernel)
theorem vA:base≠Ed.zero:=λh=>by
 have h1:=congrArg Ed.Pt.y h;have h2:(fof bY:F).val=(1:F).val:=congrArg Fin.val h1;rw [val_one cQ,jI] at h2
 revert h2
 decide
theorem uS(n:Nat):Ed.mul dd n base=Ed.zero↔LL∣n:=by
 constructor
 ·intro h
  by_cases hd:LL∣n
  ·exact hd
  ·exfalso
   have hf:=rA rQ hd;obtain⟨e,he⟩:∃e,LL-1=e+1:=⟨LL-2,by decide⟩;rw [he,b9] at hf;generalize n^e=c at hf
   have h1:n*c=LL*(c*n/LL)+1:=by
    have:=Nat.div_add_mod (c*n) LL;rw [hf] at this;rw [cU n c];exact this.symm
   exact vA (Ed.uH good fI h order h1)
 ·rintro⟨c,rfl⟩
  rw [Ed.lC good fI,order,Ed.mul_zero good]
def lZ(x:Nat):Nat:=x%28948022309329048855892746252171976963317496166410141009864396001978282409984/8*8+28948022309329048855892746252171976963317496166410141009864396001978282409984
theorem uD(x:Nat):¬LL∣lZ x:=by
 rintro⟨c,hc⟩
 obtain⟨y,hy⟩:∃y,y=x%28948022309329048855892746252171976963317496166410141009864396001978282409984:=⟨_,rfl⟩
 have hy2:y<28948022309329048855892746252171976963317496166410141009864396001978282409984:=by rw [hy];exact cA _ (by decide)
 have h0:lZ x=y/8*8+28948022309329048855892746252171976963317496166410141009864396001978282409984:=by rw [hy];rfl
 rw [h0] at hc
 have h8:LL*c%8=0:=by rw [<-hc];omega
 have h1:LL*c<LL*8:=by
  rw [<-hc];refine bZ (m:=57896044618658097711785492504343953926634992332820282019728792003956564819968) ?_ (by decide)
  omega
 have h2:0<LL*c:=by rw [<-hc];omega
 have hc8:c<8:=Nat.lt_of_mul_lt_mul_left h1;clear hc h0 hy hy2 h1
 have h5:LL*c%8=5*c%8:=by rw [lQ,show LL%8=5 from by decide,lQ 5 c,show 5%8=5 from rfl]
 rw [h5] at h8
 have hcz:c=0:=by omega
 rw [hcz,k7] at h2;exact absurd h2 (by decide)
theorem qI(x:Nat):Ed.mul dd 8 (Ed.mul dd (lZ x) base)≠Ed.zero:=by
 intro h
 rw [Ed.o7 good fI,uS] at h
 rcases rQ.dvd_mul h with h1|h1
 ·exact absurd (Nat.le_of_dvd (by decide) h1) (by decide)
 ·exact uD x h1
theorem qY(r k a:Nat):Ed.add dd (Ed.mul dd ((r+k*a)%LL) base) (Ed.neg (Ed.mul dd k (Ed.mul dd a base)))=Ed.mul dd r base:=by
 have hr:=Ed.eN good fI r;have hk:=Ed.eN good fI (k*a);rw [<-Ed.mul_mod good fI order,Ed.mul_add good fI,Ed.o7 good fI,Ed.add_assoc good hr hk (Ed.j7 hk),Ed.add_neg good hk,Ed.add_zero good]
end Nums
namespace Nums
def kU(l:List UInt8):List UInt8:=l.set 0 (a9 ((l[0]!).toNat/8*8))
def oM(l:List UInt8):List UInt8:=l.set 31 (a9 ((l[31]!).toNat%64+64))
def kW(l:List UInt8):List UInt8:=oM (kU l)
theorem mF(l:List UInt8):(kU l).length=l.length:=bV
theorem p6(l:List UInt8):(oM l).length=l.length:=bV
theorem rD(l:List UInt8):(kW l).length=l.length:=by rw [kW,p6,mF]
theorem ofNat_toNat{n:Nat}(h:n<256):(a9 n).toNat=n:=by
 rw [UInt8.toNat_ofNat']
 omega
theorem sL(x b t:Nat)(h:x=b+28948022309329048855892746252171976963317496166410141009864396001978282409984*t)(hb:b<28948022309329048855892746252171976963317496166410141009864396001978282409984):lZ x=b/8*8+28948022309329048855892746252171976963317496166410141009864396001978282409984:=by
 unfold lZ
 rw [h,l5,aX hb]
theorem uY:∀{l:List UInt8},0<l.length->le (kU l)=le l/8*8
 | [],h=>absurd h (by simp)
 | x::l,_=>by
  have hx:=x.toNat_lt;have e:kU (x::l)=a9 (x.toNat/8*8)::l:=rfl;rw [e]
  show(a9 (x.toNat/8*8)).toNat+256*le l=(x.toNat+256*le l)/8*8
  rw [ofNat_toNat (by omega)]
  omega
theorem uX{l:List UInt8}(h:l.length=32):∃b t,b<28948022309329048855892746252171976963317496166410141009864396001978282409984/\le l=b+28948022309329048855892746252171976963317496166410141009864396001978282409984*t/\le (oM l)=b+28948022309329048855892746252171976963317496166410141009864396001978282409984/\b%8=le l%8:=by
 have hs:l=l.take 31++[l[31]!]:=by
  have h1:l.drop 31=[l[31]!]:=by
   rw [gQ (by omega),List.drop_eq_nil_of_le (by omega),getElem!_pos l 31 (by omega)]
  rw [<-h1,List.take_append_drop]
 have hlen:(l.take 31).length=31:=by rw [aY];omega
 have ht:oM l=l.take 31++[a9 ((l[31]!).toNat%64+64)]:=by
  unfold oM
  conv=>lhs;arg 1;rw [hs]
  rw [List.set_append_right _ _ (by rw [hlen];exact aH _),hlen]
  rfl
 have hx:=(l[31]!).toNat_lt;have hlo:=nD (l.take 31);rw [hlen] at hlo
 have e1:le l=le (l.take 31)+256^31*(l[31]!).toNat:=by
  conv=>lhs;rw [hs]
  rw [fY,hlen]
  rfl
 have e2:le (oM l)=le (l.take 31)+256^31*((l[31]!).toNat%64+64):=by
  rw [ht,fY,hlen]
  show _+256^31*((a9 ((l[31]!).toNat%64+64)).toNat+256*0)=_
  rw [ofNat_toNat (by omega)]
 generalize le (l.take 31)=u at *;generalize (l[31]!).toNat=y at *;refine⟨u+256^31*(y%64),y/64,?_,?_,?_,?_⟩
 ·omega
 ·rw [e1]
  omega
 ·rw [e2]
  omega
 ·rw [e1]
  omega
theorem sI{l:List UInt8}(h:l.length=32):le (kW l)=lZ (le l):=by
 have h1:=uY (l:=l) (by omega);obtain⟨b,t,hb,e1,e2,e3⟩:=uX (l:=kU l) (by rw [mF,h]);rw [h1] at e1 e3
 have h8:b%8=0:=by rw [e3];omega
 obtain⟨r,hr,hr8⟩:∃r,le l=le l/8*8+r/\r<8:=⟨le l%8,by omega,by omega⟩;rw [kW,e2,sL (le l) (b+r) t (by omega) (by omega)]
 omega
def sgD(seed:List UInt8):List UInt8:=cE c7 seed
def jA(seed:List UInt8):List UInt8:=kW ((sgD seed).take 32)
def nZ(seed:List UInt8):List UInt8:=(sgD seed).drop 32
def fE(seed:List UInt8):List UInt8:=dV (Ed.mul dd (le (jA seed)) base)
def sgR(seed m:List UInt8):Nat:=le (cE c7 (nZ seed++m))%LL
def mR(seed m:List UInt8):List UInt8:=dV (Ed.mul dd (sgR seed m) base)
def sgK(R key m:List UInt8):Nat:=le (cE c7 (R++(key++m)))%LL
def sgS(seed m:List UInt8):Nat:=(sgR seed m+sgK (mR seed m) (fE seed) m*le (jA seed))%LL
def iR(seed m:List UInt8):List UInt8:=mR seed m++bytes 32 (sgS seed m)
def Right(key sig m:List UInt8):Prop:=∃A,Ed.On dd A/\dV A=key/\Ed.mul dd 8 A≠Ed.zero/\le (sig.drop 32)<LL /\
  dV (Ed.add dd (Ed.mul dd (le (sig.drop 32)) base) (Ed.neg (Ed.mul dd (sgK (sig.take 32) key m) A)))=sig.take 32
theorem lO(m:List UInt8):(cE c7 m).length=64:=by
 unfold cE
 have h:∀l:List Nat,((l.map (g7 c7)).flatten).length=8*l.length:=by
  intro l
  induction l with
  | nil=>rfl
  | cons x l ih =>
   rw [List.map_cons,List.flatten_cons,aD,ih,List.length_cons]
   have:(g7 c7 x).length=8:=by
    unfold g7
    rw [List.length_reverse,b7]
    rfl
   omega
 rw [h]
 rfl
theorem nO(seed:List UInt8):(sgD seed).length=64:=lO _
theorem p7(seed:List UInt8):(jA seed).length=32:=by rw [jA,rD,aY,nO];rfl
theorem sD(seed:List UInt8):(nZ seed).length=32:=by rw [nZ,dE,nO]
theorem mS(seed:List UInt8):(fE seed).length=32:=iV _
theorem iS(seed m:List UInt8):(mR seed m).length=32:=iV _
theorem oZ(seed m:List UInt8):(iR seed m).length=64:=by rw [iR,aD,iS,b7]
theorem qZ(seed m:List UInt8):(iR seed m).take 32=mR seed m:=by rw [iR,fN (by rw [iS];exact aH _),bC (by rw [iS];exact aH _)]
theorem q7(seed m:List UInt8):(iR seed m).drop 32=bytes 32 (sgS seed m):=by
 rw [iR,List.drop_append,iS,gC (by rw [iS];exact aH _)]
 rfl
theorem gT(n:Nat):n%LL<LL:=cA _ (by decide)
theorem s7(seed m:List UInt8):sgS seed m<LL:=gT _
theorem lD{n:Nat}(h:n<LL):le (bytes 32 n)=n:=by
 rw [g6,aX (Nat.lt_trans h (by decide))]
theorem tQ(seed m:List UInt8):le ((iR seed m).drop 32)=sgS seed m:=by rw [q7,lD (s7 _ _)]
theorem sJ(seed:List UInt8):Ed.mul dd 8 (Ed.mul dd (le (jA seed)) base)≠Ed.zero:=by
 have h:le (jA seed)=lZ (le ((sgD seed).take 32)):=sI (by rw [aY,nO];rfl);rw [h];exact qI _
theorem sE(seed m:List UInt8):Right (fE seed) (iR seed m) m:=by
 refine⟨_,Ed.eN good fI _,rfl,sJ seed,?_,?_⟩
 ·rw [tQ]
  exact s7 _ _
 ·rw [tQ,qZ,sgS,qY]
  rfl
end Nums
namespace Go.Proofs.YtlhlkofpjhpaoaaGreatDoor
open Go.RowKit Go.IntWalk Nums
theorem size_Sn(n:Nat):(Tryz.prog.info? 145).map (·.size)=some (Us (ws n)).toArray.size:=by
 rw [aT,Us_len,jN]
 kernel_rfl
theorem pt_none{w:World}{P:Option Addr}{ls:List (List UInt8)}(h:PT w P ls)(hP:P=none):ls=[]:=by
 cases ls with
 | nil=>rfl
 | cons l ls =>
  obtain⟨ad,e,_⟩:=h (by simp);rw [hP] at e
  cases e
theorem number_f{v1 v2:Value}{l1 l2:List UInt8}{P:Option Addr}{ls:List (List UInt8)}{pc:Nat}(w:World)(hT:Tsh w)(h1:SB w v1 l1)(h2:SB w v2 l2)(hP:PT w P ls)(h0:P=none->pc=0)(hls:ls.length<=1000000) :
  Calls Tryz.prog 96 #[v1,v2,.slice P ls.length pc] w λe w'=>e = .returned (.agg (Us (ws (le (cE c7 (l1++(l2++ls.flatten)))%LL))).toArray)/\Below w.heap.size w w':=by
 refine calls_F (vs:=[v1,v2,.slice P ls.length pc]) 16 Tryz.func96 rfl (by rw [Tryz.ntmps96];rfl) ?_;refine c_seq λK hK=>?_;refine c_lit ?_;refine l_allocA z4 rfl rfl rfl rfl (by kernel_rfl) λW1 g1 hw1 hg1 b1=>?_;refine l_nil ?_;refine hK _ _ ?_;clear hK K;replace h1:=h1.later hw1;replace h2:=h2.later hw1;replace hP:=hP.later hw1;replace hT:=hT.below hw1;have hU:Up w W1:=hw1
 have q1:w.heap.size<=g1:=by rw [hg1];exact aH _
 clear hw1;refine c_seq λK hK=>?_;refine c_gF 4 ?_;refine g_op rfl ?_;refine f_move v1 rfl rfl rfl rfl rfl ?_;refine g_go ?_;refine g_op rfl ?_;refine f_move v2 rfl rfl rfl rfl rfl ?_;refine g_go ?_;refine g_slices [v1,v2] [l1,l2] W1.heap.size rfl rfl rfl rfl rfl rfl rfl (by decide) (by decide) (λ_ h=>h.size) (λ_ h _=>⟨h1.later h,h2.later h,trivial⟩) λg2 _ _ _=>?_;refine g_op rfl ?_;refine f_move (.slice P ls.length pc) rfl rfl rfl rfl rfl ?_;refine g_go ?_;refine g_end λW2 hw2 hF=>?_;have n2:=hF 2 _ rfl;clear hF;refine l_appS (vs:=[v1,v2]) (ls:=ls) (base:=W1.heap.size) rfl rfl rfl rfl rfl rfl (n2.gs (n:=2) rfl (by decide)) hw2 hP (λe=>⟨h0 e,pt_none hP e⟩) (by simp;omega) hw2.size λA' c' W3 us hus hgs hgr=>?_;have hU3:Up W1 W3:=GS.grew (n2.gs (n:=2) rfl (by decide)) hw2 hgr hw2.size;have hall:All2 W3 ([v1,v2]++us) ([l1,l2]++ls):=All2.app ⟨h1.later hU3,h2.later hU3,trivial⟩ (All2.later hU3 hus);obtain⟨hPT,hc1,hc2⟩:=hgs.pt hall;rw [hall.len];refine l_assign (.slice A' ([l1,l2]++ls).length c') rfl rfl rfl rfl rfl ?_;refine l_nil ?_;refine hK _ _ ?_;clear hK K;replace b1:=b1.later hU3;replace hT:=hT.below hU3;replace hU:=hU.step hU3;refine c_seq λK hK=>?_;refine c_tF 3 ?_;refine f_move (.slice A' ([l1,l2]++ls).length c') rfl rfl rfl rfl rfl ?_;refine f_call #[.slice A' ([l1,l2]++ls).length c'] (.agg (By (cE c7 ([l1,l2]++ls).flatten)).toArray) rfl rfl rfl own_sum512 (λw1 h=>sum512_f A' ([l1,l2]++ls) c' w1 (hT.below h) (hPT.later h) hc1 hc2) rfl rfl ?_;refine f_call #[.agg (By (cE c7 ([l1,l2]++ls).flatten)).toArray] (.agg (Us (ws (le (cE c7 ([l1,l2]++ls).flatten)%LL))).toArray) rfl rfl rfl own_wide (λw1 _=>wide_f (lO _) w1) rfl rfl ?_;refine f_set g1 _ (Us (ws (le (cE c7 ([l1,l2]++ls).flatten)%LL))).toArray rfl rfl rfl rfl rfl b1 (size_Sn _) (by rw [show(Us (ws _)).toArray.size=4 by rw [aT,Us_len,jN]];rfl) (λv hv=>Us_one _ v (by simpa using hv)) λw4 hw4 c4=>?_;refine l_nil ?_;refine hK _ _ ?_;clear hK K;refine c_ret (k_ret_row g1 _ rfl rfl c4 Tryz.underlying145 rfl (size_Sn _) ⟨?_,up_row (hU.step hw4) q1 _⟩)
 rfl
end Go.Proofs.YtlhlkofpjhpaoaaGreatDoor
namespace Go.Proofs.YtlhlkofpjhpaoaaGreatDoor
open Go.RowKit Go.IntWalk
theorem size_sum(cs:Array Value)(h:cs.size=2):(Tryz.prog.info? 269).map (·.size)=some cs.size:=by
 rw [h]
 kernel_rfl
theorem low_any(hi lo:Nat)(hl:lo<18446744073709551616)(w:World) :
  Calls Tryz.prog 173 #[.agg (Us [hi,lo]).toArray] w λe w'=>e = .returned (.int .u64 ((lo%2251799813685248:Nat):Int))/\Below w.heap.size w w':=by
 have e0:(Us [hi,lo]).toArray = #[.int .u64 (hi:Int),.int .u64 (lo:Int)]:=rfl;rw [e0]
 go_enter Tryz.func173,Tryz.ntmps173
 go_wp2
 rw [maskW lo hl]
 go_ret
 exact⟨rfl,(Below.refl _ _).alloc (aH _) _⟩
theorem high_any(hi lo:Nat)(hh:hi<2251799813685248)(hl:lo<18446744073709551616)(w:World) :
  Calls Tryz.prog 174 #[.agg (Us [hi,lo]).toArray] w λe w'=>e = .returned (.int .u64 ((hi*8192+lo/2251799813685248:Nat):Int))/\Below w.heap.size w w':=by
 have e0:(Us [hi,lo]).toArray = #[.int .u64 (hi:Int),.int .u64 (lo:Int)]:=rfl;rw [e0]
 go_enter Tryz.func174,Tryz.ntmps174
 go_wp2
 have e1:(hi:Int)*8192=((hi*8192:Nat):Int):=by omega
 rw [e1,div51,orW 13 (hi*8192) (lo/2251799813685248) (by omega) (by omega) (by omega) (by omega)]
 go_ret
 exact⟨rfl,(Below.refl _ _).alloc (aH _) _⟩
theorem plus_any(hi lo a b:Nat)(hh:hi<18446744073709551616)(hl:lo<18446744073709551616)(ha:a<18446744073709551616)(hb:b<18446744073709551616)(w:World) :
  Calls Tryz.prog 172 #[.agg (Us [hi,lo]).toArray,.int .u64 a,.int .u64 b] w λe w' =>
   e = .returned (.agg (Us [(hi+a*b/18446744073709551616+(lo+a*b%18446744073709551616)/18446744073709551616)%18446744073709551616,(lo+a*b%18446744073709551616)%18446744073709551616]).toArray)/\Below w.heap.size w w':=by
 have e0:(Us [hi,lo]).toArray = #[.int .u64 (hi:Int),.int .u64 (lo:Int)]:=rfl;rw [e0];have HM:=λw1=>dG (mul64_any a b ha hb w1);generalize a*b/18446744073709551616=mh at *;generalize hml:a*b%18446744073709551616=ml at *
 have hml:ml<18446744073709551616:=by omega
 have hc1:((lo:Int)+(ml:Int))/18446744073709551616<=1:=by omega
 have hc0:(0:Int)<=((lo:Int)+(ml:Int))/18446744073709551616:=by omega
 go_enter Tryz.func172,Tryz.ntmps172
 go_wp2_with (fail)
 refine(HM _).out.mono ?_
 rintro e w1 ⟨rfl,rfl⟩
 go_wp2_with (first|simp only [add64_int0 lo ml (by omega) (by omega)]|simp only [add64_int hi mh _ (by omega) (by omega) hc0 hc1])
 refine bodyPost_ret (results_cell_row rfl _ _ (w.heap.size+1) 269 _ (0,0) _ rfl (heap_alloc2_new w _ _) Tryz.underlying269 rfl (size_sum _ rfl)) rfl ⟨?_,((Below.refl _ _).alloc (aH _) _).alloc (by simp) _⟩
 rfl
end Go.Proofs.YtlhlkofpjhpaoaaGreatDoor
namespace Nums
def lv:List Nat->Nat
  | []=>0
  | d::ds=>d+2251799813685248*lv ds
theorem lv5(a0 a1 a2 a3 a4:Nat):lv [a0,a1,a2,a3,a4]=a0+2251799813685248*(a1+2251799813685248*(a2+2251799813685248*(a3+2251799813685248*a4))):=by
 simp only [lv,k7,dN]
structure EB(l:List Nat)(x:F):Prop where
  len:l.length=5
  bnd:∀y∈l,y<2251799813947392
  val:fof (lv l)=x
theorem nM{l:List Nat}(h:l.length=5):∃a0 a1 a2 a3 a4,l=[a0,a1,a2,a3,a4]:=by
 match l,h with
 | [a0,a1,a2,a3,a4],_=>exact⟨a0,a1,a2,a3,a4,rfl⟩
theorem EB.nM{l:List Nat}{x:F}(h:EB l x):∃a0 a1 a2 a3 a4,l=[a0,a1,a2,a3,a4]/\a0<2251799813947392/\a1<2251799813947392/\a2<2251799813947392/\a3<2251799813947392/\a4<2251799813947392/\fof (lv [a0,a1,a2,a3,a4])=x:=by
 obtain⟨a0,a1,a2,a3,a4,rfl⟩:=Nums.nM h.len;have hb:=h.bnd;exact⟨a0,a1,a2,a3,a4,rfl,hb _ (by simp),hb _ (by simp),hb _ (by simp),hb _ (by simp),hb _ (by simp),h.val⟩
theorem EB.mk5{a0 a1 a2 a3 a4:Nat}{x:F}(h0:a0<2251799813947392)(h1:a1<2251799813947392)(h2:a2<2251799813947392)(h3:a3<2251799813947392)(h4:a4<2251799813947392)(h:fof (lv [a0,a1,a2,a3,a4])=x) :
  EB [a0,a1,a2,a3,a4] x:=by
 refine⟨rfl,?_,h⟩
 intro y hy
 simp only [aJ,jD,or_false] at hy
 rcases hy with rfl|rfl|rfl|rfl|rfl<;>assumption
theorem uR:p=57896044618658097711785492504343953926634992332820282019728792003956564819949:=by decide
def crd(a0 a1 a2 a3 a4:Nat):List Nat :=
  [a0%2251799813685248+19*(a4/2251799813685248),a1%2251799813685248+a0/2251799813685248,a2%2251799813685248+a1/2251799813685248,a3%2251799813685248+a2/2251799813685248,a4%2251799813685248+a3/2251799813685248]
theorem tY(a k:Nat):fof (a+p*k)=fof a:=iE (by rw [l5])
theorem uB(a0 a1 a2 a3 a4:Nat):fof (lv (crd a0 a1 a2 a3 a4))=fof (lv [a0,a1,a2,a3,a4]):=by
 have h:lv (crd a0 a1 a2 a3 a4)+p*(a4/2251799813685248)=lv [a0,a1,a2,a3,a4]:=by
  unfold crd
  rw [lv5,lv5,uR]
  omega
 rw [<-h,tY]
theorem rC{a0 a1 a2 a3 a4:Nat}(h0:a0<18446744073709551616)(h1:a1<18446744073709551616)(h2:a2<18446744073709551616)(h3:a3<18446744073709551616)(h4:a4<18446744073709551616) :
  EB (crd a0 a1 a2 a3 a4) (fof (lv [a0,a1,a2,a3,a4])) :=
 EB.mk5 (by omega) (by omega) (by omega) (by omega) (by omega) (uB a0 a1 a2 a3 a4)
theorem vW(a0 a1 a2 a3 a4 b0 b1 b2 b3 b4:Nat):lv [a0+b0,a1+b1,a2+b2,a3+b3,a4+b4]=lv [a0,a1,a2,a3,a4]+lv [b0,b1,b2,b3,b4]:=by
 rw [lv5,lv5,lv5]
 omega
theorem vL{a0 a1 a2 a3 a4 b0 b1 b2 b3 b4:Nat}(h0:b0<2251799813947392)(h1:b1<2251799813947392)(h2:b2<2251799813947392)(h3:b3<2251799813947392)(h4:b4<2251799813947392) :
  fof (lv [a0+(4503599627370458-b0),a1+(4503599627370494-b1),a2+(4503599627370494-b2),a3+(4503599627370494-b3),a4+(4503599627370494-b4)])=fof (lv [a0,a1,a2,a3,a4])-fof (lv [b0,b1,b2,b3,b4]):=by
 have h:lv [a0+(4503599627370458-b0),a1+(4503599627370494-b1),a2+(4503599627370494-b2),a3+(4503599627370494-b3),a4+(4503599627370494-b4)]+lv [b0,b1,b2,b3,b4]=lv [a0,a1,a2,a3,a4]+p*2:=by
  rw [lv5,lv5,lv5,uR]
  omega
 have h2:fof (lv [a0,a1,a2,a3,a4])=fof (lv [a0+(4503599627370458-b0),a1+(4503599627370494-b1),a2+(4503599627370494-b2),a3+(4503599627370494-b3),a4+(4503599627370494-b4)])+fof (lv [b0,b1,b2,b3,b4]):=by
  rw [<-iM,h,tY]
 rw [h2];generalize fof (lv [a0+(4503599627370458-b0),a1+(4503599627370494-b1),a2+(4503599627370494-b2),a3+(4503599627370494-b3),a4+(4503599627370494-b4)])=u;generalize fof (lv [b0,b1,b2,b3,b4])=v
 grind only
theorem uI(c0 c1 c2 c3 c4:Nat):fof (lv [19*c4,c0,c1,c2,c3])=fof 2251799813685248*fof (lv [c0,c1,c2,c3,c4]):=by
 have h:lv [19*c4,c0,c1,c2,c3]+p*c4=2251799813685248*lv [c0,c1,c2,c3,c4]:=by
  rw [lv5,lv5,uR]
  omega
 rw [<-dJ,<-h,tY]
theorem uW(s0 s1 s2 s3 s4 v c0 c1 c2 c3 c4:Nat):lv [s0+v*c0,s1+v*c1,s2+v*c2,s3+v*c3,s4+v*c4]=lv [s0,s1,s2,s3,s4]+v*lv [c0,c1,c2,c3,c4]:=by
 rw [lv5,lv5,lv5]
 grind only
def up1(l:List Nat)(u:Nat):Nat->Nat
  | 0=>u
  | k+1=>(l[k]! + up1 l u k)/2251799813685248
def up2(l:List Nat)(u:Nat):Nat->Nat
  | 0=>u
  | k+1=>(up2 l u k+l[k]!)/2251799813685248
def whs(l:List Nat)(u k:Nat):List Nat:=(l6 5).map λj=>if j<k then(up2 l u j+l[j]!)%2251799813685248 else l[j]!
def whole(l:List Nat):List Nat:=whs l (up1 l 19 5*19) 5
theorem fW{l:List Nat}{x:F}(h:EB l x):(whole l).length=5/\(∀y∈whole l,y<2251799813685248)/\lv (whole l)=x.val:=by
 refine⟨by simp [whole,whs],?_,?_⟩
 ·intro y hy
  obtain⟨j,hj,rfl⟩:=bU.1 hy;rw [if_pos (by simpa using hj)];exact cA _ (by decide)
 ·obtain⟨a0,a1,a2,a3,a4,rfl,h0,h1,h2,h3,h4,hv⟩:=h.nM
  have hw:whole [a0,a1,a2,a3,a4]=[(up2 [a0,a1,a2,a3,a4] (up1 [a0,a1,a2,a3,a4] 19 5*19) 0+a0)%2251799813685248,(up2 [a0,a1,a2,a3,a4] (up1 [a0,a1,a2,a3,a4] 19 5*19) 1+a1)%2251799813685248,(up2 [a0,a1,a2,a3,a4] (up1 [a0,a1,a2,a3,a4] 19 5*19) 2+a2)%2251799813685248,(up2 [a0,a1,a2,a3,a4] (up1 [a0,a1,a2,a3,a4] 19 5*19) 3+a3)%2251799813685248,(up2 [a0,a1,a2,a3,a4] (up1 [a0,a1,a2,a3,a4] 19 5*19) 4+a4)%2251799813685248]:=rfl;have hu:up1 [a0,a1,a2,a3,a4] 19 5=(a4+(a3+(a2+(a1+(a0+19)/2251799813685248)/2251799813685248)/2251799813685248)/2251799813685248)/2251799813685248:=rfl;rw [<-hv,jI,hw];generalize hq:up1 [a0,a1,a2,a3,a4] 19 5=q at *;have g0:up2 [a0,a1,a2,a3,a4] (q*19) 0=q*19:=rfl;have g1:up2 [a0,a1,a2,a3,a4] (q*19) 1=(up2 [a0,a1,a2,a3,a4] (q*19) 0+a0)/2251799813685248:=rfl;have g2:up2 [a0,a1,a2,a3,a4] (q*19) 2=(up2 [a0,a1,a2,a3,a4] (q*19) 1+a1)/2251799813685248:=rfl;have g3:up2 [a0,a1,a2,a3,a4] (q*19) 3=(up2 [a0,a1,a2,a3,a4] (q*19) 2+a2)/2251799813685248:=rfl;have g4:up2 [a0,a1,a2,a3,a4] (q*19) 4=(up2 [a0,a1,a2,a3,a4] (q*19) 3+a3)/2251799813685248:=rfl;generalize up2 [a0,a1,a2,a3,a4] (q*19) 0=e0 at *;generalize up2 [a0,a1,a2,a3,a4] (q*19) 1=e1 at *;generalize up2 [a0,a1,a2,a3,a4] (q*19) 2=e2 at *;generalize up2 [a0,a1,a2,a3,a4] (q*19) 3=e3 at *;generalize up2 [a0,a1,a2,a3,a4] (q*19) 4=e4 at *;have hL:=lv5 a0 a1 a2 a3 a4;generalize lv [a0,a1,a2,a3,a4]=L at *;rw [lv5];have hp:=uR;generalize p=P at *
  have ha:q<2:=by omega
  have hb:q=0->L<P:=by omega
  have hc:q=1->P<=L:=by omega
  have hd:L<2*P:=by omega
  rcases(show q=0\/q=1 by omega) with rfl|rfl
  ·rw [aX (hb rfl)]
   clear hu hc hd hv;have:=hb rfl
   omega
  ·have hge:=hc rfl
   have hm:L%P=L-P:=by rw [Nat.mod_eq_sub_mod hge,aX (by omega)]
   rw [hm];clear hu hb hv hm
   omega
end Nums
namespace Go.Proofs.YtlhlkofpjhpaoaaGreatDoor
open Go.RowKit Go.IntWalk Nums
theorem size_el(cs:Array Value)(h:cs.size=5):(Tryz.prog.info? 193).map (·.size)=some cs.size:=by
 rw [h]
 kernel_rfl
def z5:Array Value:=(Us [0,0,0,0,0]).toArray
theorem len_us{l:List Nat}(h:l.length=5):(Us l).toArray.size=5:=by rw [aT,Us_len,h]
theorem crd_cell0(a c:Nat)(ha:a<18446744073709551616)(hc:c<18446744073709551616) :
  IntKind.u64.wrap (bits .and .u64 (a:Int) 2251799813685247+19*((c:Int)/2251799813685248))=((a%2251799813685248+19*(c/2251799813685248):Nat):Int):=by
 rw [maskW a ha,aZ]
 omega
theorem crd_cell(a c:Nat)(ha:a<18446744073709551616)(hc:c<18446744073709551616) :
  IntKind.u64.wrap (bits .and .u64 (a:Int) 2251799813685247+(c:Int)/2251799813685248)=((a%2251799813685248+c/2251799813685248:Nat):Int):=by
 rw [maskW a ha,aZ]
 omega
theorem carried_f(a0 a1 a2 a3 a4:Nat)(h0:a0<18446744073709551616)(h1:a1<18446744073709551616)(h2:a2<18446744073709551616)(h3:a3<18446744073709551616)(h4:a4<18446744073709551616)(w:World) :
  Calls Tryz.prog 175 #[.agg (Us [a0,a1,a2,a3,a4]).toArray] w λe w'=>e = .returned (.agg (Us (crd a0 a1 a2 a3 a4)).toArray)/\Below w.heap.size w w':=by
 have e0:(Us [a0,a1,a2,a3,a4]).toArray = #[.int .u64 (a0:Int),.int .u64 (a1:Int),.int .u64 (a2:Int),.int .u64 (a3:Int),.int .u64 (a4:Int)]:=rfl;rw [e0]
 go_enter Tryz.func175,Tryz.ntmps175
 go_wp2
 rw [crd_cell0 a0 a4 h0 h4,crd_cell a1 a0 h1 h0,crd_cell a2 a1 h2 h1,crd_cell a3 a2 h3 h2,crd_cell a4 a3 h4 h3];refine bodyPost_ret (results_cell_row rfl _ _ (w.heap.size+1) 193 _ (0,0) _ rfl (blk3_1 w _ _ _ _) Tryz.underlying193 rfl (size_el _ rfl)) rfl ⟨rfl,?_⟩;exact(((Below.refl _ _).alloc (aH _) _).alloc (by simp) _).alloc (by simp;omega) _
def mx(f:Nat->Nat)(l:List Nat)(k:Nat):List Nat:=(l6 5).map λj=>if j<k then f j else l[j]!
theorem mx_len(f:Nat->Nat)(l:List Nat)(k:Nat):(mx f l k).length=5:=by simp [mx]
theorem mx_zero(f:Nat->Nat){l:List Nat}(h:l.length=5):mx f l 0=l:=by
 obtain⟨a0,a1,a2,a3,a4,rfl⟩:=nM h
 rfl
theorem mx_get(f:Nat->Nat)(l:List Nat){k:Nat}(h:k<5):(mx f l k)[k]! = l[k]!:=by
 rw [getElem!_pos _ k (by rw [mx_len];exact h)]
 simp [mx]
theorem mx_set(f:Nat->Nat)(l:List Nat){k:Nat}:(mx f l k).set k (f k)=mx f l (k+1):=by
 apply dB (by simp [mx])
 intro j h1 h2
 rw [List.getElem_set];simp only [mx,List.getElem_map,List.getElem_range]
 by_cases hjk:k=j
 ·subst hjk
  simp
 ·rw [if_neg hjk]
  by_cases hlt:j<k
  ·rw [if_pos hlt,if_pos (by omega)]
  ·rw [if_neg hlt,if_neg (by omega)]
theorem eb_get{l:List Nat}{x:F}(h:EB l x){k:Nat}(hk:k<5):l[k]! < 2251799813947392 :=
 h.bnd _ (by rw [getElem!_pos l k (by rw [h.len];exact hk)];exact List.getElem_mem _)
def twl:List Nat:=[4503599627370458,4503599627370494,4503599627370494,4503599627370494,4503599627370494]
theorem twl_get{k:Nat}(h:k<5):4503599627370458<=twl[k]! /\ twl[k]! <= 4503599627370494:=by
 have h5:k=0\/k=1\/k=2\/k=3\/k=4:=by omega
 rcases h5 with rfl|rfl|rfl|rfl|rfl<;>decide
structure Tw(w:World):Prop where
  cell:∀i,i<5->w.cell? ⟨3,i,none⟩=some (.int .u64 (twl[i]! : Nat))
  lt : 3 < w.heap.size
theorem Tw.below{w w':World} (h:Tw w)(hb:Below w.heap.size w w'):Tw w' :=
 ⟨λi hi=>(hb.cell (p:=⟨3,i,none⟩) h.lt).trans (h.cell i hi),bZ h.lt hb.size⟩
theorem Tw.at{w:World}(h:Tw w){k:Nat}(hk:k<5):w.cell? ⟨3,k,none⟩=some (.int .u64 (twl[k]! : Nat)):=h.cell k hk
theorem small_f(v:Nat)(hv:v<18446744073709551616)(w:World) :
  Calls Tryz.prog 145 #[.int .u64 v] w λe w'=>∃r,EB r (fof v)/\e = .returned (.agg (Us r).toArray)/\Below w.heap.size w w':=by
 go_enter Tryz.func145,Tryz.ntmps145
 go_wp2
 rw [maskW v hv]
 have hE:EB [v%2251799813685248,v/2251799813685248,0,0,0] (fof v):=EB.mk5 (by omega) (by omega) (by omega) (by omega) (by omega) (by
  congr 1
  rw [lv5]
  omega)
 refine bodyPost_ret (results_cell_row rfl _ _ w.heap.size 193 _ (0,0) _ rfl (heap_alloc_new w _) Tryz.underlying193 rfl (size_el _ rfl)) rfl ⟨_,hE,rfl,?_⟩;exact(Below.refl _ _).alloc (aH _) _
theorem and248(m:Nat)(h:m<256):bits .and .u8 (m:Int) 248=((m/8*8:Nat):Int):=by
 have key:∀m:Nat,m<256->bits .and .u8 (m:Int) 248=((m/8*8:Nat):Int):=by decide +kernel
 exact key m h
theorem or64(m:Nat)(h:m<256):bits .or .u8 ((m%128:Nat):Int) 64=((m%64+64:Nat):Int):=by
 have key:∀m:Nat,m<256->bits .or .u8 ((m%128:Nat):Int) 64=((m%64+64:Nat):Int):=by decide +kernel
 exact key m h
theorem cop_set{d:List UInt8}(h:d.length=32){k:Nat}(hk:k<32)(x:UInt8):(cop z64 0 d).set k x=cop z64 0 (d.set k x):=by
 simp only [cop,h,bV,List.take_zero,g9];rw [List.set_append_left _ _ (by omega)]
theorem cop_get{d:List UInt8}(h:d.length=32){k:Nat}(hk:k<32):(cop z64 0 d)[k]! = d[k]!:=by
 simp only [cop,List.take_zero,g9];rw [getElem!_pos _ k (by rw [aD];omega),getElem!_pos _ k (by omega),List.getElem_append_left]
structure Ta(w:World):Prop where
  tw:Tw w
  sh:Tsh w
theorem Ta.below{w w':World}(h:Ta w)(hb:Below w.heap.size w w'):Ta w':=⟨h.tw.below hb,h.sh.below hb⟩
theorem mul_a(seed:List UInt8):dV (Ed.mul dd (le (jA seed)%LL) base)=fE seed:=by
 unfold fE
 generalize le (jA seed)=n;exact congrArg dV (Ed.mul_mod good fI order n).symm
theorem sgR_eq{seed m:List UInt8}:le (cE c7 (nZ seed++([]++m)))%LL=sgR seed m:=rfl
theorem sgR_lt(seed m:List UInt8):sgR seed m<LL:=gT _
theorem sgK_eq{R key m:List UInt8}:le (cE c7 (R++(key++m)))%LL=sgK R key m:=rfl
theorem sgK_lt(R key m:List UInt8):sgK R key m<LL:=gT _
theorem sgS_eq{seed m:List UInt8}:(sgR seed m+sgK (mR seed m) (fE seed) m*(le (jA seed)%LL)%LL)%LL=sgS seed m:=by
 rw [sgS,Nat.mul_mod_mod,Nat.add_mod_mod]
theorem sig_cop{seed m:List UInt8}:cop (cop z64 0 (mR seed m)) 32 (Nums.bytes 32 (sgS seed m))=iR seed m:=by
 have h1:=iS seed m;have h2:=b7 32 (sgS seed m)
 have e:cop z64 0 (mR seed m)=mR seed m++aA 32 0:=by
  rw [cop,h1]
  simp [z64]
 rw [e,cop,h2,fN (by rw [h1];exact aH _),bC (by rw [h1];exact aH _),gC (by rw [aD,h1,bE];exact aH _),List.append_nil]
 rfl
open Classical in
noncomputable def rightB(key sig m:List UInt8):Bool:=decide (Right key sig m)
open Classical in
theorem rightB_no{key sig m:List UInt8}(h:¬ ∃A,Ed.On dd A/\dV A=key):rightB key sig m=false:=decide_eq_false λ⟨A,h1,h2,_⟩=>h ⟨A,h1,h2⟩
open Classical in
theorem rightB_small{A:Ed.Pt p}{sig m:List UInt8}(hA:Ed.On dd A)(h:Ed.mul dd 8 A=Ed.zero):rightB (dV A) sig m=false:=decide_eq_false λ⟨B,h1,h2,h3,_⟩=>h3 (by rw [mJ h1 hA h2];exact h)
open Classical in
theorem rightB_great{key sig m:List UInt8}(h:¬le (sig.drop 32)<LL):rightB key sig m=false:=decide_eq_false λ⟨_,_,_,_,h4,_⟩=>h h4
theorem rightB_is{A:Ed.Pt p}{sig m:List UInt8}(hA:Ed.On dd A)(h8:Ed.mul dd 8 A≠Ed.zero)(hS:le (sig.drop 32)<LL) :
  rightB (dV A) sig m=decide (dV (Ed.add dd (Ed.mul dd (le (Nums.bytes 32 (le (sig.drop 32)))) base) (Ed.mul dd (le (Nums.bytes 32 (sgK (sig.take 32) (dV A) m))) (Ed.neg A)))=sig.take 32):=by
 rw [lD hS,lD (sgK_lt _ _ _),Ed.mul_neg good hA]
 unfold rightB
 rw [decide_eq_decide]
 constructor
 ·rintro⟨B,h1,h2,_,_,h5⟩
  obtain rfl:=mJ h1 hA h2;exact h5
 ·exact λh=>⟨A,hA,rfl,h8,hS,h⟩
theorem small_dec{A:Ed.Pt p}(hA:Ed.On dd A):dV (Ed.mul dd 8 A)=dV Ed.zero↔Ed.mul dd 8 A=Ed.zero :=
 ⟨λh=>mJ (Ed.eN good hA 8) Ed.jH h,λh=>by rw [h]⟩
def zH:List UInt8:=aA 32 0
def keyH(d k:List UInt8):List UInt8:=cE cG ([[3],d,k]:List (List UInt8)).flatten
def dH(ks:List (List UInt8)):List UInt8:=ks.foldl keyH zH
def valH(ks:List (List UInt8)):List UInt8:=cE cG ([[2],be8 ks.length,dH ks]:List (List UInt8)).flatten
theorem dig_len(m:List UInt8):(cE cG m).length=32:=digest256_len m
theorem dH_len(ks:List (List UInt8)):(dH ks).length=32:=by
 unfold dH
 rw [List.foldl_eq_foldr_reverse]
 cases ks.reverse with
 | nil=>rfl
 | cons k r=>exact dig_len _
theorem dH_next{ks:List (List UInt8)}{i:Nat}{k:List UInt8}(h:ks[i]?=some k):dH (ks.take (i+1))=keyH (dH (ks.take i)) k:=by
 unfold dH
 rw [List.take_add_one,h,oE]
 rfl
structure UV where
  id:List UInt8
  ver:Int
  key:List UInt8
  sig:List UInt8
def UV.parts(u:UV):List Pt:=[.agg 32 (By u.id).toArray,.one (.v (.int .i64 u.ver)),.agg 32 (By u.key).toArray,.agg 64 (By u.sig).toArray]
abbrev eU(u:UV):SQ:=.p u.parts
structure UV.Ok(u:UV):Prop where
  id:u.id.length=32
  key:u.key.length=32
  sig:u.sig.length=64
theorem UV.Ok.parts_ok{u:UV}(h:u.Ok):OkP u.parts:=λp hp=>by
 simp only [UV.parts,aJ,jD,or_false] at hp
 rcases hp with rfl|rfl|rfl|rfl
 ·exact(eY_ok h.id).1 _ (aF.2 rfl)
 ·exact⟨trivial,rfl,rfl⟩
 ·exact(eY_ok h.key).1 _ (aF.2 rfl)
 ·exact(eY_ok h.sig).1 _ (aF.2 rfl)
theorem eU_ok{u:UV}(h:u.Ok):OkP (eU u).parts1/\(eU u).cl.length=129:=⟨h.parts_ok,by
 rw [SQ.cl,show(eU u).den.cells=catP u.parts from rfl,Array.length_toList,OkP.size h.parts_ok]
 rfl⟩
def u64N(z:Int):Nat:=(IntKind.u64.wrap z).toNat
theorem u64N_lt(z:Int):u64N z<18446744073709551616:=by
 unfold u64N
 rw [u64_is]
 omega
theorem u64N_is(z:Int):IntKind.u64.wrap z=(u64N z:Int):=by
 unfold u64N
 rw [u64_is]
 omega
def bodyH(v:Int)(k:List UInt8):List UInt8:=be8 (u64N v)++k
theorem bodyH_len{v:Int}{k:List UInt8}(h:k.length=32):(bodyH v k).length=40:=by
 unfold bodyH
 rw [aD,be8_len,h]
noncomputable def signB(u:UV):Bool:=decide (1<=u.ver/\u.ver<=64)&&rightB u.id u.sig (msg 1 (bodyH u.ver u.key))
noncomputable def mkH(seed:List UInt8)(v:Int)(k:List UInt8):UV:=⟨fE seed,v,k,iR seed (msg 1 (bodyH v k))⟩
theorem mkH_ok(seed:List UInt8)(v:Int){k:List UInt8}(h:k.length=32):(mkH seed v k).Ok:=⟨mS _,h,oZ _ _⟩
open Classical in
theorem right_made(seed:List UInt8)(m:List UInt8):rightB (fE seed) (iR seed m) m=true:=by
 unfold rightB
 exact decide_eq_true (sE seed m)
theorem signB_made(seed:List UInt8)(v:Int)(k:List UInt8):signB (mkH seed v k)=decide (1<=v/\v<=64):=by
 unfold signB mkH
 dsimp only
 rw [right_made,Bool.and_true]
end Go.Proofs.YtlhlkofpjhpaoaaGreatDoor
namespace Nums
def cL(k:List UInt8)(n:Nat):Nat:=(k[n/8]!).toNat/2^(7-n%8)%2
def dU:List UInt8->List UInt8->Bool
  | a::az,b::bs=>if a=b then dU az bs else decide (a.toNat<b.toNat)
  | _,_=>false
abbrev PairT:=List UInt8×List UInt8
def dF:List PairT->PairT->List PairT
  | [],p=>[p]
  | q::r,p=>if dU q.1 p.1 then q::dF r p else if q.1=p.1 then p::r else p::q::r
def mG(l:List PairT)(k:List UInt8):Option (List UInt8):=(l.find? λq=>q.1==k).map (·.2)
def c9:List UInt8:=aA 32 0
def gZ(p:PairT):List UInt8:=cE cG (0::(p.1++p.2))
def fM(a b:List UInt8):List UInt8:=cE cG (1::(a++b))
def fB:Nat->List PairT->List UInt8
  | _,[]=>c9
  | _,[p]=>gZ p
  | 0,_::_::_=>c9
  | r+1,p::q::l=>fM (fB r ((p::q::l).filter λx=>cL x.1 (255-r)==0)) (fB r ((p::q::l).filter λx=>cL x.1 (255-r) != 0))
theorem cJ:∀a:List UInt8,dU a a=false
 | []=>rfl
 | a::az=>by unfold dU;rw [if_pos rfl];exact cJ az
theorem fX:∀{a b c:List UInt8},dU a b=true->dU b c=true->dU a c=true
 | [],_,_,h,_=>by cases ‹List UInt8› <;> cases h
 | _::_,[],_,h,_=>by cases h
 | _::_,_::_,[],_,h=>by cases h
 | a::az,b::bs,c::cs,h,k=>by
  unfold dU at h k ⊢
  by_cases e1:a=b
  ·subst e1
   rw [if_pos rfl] at h
   by_cases e2:a=c
   ·rw [if_pos e2] at k ⊢
    exact fX h k
   ·rw [if_neg e2] at k ⊢
    exact k
  ·rw [if_neg e1] at h
   have h:=of_decide_eq_true h
   by_cases e2:b=c
   ·subst e2
    rw [if_neg e1];exact decide_eq_true h
   ·rw [if_neg e2] at k
    have k:=of_decide_eq_true k
    have e3:a≠c:=λe=>by subst e;omega
    rw [if_neg e3];exact decide_eq_true (by omega)
theorem gY:∀{a b:List UInt8},a.length=b.length->dU a b=false->a≠b->dU b a=true
 | [],[],_,_,h=>absurd rfl h
 | [],_::_,h,_,_=>by cases h
 | _::_,[],h,_,_=>by cases h
 | a::az,b::bs,hl,h,hn=>by
  unfold dU at h ⊢
  by_cases e:a=b
  ·subst e
   rw [if_pos rfl] at h ⊢;exact gY (by simpa using hl) h λe=>hn (by rw [e])
  ·rw [if_neg e] at h
   rw [if_neg λx=>e x.symm];have h:=of_decide_eq_false h;have:a.toNat≠b.toNat:=λx=>e (UInt8.toNat_inj.1 x);exact decide_eq_true (by omega)
theorem qE{a b:List UInt8}(h:dU a b=true):dU b a=false:=by
 cases hb:dU b a with
 | false=>rfl
 | true=>have:=fX h hb;rw [cJ] at this;cases this
def cR(l:List PairT):Prop:=l.Pairwise λp q=>dU p.1 q.1=true
def gN(l:List PairT):Prop:=∀p∈l,p.1.length=32
theorem cR.cons{p:PairT}{l:List PairT}:cR (p::l)↔(∀q∈l,dU p.1 q.1=true)/\cR l:=bN
theorem cR.filter{l:List PairT}(h:cR l)(f:PairT->Bool):cR (l.filter f):=List.Pairwise.filter f h
theorem gN.filter{l:List PairT}(h:gN l)(f:PairT->Bool):gN (l.filter f):=λp hp=>h p (List.mem_filter.1 hp).1
theorem cR.ext:∀{l m:List PairT},cR l->cR m->(∀p,p∈l↔p∈m)->l=m
 | [],[],_,_,_=>rfl
 | [],q::m,_,_,h=>absurd ((h q).2 aM) (by simp)
 | p::l,[],_,_,h=>absurd ((h p).1 aM) (by simp)
 | p::l,q::m,hl,hm,h=>by
  obtain⟨h1,h2⟩:=cR.cons.1 hl;obtain⟨k1,k2⟩:=cR.cons.1 hm
  have e:p=q:=by
   rcases aJ.1 ((h p).1 aM) with e|hp
   ·exact e
   ·rcases aJ.1 ((h q).2 aM) with e|hq
    ·exact e.symm
    ·have a:=h1 q hq
     rw [qE (k1 p hp)] at a
     cases a
  subst e;refine congrArg (p :: ·) (cR.ext h2 k2 λx=>⟨λhx=>?_,λhx=>?_⟩)
  ·rcases aJ.1 ((h x).1 (aI _ hx)) with e|hx2
   ·subst e
    have a:=h1 x hx;rw [cJ] at a
    cases a
   ·exact hx2
  ·rcases aJ.1 ((h x).2 (aI _ hx)) with e|hx2
   ·subst e
    have a:=k1 x hx;rw [cJ] at a
    cases a
   ·exact hx2
theorem cR.key{l:List PairT}(h:cR l){p q:PairT}(hp:p∈l)(hq:q∈l)(e:p.1=q.1):p=q:=by
 induction l with
 | nil=>cases hp
 | cons x l ih =>
  obtain⟨h1,h2⟩:=cR.cons.1 h
  rcases aJ.1 hp with e1|hp2<;>rcases aJ.1 hq with e2|hq2
  ·rw [e1,e2]
  ·have:=h1 q hq2
   rw [<-e1,<-e,cJ] at this
   cases this
  ·have:=h1 p hp2
   rw [<-e2,e,cJ] at this
   cases this
  ·exact ih h2 hp2 hq2
theorem jS:∀{l:List PairT} {p:PairT},cR l->gN l->p.1.length=32->∀x,x∈dF l p↔x=p\/(x∈l/\x.1≠p.1)
 | [],p,_,_,_,x=>by simp [dF]
 | q::l,p,hs,hk,hp,x=>by
  obtain⟨h1,h2⟩:=cR.cons.1 hs;have hq:q.1.length=32:=hk q aM;have hkl:gN l:=λy hy=>hk y (aI _ hy)
  unfold dF
  by_cases h:dU q.1 p.1=true
  ·rw [if_pos h,aJ,jS h2 hkl hp x,aJ]
   have hne:q.1≠p.1:=λe=>by rw [e,cJ] at h;cases h
   constructor
   ·rintro(rfl|rfl|⟨a,b⟩)
    ·exact .inr ⟨.inl rfl,hne⟩
    ·exact .inl rfl
    ·exact .inr ⟨.inr a,b⟩
   ·rintro(rfl|⟨rfl|a,b⟩)
    ·exact .inr (.inl rfl)
    ·exact .inl rfl
    ·exact .inr (.inr ⟨a,b⟩)
  ·rw [if_neg h]
   by_cases e:q.1=p.1
   ·rw [if_pos e,aJ,aJ]
    constructor
    ·rintro(rfl|a)
     ·exact .inl rfl
     ·exact .inr ⟨.inr a,λe2=>by have:=h1 x a;rw [e,e2,cJ] at this;cases this⟩
    ·rintro(rfl|⟨rfl|a,b⟩)
     ·exact .inl rfl
     ·exact absurd e b
     ·exact .inr a
   ·rw [if_neg e,aJ,aJ]
    have hgt:=gY (by rw [hq,hp]) (by simpa using h) e
    constructor
    ·rintro(rfl|rfl|a)
     ·exact .inl rfl
     ·exact .inr ⟨.inl rfl,e⟩
     ·exact .inr ⟨.inr a,λe2=>by have:=fX hgt (h1 x a);rw [e2,cJ] at this;cases this⟩
    ·rintro(rfl|⟨rfl|a,b⟩)
     ·exact .inl rfl
     ·exact .inr (.inl rfl)
     ·exact .inr (.inr a)
theorem jR:∀{l:List PairT} {p:PairT},cR l->gN l->p.1.length=32->cR (dF l p)
 | [],p,_,_,_=>by simp [dF,cR]
 | q::l,p,hs,hk,hp=>by
  obtain⟨h1,h2⟩:=cR.cons.1 hs;have hq:q.1.length=32:=hk q aM;have hkl:gN l:=λy hy=>hk y (aI _ hy)
  unfold dF
  by_cases h:dU q.1 p.1=true
  ·rw [if_pos h]
   refine cR.cons.2 ⟨λx hx=>?_,jR h2 hkl hp⟩
   rcases(jS h2 hkl hp x).1 hx with rfl|hx
   ·exact h
   ·exact h1 x hx.1
  ·rw [if_neg h]
   by_cases e:q.1=p.1
   ·rw [if_pos e]
    exact cR.cons.2 ⟨λx hx=>by rw [<-e];exact h1 x hx,h2⟩
   ·rw [if_neg e]
    have hgt:=gY (by rw [hq,hp]) (by simpa using h) e;refine cR.cons.2 ⟨λx hx=>?_,hs⟩
    rcases aJ.1 hx with rfl|hx
    ·exact hgt
    ·exact fX hgt (h1 x hx)
theorem lE{l:List PairT}{k v:List UInt8}(hs:cR l):mG l k=some v↔(k,v)∈l:=by
 unfold mG
 constructor
 ·intro h
  cases hf:l.find? (λq=>q.1==k) with
  | none=>rw [hf] at h;cases h
  | some q =>
   rw [hf] at h;simp only [Option.map_some,aU] at h;have h1:=List.find?_some hf;have h2:=kB hf
   have e:q.1=k:=by simpa using h1
   subst e;subst h;exact h2
 ·intro h
  cases hf:l.find? (λq=>q.1==k) with
  | none =>
   have:=jZ.1 hf (k,v) h
   simp at this
  | some q =>
   have h1:=List.find?_some hf;have h2:=kB hf
   have e:q.1=k:=by simpa using h1
   have:=hs.key h2 h e;subst this
   rfl
theorem lG{l:List PairT}{k:List UInt8}:mG l k=none↔∀q∈l,q.1≠k:=by
 unfold mG
 rw [Option.map_eq_none_iff,jZ]
 simp
theorem kA(k:List UInt8)(n:Nat):cL k n<2:=cA _ (by decide)
theorem sM(a b:Nat)(ha:a<256)(hb:b<256)(h:∀j,j<8->a/2^(7-j)%2=b/2^(7-j)%2):a=b:=by
 have h0:=h 0 (by decide);have h1:=h 1 (by decide);have h2:=h 2 (by decide);have h3:=h 3 (by decide);have h4:=h 4 (by decide);have h5:=h 5 (by decide);have h6:=h 6 (by decide);have h7:=h 7 (by decide);simp only [Nat.reduceSub,dX] at h0 h1 h2 h3 h4 h5 h6 h7
 omega
theorem pA(k:List UInt8)(i j:Nat)(hj:j<8):cL k (8*i+j)=(k[i]!).toNat/2^(7-j)%2:=by
 unfold cL
 rw [show(8*i+j)/8=i by omega,show(8*i+j)%8=j by omega]
def pN(d:Nat)(a b:List UInt8):Prop:=∀n,n<d->cL a n=cL b n
theorem pN.all{a b:List UInt8}(ha:a.length=32)(hb:b.length=32)(h:pN 256 a b):a=b:=by
 apply dB (by rw [ha,hb])
 intro i h1 h2
 have e:=sM (a[i]!).toNat (b[i]!).toNat (dW _) (dW _) λj hj=>by
  rw [<-pA a i j hj,<-pA b i j hj];exact h _ (by omega)
 have e:=UInt8.toNat_inj.1 e;rw [getElem!_pos a i h1,getElem!_pos b i h2] at e;exact e
def dP(d:Nat)(l:List PairT):Prop:=∀p∈l,∀q∈l,pN d p.1 q.1
def b6(d:Nat)(l:List PairT):List PairT:=l.filter λx=>cL x.1 d==0
def bD(d:Nat)(l:List PairT):List PairT:=l.filter λx=>cL x.1 d != 0
theorem fJ{d:Nat}{l:List PairT}{x:PairT}:x∈b6 d l↔x∈l/\cL x.1 d=0:=by simp [b6]
theorem eK{d:Nat}{l:List PairT}{x:PairT}:x∈bD d l↔x∈l/\cL x.1 d≠0:=by simp [bD]
theorem dP.left{d:Nat}{l:List PairT}(h:dP d l):dP (d+1) (b6 d l):=λp hp q hq n hn=>by
 obtain⟨hp,bp⟩:=fJ.1 hp;obtain⟨hq,bq⟩:=fJ.1 hq
 by_cases e:n=d
 ·subst e;rw [bp,bq]
 ·exact h p hp q hq n (by omega)
theorem dP.right{d:Nat}{l:List PairT}(h:dP d l):dP (d+1) (bD d l):=λp hp q hq n hn=>by
 obtain⟨hp,bp⟩:=eK.1 hp;obtain⟨hq,bq⟩:=eK.1 hq
 by_cases e:n=d
 ·subst e
  have:=kA p.1 n;have:=kA q.1 n
  omega
 ·exact h p hp q hq n (by omega)
theorem dP.one{l:List PairT}(hs:cR l)(hk:gN l)(h:dP 256 l):l.length<=1:=by
 match l,hs,hk,h with
 | [],_,_,_=>decide
 | [_],_,_,_=>exact aH _
 | p::q::l,hs,hk,h =>
  have e:=(h p (by simp) q (by simp)).all (hk p (by simp)) (hk q (by simp));have:=(cR.cons.1 hs).1 q (by simp);rw [e,cJ] at this
  cases this
theorem lB{d:Nat}{l:List PairT}{p:PairT}(hs:cR l)(hk:gN l)(hp:p.1.length=32):b6 d (dF l p)=if cL p.1 d=0 then dF (b6 d l) p else b6 d l:=by
 refine cR.ext ((jR hs hk hp).filter _) (by split;exact jR (hs.filter _) (hk.filter _) hp;exact hs.filter _) λx=>?_;rw [fJ,jS hs hk hp]
 split
 ·rename_i e
  rw [jS (l:=b6 d l) (hs.filter _) (hk.filter _) hp,fJ]
  constructor
  ·rintro⟨rfl|⟨a,b⟩,c⟩
   ·exact .inl rfl
   ·exact .inr ⟨⟨a,c⟩,b⟩
  ·rintro(rfl|⟨⟨a,c⟩,b⟩)
   ·exact⟨.inl rfl,e⟩
   ·exact⟨.inr ⟨a,b⟩,c⟩
 ·rename_i e
  rw [fJ]
  constructor
  ·rintro⟨rfl|⟨a,b⟩,c⟩
   ·exact absurd c e
   ·exact⟨a,c⟩
  ·rintro⟨a,c⟩
   exact⟨.inr ⟨a,λe2=>e (by rw [<-e2];exact c)⟩,c⟩
theorem j6{d:Nat}{l:List PairT}{p:PairT}(hs:cR l)(hk:gN l)(hp:p.1.length=32):bD d (dF l p)=if cL p.1 d=0 then bD d l else dF (bD d l) p:=by
 refine cR.ext ((jR hs hk hp).filter _) (by split;exact hs.filter _;exact jR (hs.filter _) (hk.filter _) hp) λx=>?_;rw [eK,jS hs hk hp]
 split
 ·rename_i e
  rw [eK]
  constructor
  ·rintro⟨rfl|⟨a,b⟩,c⟩
   ·exact absurd e c
   ·exact⟨a,c⟩
  ·rintro⟨a,c⟩
   exact⟨.inr ⟨a,λe2=>c (by rw [e2];exact e)⟩,c⟩
 ·rename_i e
  rw [jS (l:=bD d l) (hs.filter _) (hk.filter _) hp,eK]
  constructor
  ·rintro⟨rfl|⟨a,b⟩,c⟩
   ·exact .inl rfl
   ·exact .inr ⟨⟨a,c⟩,b⟩
  ·rintro(rfl|⟨⟨a,c⟩,b⟩)
   ·exact⟨.inl rfl,e⟩
   ·exact⟨.inr ⟨a,b⟩,c⟩
theorem lV{r:Nat}{l:List PairT}(h:2<=l.length):fB (r+1) l=fM (fB r (b6 (255-r) l)) (fB r (bD (255-r) l)):=by
 match l,h with
 | p::q::l,_=>rfl
theorem mU(r:Nat):fB r []=c9:=by cases r<;>rfl
theorem lA(r:Nat)(p:PairT):fB r [p]=gZ p:=by cases r<;>rfl
end Nums
namespace Nums
abbrev EntD:=List UInt8×List (List UInt8)
def bK(l:List EntD)(id:List UInt8):List (List UInt8):=match l.find? λe=>e.1==id with
  | some e=>e.2
  | none=>[]
def iD:List EntD->List UInt8->List (List UInt8)->List EntD
  | [],id,ks=>[(id,ks)]
  | e::l,id,ks=>if dU e.1 id then e::iD l id ks else if e.1=id then(id,ks)::l else(id,ks)::e::l
structure UD where
  id:List UInt8
  version:Int
  key:List UInt8
  signed:Bool
def okD(l:List EntD)(u:UD):Bool:=u.signed&&decide (u.version=(bK l u.id).length+1)
def cN(l:List EntD)(u:UD):List EntD:=if okD l u=true then iD l u.id (bK l u.id++[u.key]) else l
def bQ(l:List EntD)(us:List UD):List EntD:=us.foldl cN l
structure DirOk(l:List EntD):Prop where
  sort:l.Pairwise λa b=>dU a.1 b.1=true
  ids:∀e∈l,e.1.length=32
  some:∀e∈l,e.2≠[]
  keys:∀e∈l,∀k∈e.2,k.length=32
theorem DirOk.nil:DirOk []:=⟨List.Pairwise.nil,by simp,by simp,by simp⟩
theorem DirOk.tail{e:EntD}{l:List EntD}(h:DirOk (e::l)):DirOk l:=⟨(bN.1 h.sort).2,λx hx=>h.ids x (.tail _ hx),λx hx=>h.some x (.tail _ hx),λx hx=>h.keys x (.tail _ hx)⟩
theorem iT:∀{l:List EntD} {id:List UInt8} {ks:List (List UInt8)} {x:EntD},x∈iD l id ks->x=(id,ks)\/x∈l
 | [],id,ks,x,h=>.inl (aF.1 h)
 | e::l,id,ks,x,h=>by
  unfold iD at h
  split at h
  ·rcases aJ.1 h with h|h
   ·exact .inr (h ▸ .head _)
   ·exact(iT h).imp_right (.tail _)
  ·split at h
   ·rcases aJ.1 h with h|h
    ·exact .inl h
    ·exact .inr (.tail _ h)
   ·exact(aJ.1 h)
theorem o5:∀{l:List EntD} {id:List UInt8} {ks:List (List UInt8)},DirOk l->id.length=32->(iD l id ks).Pairwise λa b=>dU a.1 b.1=true
 | [],_,_,_,_=>List.pairwise_singleton _ _
 | e::l,id,ks,h,hi=>by
  have h1:=bN.1 h.sort
  unfold iD
  split
  ·rename_i hlt
   refine bN.2 ⟨λx hx=>?_,o5 h.tail hi⟩
   rcases iT hx with rfl|hx
   ·exact hlt
   ·exact h1.1 x hx
  ·rename_i hlt
   split
   ·rename_i he
    exact bN.2 ⟨λx hx=>he▸h1.1 x hx,h1.2⟩
   ·rename_i he
    have h2:dU id e.1=true:=gY (by rw [hi,h.ids e (.head _)]) (by simpa using hlt) he;refine bN.2 ⟨λx hx=>?_,h.sort⟩
    rcases aJ.1 hx with rfl|hx
    ·exact h2
    ·exact fX h2 (h1.1 x hx)
theorem DirOk.put{l:List EntD}{id:List UInt8}{ks:List (List UInt8)}(h:DirOk l)(hi:id.length=32)(hk:ks≠[])(h32:∀k∈ks,k.length=32):DirOk (iD l id ks):=⟨o5 h hi,λx hx=>by
 rcases iT hx with rfl|hx
 ·exact hi
 ·exact h.ids x hx,λx hx=>by
 rcases iT hx with rfl|hx
 ·exact hk
 ·exact h.some x hx,λx hx=>by
 rcases iT hx with rfl|hx
 ·exact h32
 ·exact h.keys x hx⟩
theorem cC(e:EntD)(l:List EntD)(id:List UInt8):bK (e::l) id=if e.1=id then e.2 else bK l id:=by
 unfold bK
 rw [List.find?_cons]
 by_cases h:e.1=id
 ·simp [h]
 ·have:(e.1==id)=false:=by simpa using h
  simp [this,h]
theorem n7{l:List EntD}{id:List UInt8}(h:∀e∈l,dU id e.1=true):bK l id=[]:=by
 unfold bK
 have:(l.find? λe=>e.1==id)=none:=jZ.2 λe he h2=>by
  have h3:e.1=id:=by simpa using h2
  have h4:=h e he;rw [h3,cJ] at h4
  cases h4
 rw [this]
theorem iP:∀{l:List EntD} {id:List UInt8} {ks:List (List UInt8)},∀x,bK (iD l id ks) x=if x=id then ks else bK l x
 | [],id,ks,x=>by
  show bK [(id,ks)] x=_
  rw [cC]
  by_cases h:x=id
  ·simp [h]
  ·rw [if_neg (λh2=>h h2.symm),if_neg h]
 | e::l,id,ks,x=>by
  unfold iD
  split
  ·rename_i hlt
   have he:e.1≠id:=λh=>by
    rw [h,cJ] at hlt
    cases hlt
   rw [cC,cC,iP x]
   by_cases hx:x=id
   ·subst hx
    rw [if_neg he,if_pos rfl,if_pos rfl]
   ·rw [if_neg hx,if_neg hx]
  ·split
   ·rename_i he
    rw [cC,cC]
    by_cases hx:x=id
    ·simp [hx]
    ·rw [if_neg (λh2=>hx h2.symm),if_neg hx,if_neg (λh2=>hx (h2.symm.trans he))]
   ·rw [cC]
    by_cases hx:x=id
    ·simp [hx]
    ·rw [if_neg (λh2=>hx h2.symm),if_neg hx]
theorem DirOk.ext:∀{l m:List EntD},DirOk l->DirOk m->(∀x,bK l x=bK m x)->l=m
 | [],[],_,_,_=>rfl
 | [],e::m,_,hm,h=>by
  have h1:=h e.1;rw [cC,if_pos rfl] at h1;exact absurd h1.symm (hm.some e (.head _))
 | e::l,[],hl,_,h=>by
  have h1:=h e.1;rw [cC,if_pos rfl] at h1;exact absurd h1 (hl.some e (.head _))
 | e::l,f::m,hl,hm,h=>by
  have sl:=bN.1 hl.sort;have sm:=bN.1 hm.sort
  have key:∀{a b:EntD} {p q:List EntD},DirOk (a::p)->DirOk (b::q)->(∀x,bK (a::p) x=bK (b::q) x)->dU a.1 b.1=true->False:=λ{a b p q} ha hb hx hlt=>by
   have h1:=hx a.1
   rw [cC,if_pos rfl,n7 (l:=b::q) (λy hy=>by
    rcases aJ.1 hy with rfl|hy
    ·exact hlt
    ·exact fX hlt ((bN.1 hb.sort).1 y hy))] at h1
   exact ha.some a (.head _) h1
  have he:e.1=f.1:=by
   by_cases h1:e.1=f.1
   ·exact h1
   ·cases h2:dU e.1 f.1 with
    | true=>exact(key hl hm h h2).elim
    | false=>exact(key hm hl (λx=>(h x).symm) (gY (by rw [hl.ids e (.head _),hm.ids f (.head _)]) h2 h1)).elim
  have h2:e.2=f.2:=by
   have h1:=h e.1
   rwa [cC,if_pos rfl,cC,if_pos he.symm] at h1
  have h3:e=f:=Prod.ext he h2;subst h3;refine congrArg _ (DirOk.ext hl.tail hm.tail λx=>?_)
  by_cases hx:e.1=x
  ·subst hx
   rw [n7 sl.1,n7 sm.1]
  ·have h1:=h x
   rwa [cC,cC,if_neg hx,if_neg hx] at h1
theorem tR{l:List EntD}(h:DirOk l)(id:List UInt8):∀k∈bK l id,k.length=32:=by
 unfold bK
 split
 ·rename_i e he
  exact h.keys e (kB he)
 ·exact λk hk=>by cases hk
theorem DirOk.step{l:List EntD}{u:UD}(h:DirOk l)(hi:u.id.length=32)(hk:u.key.length=32):DirOk (cN l u):=by
 unfold cN
 split
 ·exact h.put hi (by simp) λk hk2=>by
   rcases List.mem_append.1 hk2 with h2|h2
   ·exact tR h _ k h2
   ·rw [aF.1 h2]
    exact hk
 ·exact h
theorem gU(l:List EntD)(u:UD)(x:List UInt8):bK (cN l u) x=if okD l u=true/\x=u.id then bK l u.id++[u.key] else bK l x:=by
 unfold cN
 by_cases h:okD l u=true
 ·rw [if_pos h,iP]
  simp [h]
 ·rw [if_neg h,if_neg (λh2=>h h2.1)]
theorem qX{l:List EntD}{u v:UD}(h:DirOk l)(h1:u.id.length=32)(h2:v.id.length=32)(k1:u.key.length=32)(k2:v.key.length=32)(hn:u.id≠v.id):cN (cN l u) v=cN (cN l v) u:=by
 refine DirOk.ext ((h.step h1 k1).step h2 k2) ((h.step h2 k2).step h1 k1) λx=>?_
 have e1:bK (cN l u) v.id=bK l v.id:=by rw [gU,if_neg (λe=>hn e.2.symm)]
 have e2:bK (cN l v) u.id=bK l u.id:=by rw [gU,if_neg (λe=>hn e.2)]
 have o1:okD (cN l u) v=okD l v:=by unfold okD;rw [e1]
 have o2:okD (cN l v) u=okD l u:=by unfold okD;rw [e2]
 rw [gU (cN l u) v,gU (cN l v) u,o1,o2,e1,e2,gU l u,gU l v]
 by_cases a:okD l v=true/\x=v.id
 ·rw [if_pos a,if_neg (λb=>hn (b.2.symm.trans a.2)),if_pos a]
 ·rw [if_neg a,if_neg a]
theorem q9{I:List EntD->Prop}{us:List UD}{a:UD}(hI:∀z,I z->∀y∈us,I (cN z y))(hc:∀z,I z->∀y∈us,cN (cN z y) a=cN (cN z a) y):∀z,I z->cN (bQ z us) a=bQ (cN z a) us:=by
 induction us with
 | nil=>exact λ_ _=>rfl
 | cons y us ih =>
  intro z hz
  show cN (bQ (cN z y) us) a=bQ (cN (cN z a) y) us
  rw [ih (λz hz y hy=>hI z hz y (.tail _ hy)) (λz hz y hy=>hc z hz y (.tail _ hy)) _ (hI z hz y (.head _)),hc z hz y (.head _)]
structure sN(us:List UD):Prop where
  ids:∀u∈us,u.id.length=32
  keys:∀u∈us,u.key.length=32
theorem sN.tail{u:UD}{us:List UD}(h:sN (u::us)):sN us:=⟨λx hx=>h.ids x (.tail _ hx),λx hx=>h.keys x (.tail _ hx)⟩
theorem DirOk.apply:∀{us:List UD} {l:List EntD},DirOk l->sN us->DirOk (bQ l us)
 | [],_,h,_=>h
 | u::us,l,h,hu=>DirOk.apply (us:=us) (l:=cN l u) (h.step (hu.ids u (.head _)) (hu.keys u (.head _))) hu.tail
theorem n8:∀{us:List UD} {l:List EntD},DirOk l->sN us->us.Pairwise (λu v=>u.id≠v.id)->bQ l us.reverse=bQ l us
 | [],_,_,_,_=>rfl
 | u::us,l,h,hu,hp=>by
  have h1:=bN.1 hp;rw [List.reverse_cons]
  show(us.reverse++[u]).foldl cN l=_
  rw [oE]
  show cN (bQ l us.reverse) u=bQ (cN l u) us
  rw [n8 h hu.tail h1.2];exact q9 (I:=DirOk) (λz hz y hy=>hz.step (hu.ids y (.tail _ hy)) (hu.keys y (.tail _ hy))) (λz hz y hy=>qX hz (hu.ids y (.tail _ hy)) (hu.ids u (.head _)) (hu.keys y (.tail _ hy)) (hu.keys u (.head _)) λe=>h1.1 y hy e.symm) l h
theorem oA(l:List EntD)(us vs:List UD):bQ l (us++vs)=bQ (bQ l us) vs:=oE
def kZ(z:List EntD)(es:List EntD):List EntD:=es.foldl (λz e=>if e.2=[] then z else iD z e.1 e.2) z
theorem mX{l:List EntD}{x:List UInt8}(h:∀e∈l,e.1≠x):bK l x=[]:=by
 unfold bK
 rw [jZ.2 λe he h2=>h e he (by simpa using h2)]
theorem qF:∀{l:List EntD} {e:EntD},l.Pairwise (λa b=>a.1≠b.1)->e∈l->bK l e.1=e.2
 | [],_,_,h=>by cases h
 | a::l,e,hp,h=>by
  have h1:=bN.1 hp;rw [cC]
  rcases aJ.1 h with rfl|h
  ·rw [if_pos rfl]
  ·rw [if_neg (h1.1 e h),qF h1.2 h]
theorem nE:∀{es:List EntD},es.Pairwise (λa b=>a.1≠b.1)->∀(z:List EntD) (x:List UInt8),bK (kZ z es) x=if bK es x=[] then bK z x else bK es x
 | [],_,_,_=>rfl
 | e::es,hp,z,x=>by
  have h1:=bN.1 hp
  show bK (kZ (if e.2=[] then z else iD z e.1 e.2) es) x=_
  rw [nE h1.2,cC]
  by_cases hx:e.1=x
  ·subst hx
   rw [if_pos rfl,if_pos (mX λy hy=>(h1.1 y hy).symm)]
   by_cases hn:e.2=[]
   ·rw [if_pos hn,if_pos hn]
   ·rw [if_neg hn,if_neg hn,iP,if_pos rfl]
  ·rw [if_neg hx]
   by_cases hn:e.2=[]
   ·rw [if_pos hn]
   ·have e2:(if x=e.1 then e.2 else bK z x)=bK z x:=if_neg λh=>hx h.symm
    rw [if_neg hn,iP,e2]
end Nums
namespace Go.Proofs.YtlhlkofpjhpaoaaGreatDoor
open Nums
def pairD(e:EntD):PairT:=(e.1,valH e.2)
def pairsD(l:List EntD):List PairT:=l.map pairD
theorem pairsD_put:∀(l:List EntD) (id:List UInt8) (ks:List (List UInt8)),pairsD (iD l id ks)=dF (pairsD l) (id,valH ks)
 | [],_,_=>rfl
 | e::l,id,ks=>by
  show pairsD (if dU e.1 id then e::iD l id ks else if e.1=id then(id,ks)::l else(id,ks)::e::l)=if dU e.1 id then pairD e::dF (pairsD l) (id,valH ks) else if e.1=id then(id,valH ks)::pairsD l else(id,valH ks)::pairD e::pairsD l
  rw [<-pairsD_put l id ks]
  split
  ·rfl
  ·split<;>rfl
theorem DirOk.pairs{l:List EntD}(h:DirOk l):cR (pairsD l)/\gN (pairsD l):=⟨List.pairwise_map.2 h.sort,λp hp=>by
 obtain⟨e,he,rfl⟩:=bU.1 hp
 exact h.ids e he⟩
theorem getT_pairs:∀{l:List EntD},DirOk l->∀id,mG (pairsD l) id=if bK l id=[] then none else some (valH (bK l id))
 | [],_,_=>rfl
 | e::l,h,id=>by
  have ih:=getT_pairs h.tail id;rw [cC]
  show((pairD e::pairsD l).find? λq=>q.1==id).map (·.2)=_
  rw [List.find?_cons]
  by_cases c:e.1=id
  ·have:((pairD e).1==id)=true:=by simpa [pairD] using c
   rw [this,if_pos c,if_neg (h.some e (.head _))]
   rfl
  ·have:((pairD e).1==id)=false:=by simpa [pairD] using c
   rw [this,if_neg c];exact ih
end Go.Proofs.YtlhlkofpjhpaoaaGreatDoor
namespace Go.Proofs.YtlhlkofpjhpaoaaGreatDoor
open Go.RowKit Go.IntWalk
section
variable{T:List TyR}{b:Base}{ops:Array Oper}{Q:Exit->Act->World->Prop}{N:Nat}{G:Nat->Nat}{S:Nat->Prop}{E:SE}{L:List LV}{R:List Res}{F M:World->Prop}{w0:World}{T':List Oper}{Fa:Told}{i k:Nat}{o:Oper}{rest:List (Nat×Oper)}
theorem h_alloc{ty:TypeId}(zs:Array Value)(hg:o.guard=none)(hd:o.dst=some k)(hk:Nat.blt k N=true)(hf:farP i Fa=true)(ho:o.op = .alloc ty)(hz:(Tryz.prog.info? ty).bind (λi=>i.zero.map (·.cells))=some zs)
 (hn:∀g,hS Tryz.prog ops Q N T' G w0 rest ((k,.v (.pointer (some ⟨g,0,none⟩)))::E) ((i,λw=>w0.heap.size<=g/\Blk w g ty zs)::Fa)):hS Tryz.prog ops Q N T' G w0 ((i,o)::rest) E Fa:=λhE =>
 g_alloc zs w0.heap.size hg hd hk hf ho hz (λ_ h=>h.size) (λ_ _ _ h hb=>⟨h.1,h.2.later hb⟩) λg _ _ _ _=>hn g (hE.cons (v:=.v (.pointer (some ⟨g,0,none⟩))) trivial)
theorem h_endV(hst:StW b G S L R F M w0){g:Nat}{ty:TypeId}{ps:List Pt}(k i:Nat)(E':SE)(hi:lookP Fa i=some (λw=>w0.heap.size<=g/\Blk w g ty (catP ps)))(hk:lookS E k=some (.v (.pointer (some ⟨g,0,none⟩))))(hE':SubS E' E)(hfE:farE k E'=true)(hfL:farL k L=true)(hok:OkP ps)
 (h:lS Tryz.prog b ops Q N T' ⟨(k,.a k 0)::E',⟨k,none,ty,ps⟩::L,R,F,M⟩):hS Tryz.prog ops Q N T' G w0 [] E Fa:=λhE=>g_end λw hw hF=>λa ha=>by
 obtain⟨h1,h2⟩:=hF i _ hi
 have hfr:Fr N (denE (λj=>if j=k then g else G j) ((k,.a k 0)::E')) a:=ha.sub ⟨by
  rw [look_den,hk]
  show some (oJ (some ⟨g,0,none⟩))=some (oJ (some ⟨if k=k then g else G k,0,none⟩))
  rw [if_pos rfl],by rw [denE_far hfE];exact denE_sub hE'⟩
 have hst2:=hst.news (E:=E') (gs:=λ_=>g) hw [⟨k,none,ty,ps⟩] (by simp [freeV,hfE,hfL,farL]) (λu hu=>by rw [aF.1 hu];exact hok) (λ_ _=>h1) (λi j hi hj hne=>absurd (show i=j by simp at hi hj;omega) hne) λu hu=>by
  rw [aF.1 hu]
  show Blk w (if k=k then g else G k) ty (catP ps)
  rw [if_pos rfl];exact h2
 exact h a w ⟨_,S,hfr,OkE.cons (SubS.ok hE' hE) (v:=.a k 0) trivial,hst2⟩
theorem s_oneH{P:Program}{id:Nat}{l:List Oper}(n:Nat)(hn:n<=l.length)(hm:P.follows .mixedOrders=true)(hB:tailH l.toArray n (l.drop n).length=true)
 (h:∀G S w0,StW b G S L R F M w0->hS P l.toArray Q N (l.drop n) G w0 (idx 0 (l.take n)) E []):cS P b (.region id l.toArray true) Q N ⟨E,L,R,F,M⟩:=s_drawn n hn hm hB λG S w0 hst=>h G S w0 hst
end
theorem run_neqBoolW{N:Nat}{E:SE}{o:Oper}{x y:Operand}{t':TypeId}{u v:SV}{p q:Bool}(ho:o.op = .binOp .neq 4 x y t')(hx:evS E x=some u)(hy:evS E y=some v)(hu:∀G,u.den G = .bool p)(hv:∀G,v.den G = .bool q):∀(G:Nat->Nat) (a:Act) (w:World),Fr N (denE G E) a->(execOp a.eval o).run Tryz.prog w = .ok (.value ((SV.b (!(p==q))).den G)) w:=λG a w ha=>by
 have h1:a.eval x = .bool p:=(ha.eval (evS_ok hx)).trans (hu G);have h2:a.eval y = .bool q:=(ha.eval (evS_ok hy)).trans (hv G)
 unfold execOp
 simp only [ho,h1,h2]
 go_simp
 rfl
abbrev madeP(l:List UInt8):Post Nat:={ ret:=λg=>.v (.slice (some ⟨g,0,none⟩) l.length l.length),p:=λg=>Rd 1 eB (some ⟨g,0,none⟩) l.length l }
abbrev madeN(l:List UInt8):Post Nat:={ ret:=λg=>.v (.slice (some ⟨g,0,none⟩) l.length l.length),n:=λg=>Rd 1 eB (some ⟨g,0,none⟩) l.length l }
theorem Spec.p1{f:FuncId}{args:List Value}{F:World->Prop}{l:List UInt8}(h:Spec f args [] F (madeN l)):Spec f args [] F (madeP l):=λw S X hs hX hF=>by
 refine(h w S X hs hX hF).mono ?_
 rintro e w' ⟨x,S',h1,h2,h3,h4,h5,h6,h7⟩
 refine⟨x,S',h1,h2,h3,h4,h5,h7.less λk _ hk=>?_,λ_ _=>trivial⟩
 rcases hk with hk|hk
 ·exact .inl (hX k hk).1
 ·exact .inr hk
instance{l:List UInt8}{g:Nat}:Pst ((madeP l).p g):=inferInstanceAs (Pst (Rd 1 eB (some ⟨g,0,none⟩) l.length l))
instance pst_true:Pst (λ_:World=>True):=⟨λ_ _ _ _=>trivial⟩
instance{r:RV}{x:Unit}:Pst ((one r).p x):=⟨λ_ _ _ _=>trivial⟩
theorem madeP_rd{l:List UInt8}{x:Nat}{w:World}(h:∃y,((madeP l).ret x).den=((madeP l).ret y).den/\(madeP l).p y w):Rd 1 eB (some ⟨x,0,none⟩) l.length l w:=by
 obtain⟨y,e,hy⟩:=h;have e:Value.slice (some ⟨x,0,none⟩) l.length l.length = .slice (some ⟨y,0,none⟩) l.length l.length:=e
 injection e with e
 injection e with e
 injection e with e
 rw [e];exact hy
abbrev tellP(l:List UInt8):Post (Option Addr×Nat):={ ret:=λx=>.v (.slice x.1 l.length x.2),p:=λx=>Rd 1 eB x.1 x.2 l }
instance{l:List UInt8}{x:Option Addr×Nat}:Pst ((tellP l).p x):=inferInstanceAs (Pst (Rd 1 eB x.1 x.2 l))
end Go.Proofs.YtlhlkofpjhpaoaaGreatDoor
namespace Nums
def iK:List Nat->Nat
  | []=>0
  | x::r=>x+2*iK r
theorem nW:∀(d:List Nat) (j v:Nat),j<d.length->iK (d.set j v)+d[j]! * 2^j=iK d+v*2^j
 | [],_,_,h=>by simp at h
 | x::r,0,v,_=>by
  simp only [List.set_cons_zero,iK,kH,Nat.mul_one];have:(x::r)[0]! = x:=rfl;rw [this]
  omega
 | x::r,j+1,v,h=>by
  have ih:=nW r j v (by simpa using h)
  have e:(x::r)[j+1]! = r[j]!:=by simp
  rw [e,List.set_cons_succ,iK,iK,b9]
  have e1:r[j]! * (2^j*2)=2*(r[j]! * 2^j):=by rw [<-fH,cU _ 2]
  have e2:v*(2^j*2)=2*(v*2^j):=by rw [<-fH,cU _ 2]
  rw [e1,e2]
  omega
theorem sB(n:Nat):iK (aA n 0)=0:=by
 induction n with
 | zero=>rfl
 | succ n ih=>rw [List.replicate_succ,iK,ih]
theorem sC{d:List Nat}{j:Nat}(h:j<d.length):iK (d.drop j)=d[j]! + 2*iK (d.drop (j+1)):=by
 rw [gQ h,iK,getElem!_pos d j h]
structure DG(N i:Nat)(f:Int)(d:List Nat):Prop where
  len:d.length=256
  sum:iK d=N%2^i
  hi:∀j,i<=j->j<256->d[j]! = 0
  odd:∀j,j<256->d[j]! = 0\/(d[j]! % 2=1/\d[j]! < 16)
  last:f = -4\/∃m:Nat,f=m/\m<i/\d[m]! < 2^(i-m)/\d[m]! % 2=1
theorem tA(n j:Nat)(h:j<n):(aA n 0)[j]! = 0:=by
 rw [getElem!_pos _ j (by simpa using h)]
 simp
theorem DG.start(N:Nat):DG N 0 (-4) (aA 256 0) where
 len:=bE
 sum:=by rw [sB,kH,Nat.mod_one]
 hi:=λj _ h=>tA 256 j h
 odd:=λj h=>.inl (tA 256 j h)
 last:=.inl rfl
theorem n5(N i:Nat):N%2^(i+1)=N%2^i+N/2^i%2*2^i:=by
 rw [b9,Nat.mod_mul,cU (2^i)]
theorem DG.zero{N i:Nat}{f:Int}{d:List Nat}(h:DG N i f d)(hb:N/2^i%2=0):DG N (i+1) f d where
 len:=h.len
 sum:=by rw [h.sum,n5,hb,Nat.zero_mul,dN]
 hi:=λj hj=>h.hi j (by omega)
 odd:=h.odd
 last:=h.last.imp id λ⟨m,h1,h2,h3,h4⟩=>⟨m,h1,by omega,bZ h3 (Nat.pow_le_pow_right (by decide) (by omega)),h4⟩
theorem mT{d:List Nat}{j v:Nat}(h:j<d.length):(d.set j v)[j]! = v:=by
 rw [getElem!_pos _ j (by simpa using h)]
 simp
theorem pG{d:List Nat}{j k v:Nat}(h:j≠k):(d.set j v)[k]! = d[k]!:=by
 simp only [List.getElem!_eq_getElem?_getD,List.getElem?_set_ne h]
theorem DG.fresh{N i:Nat}{f:Int}{d:List Nat}(h:DG N i f d)(hi:i<256)(hb:N/2^i%2=1):DG N (i+1) i (d.set i 1) where
 len:=by rw [bV,h.len]
 sum:=by
  have h1:=nW d i 1 (by rw [h.len];exact hi);rw [h.hi i (aH _) hi,h.sum] at h1;rw [n5,hb]
  omega
 hi:=λj hj hj2=>by rw [pG (by omega)];exact h.hi j (by omega) hj2
 odd:=λj hj=>by
  by_cases e:i=j
  ·subst e
   rw [mT (by rw [h.len];exact hi)];exact .inr ⟨by decide,by decide⟩
  ·rw [pG e]
   exact h.odd j hj
 last:=.inr ⟨i,rfl,by omega,by rw [mT (by rw [h.len];exact hi),show i+1-i=1 from by omega];decide,by rw [mT (by rw [h.len];exact hi)]⟩
theorem DG.more{N i m:Nat}{d:List Nat}(h:DG N i m d)(hi:i<256)(hb:N/2^i%2=1)(hm:i<m+4):m<i/\d[m]! < 2^(i-m)/\DG N (i+1) m (d.set m (d[m]! + 2^(i-m))):=by
 obtain⟨m',h1,h2,h3,h4⟩:∃m':Nat,(m:Int)=m'/\m'<i/\d[m']! < 2^(i-m')/\d[m']! % 2=1:=by
  rcases h.last with h1|h1
  ·omega
  ·exact h1
 obtain rfl:m=m':=by omega
 have hml:m<d.length:=by rw [h.len];omega
 have hpe:2^(i+1-m)=2^(i-m)*2:=by rw [show i+1-m=i-m+1 from by omega,b9]
 have hk:i-m=1\/i-m=2\/i-m=3:=by omega
 have hpow:2^(i-m)*2<=16/\2^(i-m)%2=0:=by rcases hk with e|e|e<;>rw [e]<;>decide
 refine⟨h2,h3,⟨by rw [bV,h.len],?_,λj hj hj2=>?_,λj hj=>?_,.inr ⟨m,rfl,by omega,?_,?_⟩⟩⟩
 ·have e1:=nW d m (d[m]! + 2^(i-m)) hml
  have e2:2^(i-m)*2^m=2^i:=by rw [<-Nat.pow_add];congr 1;omega
  rw [Nat.add_mul,e2,h.sum] at e1;rw [n5,hb]
  omega
 ·rw [pG (by omega)]
  exact h.hi j (by omega) hj2
 ·by_cases e:m=j
  ·subst e
   rw [mT hml];exact .inr ⟨by omega,by omega⟩
  ·rw [pG e]
   exact h.odd j hj
 ·rw [mT hml,hpe]
  omega
 ·rw [mT hml]
  omega
namespace Ed
variable{n:Nat}[NeZero n]{d:Fin n}
def tot(d:Fin n):List (Pt n)->Nat->(Nat->Nat)->Pt n
  | [],_,_=>zero
  | A::ps,i,f=>add d (mul d (f i) A) (tot d ps (i+1) f)
theorem mW(g:Good n d):∀{ps:List (Pt n)},(∀A∈ps,On d A)->∀i f,On d (tot d ps i f)
 | [],_,_,_=>jH
 | A::ps,h,i,f=>iU g (eN g (h A (by simp)) _) (mW g (λB hB=>h B (by simp [hB])) (i+1) f)
theorem k9:∀{ps:List (Pt n)} {i:Nat} {f f':Nat->Nat},(∀j,i<=j->j<i+ps.length->f j=f' j)->tot d ps i f=tot d ps i f'
 | [],_,_,_,_=>rfl
 | A::ps,i,f,f',h=>by
  rw [tot,tot,h i (aH _) (by simp),k9 (i:=i+1) (f:=f) (f':=f') λj h1 h2=>h j (by omega) (by simp;omega)]
theorem pZ(g:Good n d):∀{ps:List (Pt n)} {i:Nat} {f:Nat->Nat},(∀j,i<=j->j<i+ps.length->f j=0)->tot d ps i f=zero
 | [],_,_,_=>rfl
 | A::ps,i,f,h=>by
  rw [tot,h i (aH _) (by simp),mE,zero_add g,pZ g λj h1 h2=>h j (by omega) (by simp;omega)]
theorem rL(g:Good n d):∀{ps:List (Pt n)},(∀A∈ps,On d A)->∀(i:Nat) (f:Nat->Nat),tot d ps i (λj=>2*f j)=add d (tot d ps i f) (tot d ps i f)
 | [],_,_,_=>(zero_add g zero).symm
 | A::ps,h,i,f=>by
  have hA:=h A (by simp);have hs:∀B∈ps,On d B:=λB hB=>h B (by simp [hB]);rw [tot,tot,rL g hs (i+1) f,Nat.two_mul,mul_add g hA,qJ g (eN g hA _) (eN g hA _) (mW g hs _ _) (mW g hs _ _)]
theorem p5(g:Good n d):∀{ps:List (Pt n)},(∀A∈ps,On d A)->∀(i j v:Nat) (f f':Nat->Nat) (A:Pt n),ps[j]?=some A->f' (i+j)=f (i+j)+v->(∀k,k≠i+j->f' k=f k) ->
  tot d ps i f'=add d (tot d ps i f) (mul d v A)
 | [],_,_,_,_,_,_,A,hj,_,_=>by simp at hj
 | B::ps,h,i,0,v,f,f',A,hj,h1,h2=>by
  simp only [List.getElem?_cons_zero,aU] at hj;subst hj;have hB:=h B (by simp);have hs:∀B∈ps,On d B:=λB hB=>h B (by simp [hB]);rw [tot,tot,k9 (ps:=ps) (i:=i+1) (f:=f') (f':=f) λk h3 _=>h2 k (by omega)];rw [dN] at h1;rw [h1,mul_add g hB,add_assoc g (eN g hB _) (eN g hB _) (mW g hs _ _),add_assoc g (eN g hB _) (mW g hs _ _) (eN g hB _),add_comm (mul d v B)]
 | B::ps,h,i,j+1,v,f,f',A,hj,h1,h2=>by
  have hB:=h B (by simp);have hs:∀B∈ps,On d B:=λB hB=>h B (by simp [hB]);have hA:On d A:=hs A (List.mem_of_getElem? (by simpa using hj))
  rw [tot,tot,p5 g hs (i+1) j v f f' A (by simpa using hj) (by rw [Nat.add_right_comm,Nat.add_assoc];exact h1) (λk hk=>h2 k (by omega)),h2 i (by omega),
   add_assoc g (eN g hB _) (mW g hs _ _) (eN g hA _)]
end Ed
end Nums
namespace Go.Proofs.YtlhlkofpjhpaoaaGreatDoor
open Go.RowKit Go.IntWalk Nums
theorem whs_eq(l:List Nat)(u k:Nat):whs l u k=mx (λj=>(up2 l u j+l[j]!)%2251799813685248) l k:=rfl
theorem up1_le{l:List Nat}{x:F}(h:EB l x):∀k,k<=5->up1 l 19 k<=19
 | 0,_=>aH _
 | k+1,hk=>by
  have h1:=up1_le h k (by omega);have h2:=eb_get h (k:=k) (by omega)
  show(l[k]! + up1 l 19 k)/2251799813685248<=19
  omega
theorem up2_le{l:List Nat}{x:F}(h:EB l x){u:Nat}(hu:u<=361):∀k,k<=5->up2 l u k<=361
 | 0,_=>hu
 | k+1,hk=>by
  have h1:=up2_le h hu k (by omega);have h2:=eb_get h (k:=k) (by omega)
  show(up2 l u k+l[k]!)/2251799813685248<=361
  omega
theorem whole_f{a:List Nat}{x:F}(ha:EB a x)(w:World) :
  Calls Tryz.prog 176 #[.agg (Us a).toArray] w λe w'=>e = .returned (.agg (Us (whole a)).toArray)/\Below w.heap.size w w':=by
 have hW:whole a=whs a (up1 a 19 5*19) 5:=rfl;rw [hW];clear hW;generalize hq1:up1 a 19 5=q;generalize hu0:q*19=u0
 go_enter Tryz.func176,Tryz.ntmps176
 go_wp2
 go_loopw [6,3] (λi u wr=>∃k:Nat,k<=5/\i = .int .i64 k/\u = .int .u64 (up1 a 19 k:Nat)/\Blk wr w.heap.size 193 (Us a).toArray/\Blk wr (w.heap.size+1) 193 z5/\Below w.heap.size w wr) (λi _ _=>5-(intOf i).toNat)
 case atStart =>
  exact⟨0,by omega,rfl,rfl,heap_alloc2_old w _ _,heap_alloc2_new w _ _,((Below.refl _ _).alloc (aH _) _).alloc (by simp) _⟩
 case round =>
  obtain⟨k,hk,rfl,rfl,h0,h1,hbel⟩:=hrel
  by_cases hlt:k<5
  ·have hN:up1 a 19 (k+1)=(a[k]! + up1 a 19 k)/2251799813685248:=rfl
   have c0:=(h0.cell k).trans (Us_at (by rw [ha.len];exact hlt));have b0:=eb_get ha hlt;have b1:=up1_le ha k (by omega);generalize a[k]! = u at *;generalize up1 a 19 k=v at *
   have q1:IntKind.u64.wrap ((u:Int)+(v:Int))=((u+v:Nat):Int):=by rw [aZ];omega
   have q2:(0:Int)<=(k:Int):=by omega
   have HK:=dG (eH h0 (eH h1 (eH hbel hN)));clear h0 h1 hbel hN
   go_wp2
   go_roundw
   case rel =>
    obtain⟨h0,h1,hbel,hN⟩:=HK.out;exact⟨k+1,by omega,by go_num,by rw [hN];congr 1,h0,h1,hbel⟩
   case measure=>simp [intOf];omega
  ·obtain rfl:k=5:=by omega
   have b1:=up1_le ha 5 (by omega);rw [hq1] at b1 ⊢
   have hq:u0<=361:=by omega
   have q1:IntKind.u64.wrap ((q:Int)*19)=(u0:Int):=by rw [aZ];omega
   clear hq1 hu0
   have hW0:whs a u0 0=a:=by rw [whs_eq,mx_zero _ ha.len]
   have HK:=dG (eH h0 (eH h1 hbel));clear h0 h1 hbel
   go_wp2
   go_loopw [19,3] (λi u wq=>∃k:Nat,k<=5/\i = .int .i64 k/\u = .int .u64 (up2 a u0 k:Nat)/\Blk wq w.heap.size 193 (Us (whs a u0 k)).toArray/\Blk wq (w.heap.size+1) 193 z5/\Below w.heap.size w wq) (λi _ _=>5-(intOf i).toNat)
   case atStart =>
    obtain⟨h0,h1,hbel⟩:=HK.out;exact⟨0,by omega,rfl,rfl,by rw [hW0];exact h0,h1,hbel⟩
   case round =>
    obtain⟨k,hk,rfl,rfl,h0,h1,hbel⟩:=hrel;clear HK
    by_cases hlt:k<5
    ·have hN:up2 a u0 (k+1)=(up2 a u0 k+a[k]!)/2251799813685248:=rfl
     have hS:(whs a u0 k).set k ((up2 a u0 k+a[k]!)%2251799813685248)=whs a u0 (k+1):=mx_set (λj=>(up2 a u0 j+a[j]!)%2251799813685248) a;have hg:(whs a u0 k)[k]! = a[k]!:=mx_get _ a hlt;have c0:=(h0.cell k).trans (Us_at (by rw [whs_eq,mx_len];exact hlt));rw [hg] at c0;have hf:=h0.free k;have b0:=eb_get ha hlt;have b1:=up2_le ha hq k (by omega);generalize a[k]! = u at *;generalize up2 a u0 k=v at *
     have q2:IntKind.u64.wrap ((v:Int)+(u:Int))=((v+u:Nat):Int):=by rw [aZ];omega
     have q3:=maskW (v+u) (by omega)
     have q4:(0:Int)<=(k:Int):=by omega
     have HK:=dG (eH h0 (eH h1 (eH hbel (eH hN hS))));clear h0 h1 hbel hN hS hg;generalize hs:v+u=s at *
     go_wp2
     go_roundw
     case rel =>
      obtain⟨h0,h1,hbel,hN,hS⟩:=HK.out;have h4:=h0.set k (.int .u64 ((s%2251799813685248:Nat):Int));rw [Us_set,hS] at h4;exact⟨k+1,by omega,by go_num,by rw [hN];congr 1,h4,h1.far (by simp) _,hbel.setCell (by simp) _⟩
     case measure=>simp [intOf];omega
    ·obtain rfl:k=5:=by omega
     have hz:(Us (whs a u0 5)).toArray.size=5:=len_us (by rw [whs_eq,mx_len])
     go_wp2_with (first
      | (refine wpList_load_row rfl 193 _ rfl w.heap.size rfl 193 (Us (whs a u0 5)).toArray (0,0) _ h0 Tryz.underlying193 rfl (size_el _ hz) ?_)
      | (refine wpList_store_row rfl 193 _ _ rfl (w.heap.size+1) rfl (Us (whs a u0 5)).toArray rfl 193 _ h1 (size_el _ hz) (by rw [hz];rfl) (Us_one _) ?_))
     refine bodyPost_ret (results_cell_row rfl _ _ (w.heap.size+1) 193 (Us (whs a u0 5)).toArray (0,0) _ rfl (h1.row _) Tryz.underlying193 rfl (size_el _ hz)) rfl ⟨rfl,?_⟩;exact below_setRow hbel (by omega) _
def W2(s:Nat):Array Value:=(Us [s/18446744073709551616,s%18446744073709551616]).toArray
theorem W2_size(s:Nat):(W2 s).size=2:=rfl
theorem W2_one(s:Nat):∀u∈(W2 s).toList,u.oneCell'=true:=Us_one _
theorem plus_f(s a b:Nat)(ha:a<18446744073709551616)(hb:b<18446744073709551616)(hs:s+a*b<340282366920938463463374607431768211456)(w:World) :
  Calls Tryz.prog 172 #[.agg (W2 s),.int .u64 a,.int .u64 b] w λe w'=>e = .returned (.agg (W2 (s+a*b)))/\Below w.heap.size w w':=by
 refine(plus_any (s/18446744073709551616) (s%18446744073709551616) a b (by omega) (by omega) ha hb w).mono ?_
 rintro e w' ⟨rfl,hw⟩
 refine⟨?_,hw⟩
 unfold W2
 generalize a*b=m at *
 have e1:(s/18446744073709551616+m/18446744073709551616+(s%18446744073709551616+m%18446744073709551616)/18446744073709551616)%18446744073709551616=(s+m)/18446744073709551616:=by omega
 have e2:(s%18446744073709551616+m%18446744073709551616)%18446744073709551616=(s+m)%18446744073709551616:=by omega
 rw [e1,e2]
theorem low_f(s:Nat)(w:World) :
  Calls Tryz.prog 173 #[.agg (W2 s)] w λe w'=>e = .returned (.int .u64 ((s%2251799813685248:Nat):Int))/\Below w.heap.size w w':=by
 refine(low_any (s/18446744073709551616) (s%18446744073709551616) (by omega) w).mono ?_
 rintro e w' ⟨rfl,hw⟩
 refine⟨?_,hw⟩
 have e1:s%18446744073709551616%2251799813685248=s%2251799813685248:=by omega
 rw [e1]
theorem high_f(s:Nat)(hs:s<41538374868278621028243970633760768)(w:World) :
  Calls Tryz.prog 174 #[.agg (W2 s)] w λe w'=>e = .returned (.int .u64 ((s/2251799813685248:Nat):Int))/\Below w.heap.size w w':=by
 refine(high_any (s/18446744073709551616) (s%18446744073709551616) (by omega) (by omega) w).mono ?_
 rintro e w' ⟨rfl,hw⟩
 refine⟨?_,hw⟩
 have e1:s/18446744073709551616*8192+s%18446744073709551616/2251799813685248=s/2251799813685248:=by omega
 rw [e1]
theorem lv_take:∀(l:List Nat) {k:Nat},k<l.length->lv (l.take (k+1))=lv (l.take k)+2251799813685248^k*l[k]!
 | d::ds,0,_=>by simp [lv]
 | d::ds,k+1,h=>by
  have ih:=lv_take ds (k:=k) (by simpa using h)
  show d+2251799813685248*lv (ds.take (k+1))=d+2251799813685248*lv (ds.take k)+2251799813685248^(k+1)*ds[k]!
  rw [ih,b9]
  grind only
structure MM(a:List Nat)(y:F)(k c0 c1 c2 c3 c4 s0 s1 s2 s3 s4:Nat):Prop where
  cv:fof (lv [c0,c1,c2,c3,c4])=fof (2251799813685248^k)*y
  sv:fof (lv [s0,s1,s2,s3,s4])=fof (lv (a.take k))*y
  c0b:c0<42784196465000448
  c1b:c1<42784196465000448
  c2b:c2<42784196465000448
  c3b:c3<42784196465000448
  c4b:c4<42784196465000448
  c0u:k<=0->c0<2251799813947392
  c1u:k<=1->c1<2251799813947392
  c2u:k<=2->c2<2251799813947392
  c3u:k<=3->c3<2251799813947392
  c4u:k<=4->c4<2251799813947392
  s0b:s0<=k*96341445640026967064998646153216
  s1b:s1<=k*96341445640026967064998646153216
  s2b:s2<=k*96341445640026967064998646153216
  s3b:s3<=k*96341445640026967064998646153216
  s4b:s4<=k*96341445640026967064998646153216
theorem prod_le{v c:Nat}(hv:v<2251799813947392)(hc:c<42784196465000448):v*c<=96341445640026967064998646153216 :=
 Nat.le_trans (Nat.mul_le_mul (rF hv) (rF hc)) (by decide)
theorem MM.next{a:List Nat}{x y:F}{k c0 c1 c2 c3 c4 s0 s1 s2 s3 s4:Nat}(h:MM a y k c0 c1 c2 c3 c4 s0 s1 s2 s3 s4)(ha:EB a x)(hk:k<5) :
  MM a y (k+1) (19*c4) c0 c1 c2 c3 (s0+a[k]! * c0) (s1+a[k]! * c1) (s2+a[k]! * c2) (s3+a[k]! * c3) (s4+a[k]! * c4):=by
 obtain⟨cv,sv,g0,g1,g2,g3,g4,u0,u1,u2,u3,u4,t0,t1,t2,t3,t4⟩:=h;have hv:=eb_get ha hk;have p0:=prod_le hv g0;have p1:=prod_le hv g1;have p2:=prod_le hv g2;have p3:=prod_le hv g3;have p4:=prod_le hv g4
 have hm:(k+1)*96341445640026967064998646153216=k*96341445640026967064998646153216+96341445640026967064998646153216:=by omega
 have:=u4 (by omega);refine⟨?_,?_,by omega,g0,g1,g2,g3,by omega,by omega,by omega,by omega,by omega,by omega,by omega,by omega,by omega,by omega⟩
 ·rw [uI,cv,b9,dJ]
  generalize fof (2251799813685248^k)=u;generalize fof 2251799813685248=v
  grind only
 ·rw [uW,iM,sv,dJ,cv,lv_take a (by rw [ha.len];exact hk),iM,dJ]
  generalize fof (lv (a.take k))=u;generalize fof (2251799813685248^k)=v;generalize fof (a[k]!)=z
  grind only
theorem MM.start{a:List Nat}{b0 b1 b2 b3 b4:Nat}{y:F}(h0:b0<2251799813947392)(h1:b1<2251799813947392)(h2:b2<2251799813947392)(h3:b3<2251799813947392)(h4:b4<2251799813947392)(hb:fof (lv [b0,b1,b2,b3,b4])=y) :
  MM a y 0 b0 b1 b2 b3 b4 0 0 0 0 0:=by
 refine⟨?_,?_,by omega,by omega,by omega,by omega,by omega,λ_=>h0,λ_=>h1,λ_=>h2,λ_=>h3,λ_=>h4,by omega,by omega,by omega,by omega,by omega⟩
 ·rw [hb,kH,fL]
  grind only
 ·have e1:fof (lv [0,0,0,0,0])=0:=jU
  have e2:fof (lv (a.take 0))=0:=jU;rw [e1,e2]
  grind only
theorem MM.fin{a:List Nat}{x y:F}{c0 c1 c2 c3 c4 s0 s1 s2 s3 s4:Nat}(h:MM a y 5 c0 c1 c2 c3 c4 s0 s1 s2 s3 s4)(ha:EB a x) :
  fof (lv (crd s0 s1 s2 s3 s4))=x*y/\s0<41538374868278621028243970633760768/\s1<41538374868278621028243970633760768/\s2<41538374868278621028243970633760768/\s3<41538374868278621028243970633760768/\s4<41538374868278621028243970633760768 /\
   s0/2251799813685248<400000000000000000/\s1/2251799813685248<400000000000000000/\s2/2251799813685248<400000000000000000/\s3/2251799813685248<400000000000000000/\s4/2251799813685248<400000000000000000:=by
 have e:a.take 5=a:=bC (by rw [ha.len];omega);obtain⟨cv,sv,g0,g1,g2,g3,g4,u0,u1,u2,u3,u4,t0,t1,t2,t3,t4⟩:=h;rw [e,ha.val] at sv;exact⟨by rw [uB,sv],by omega,by omega,by omega,by omega,by omega,by omega,by omega,by omega,by omega,by omega⟩
theorem own_low:Own 173:=λ_ _=>by go_simp
theorem own_high:Own 174:=λ_ _=>by go_simp
theorem own_carried:Own 175:=λ_ _=>by go_simp
theorem own_whole:Own 176:=λ_ _=>by go_simp
theorem own_elmul:Own 142:=λ_ _=>by go_simp
theorem own_eladd:Own 149:=λ_ _=>by go_simp
theorem own_elsub:Own 147:=λ_ _=>by go_simp
theorem own_hash:Own 143:=λ_ _=>by go_simp
theorem own_small:Own 145:=λ_ _=>by go_simp
section
variable{ops:Array Oper}{C0:World->Prop}{Q:Act->Prop}{a:Act}{o:Oper}{rest:List Oper}
theorem b_el{l:List Nat}(g:Nat)(hl:l.length=5)(x:Operand)(hg:Region.wanted o (yielded ops a.tmps)=true)(ho:o.op = .load 193 x)(hx:a.eval x = .pointer (some ⟨g,0,none⟩))
 (hc:∀w,C0 w->Blk w g 193 (Us l).toArray)(hk:wpB Tryz.prog ops C0 Q rest (a.put o.dst (.agg (Us l).toArray))):wpB Tryz.prog ops C0 Q (o::rest) a :=
 b_mid hg 193 x ho g 0 hx (Us l) _ (λw h=>(hc w h).range) Tryz.underlying193 rfl (size_el (Us l).toArray (by rw [aT,Us_len,hl])) hk
end
theorem wd_limbs{l:List Nat}(hl:l.length=5)(hb:∀y∈l,y<2251799813685248){k:Nat}(hk:k<4) :
  bits .or .u64 ((l[64*k/51]! : Nat)/2^(64*k%51):Int) (IntKind.u64.wrap ((l[64*k/51+1]! : Nat)*2^(51-64*k%51):Int))=((wd (lv l) k:Nat):Int):=by
 obtain⟨a0,a1,a2,a3,a4,rfl⟩:=nM hl;have h0:=hb a0 (by simp);have h1:=hb a1 (by simp);have h2:=hb a2 (by simp);have h3:=hb a3 (by simp);have h4:=hb a4 (by simp)
 unfold wd
 rw [lv5]
 have h4':k=0\/k=1\/k=2\/k=3:=by omega
 have key:∀(i x y r t L:Nat),y*2^t%18446744073709551616%2^i=0->x/2^r<2^i->x/2^r<18446744073709551616->y*2^t%18446744073709551616+x/2^r=L ->
   bits .or .u64 ((x:Nat)/2^r:Int) (IntKind.u64.wrap ((y:Nat)*2^t:Int))=(L:Int):=by
  intro i x y r t L e1 e2 e3 e4
  have f1:((x:Int)/2^r)=((x/2^r:Nat):Int):=by simp
  have f2:IntKind.u64.wrap ((y:Int)*2^t)=((y*2^t%18446744073709551616:Nat):Int):=by
   rw [aZ]
   simp
  rw [f1,f2,<-e4,u64_or_nat _ _ e3 (by omega),Nat.or_comm,nat_join i _ _ e1 e2]
 rcases h4' with rfl|rfl|rfl|rfl
 ·exact key 51 a0 a1 0 51 _ (by omega) (by omega) (by omega) (by simp only [dX];omega)
 ·exact key 38 a1 a2 13 38 _ (by omega) (by omega) (by omega) (by simp only [dX];omega)
 ·exact key 25 a2 a3 26 25 _ (by omega) (by omega) (by omega) (by simp only [dX];omega)
 ·exact key 12 a3 a4 39 12 _ (by omega) (by omega) (by omega) (by simp only [dX];omega)
end Go.Proofs.YtlhlkofpjhpaoaaGreatDoor
