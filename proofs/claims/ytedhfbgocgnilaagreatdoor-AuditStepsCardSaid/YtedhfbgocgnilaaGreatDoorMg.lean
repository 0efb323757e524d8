import Derived.Test.YtedhfbgocgnilaaGreatDoorMf
import Derived.Test.YtedhfbgocgnilaaGreatDoorMe
import Derived.Test.YtedhfbgocgnilaaGreatDoorMd
import Derived.Test.YtedhfbgocgnilaaGreatDoorMb
import Derived.Laws.StructEq
import Derived.Lib.BytesEntry
import Derived.Laws.Externs
open Option.some renaming inj->jm
open Go.Sem renaming run_bind->bI,run_pure->bM
open Go.Result renaming andThen_ok->bS
open Go renaming World->yp
set_option linter.defProp false
open Go.Proofs.Tryz
set_option maxRecDepth 100000
set_option maxHeartbeats 4000000
open Go.Extern.BytealgCompare renaming compare->jA
open Go.Extern.Bytes renaming bytesOf->j9
open Go.Lib renaming compareBytes->dF
open Go.Value renaming int->bQ
open List renaming replicate->aB,range->dV,filter->j4,Perm->kR,mem_filterMap->mL,filter_append->mN,append_eq_nil_iff->oA,map_eq_nil_iff->pV,length_attach->qK,attach_map_subtype_val->sP,eq_nil_or_concat->vV,concat_eq_append->vW,append_nil->fj,eq_nil_of_length_eq_zero->lB,length_append->aV,mem_singleton->bU,getElem?_eq_getElem->da,mem_cons->bT,getElem?_eq_some_iff->eY,mem_of_getElem?->eg,length_take->du,append_assoc->ei,mem_map->dv,length_cons->fL,map_cons->eZ,mem_append->iA,getElem?_append_right->rz,pairwise_cons->qu,length_drop->k7,nil_append->lD,getElem?_append_left->uk,nodup_cons->AF,pairwise_append->Lp,getElem?_cons_succ->PZ,length_map->dL,size_toArray->fx,take_of_length_le->kE,length_set->jO,take_left->LV,map_append->jl,take_length->kW,take_add_one->qw,flatten_cons->wE,flatten_append->Ag,drop_of_length_le->um,drop_eq_getElem_cons->z9,set_append_right->yF,length_nil->Fu,getElem?_map->lC,getElem?_of_mem->Dq,pairwise_map->QQ,nodup_append->QR,length_singleton->oM,mem_filter->BO,map_map->qB,map_congr_left->Ab,mem_of_mem_take->HI,range_succ->LW
open Nat renaming strongRecOn->qP,zero_add->dI,le_refl->aQ,zero_le->bl,add_zero->jP,add_sub_cancel_left->xD,le_trans->fo,one_mul->qI,le_of_eq->vF,mod_eq_of_lt->gm,eq_zero_or_pos->Lx,mul_add->Cw,sub_self->si,le_succ->DU,not_lt_zero->Ds
open UInt8 renaming ofNat->bX,lt_irrefl->aT,lt_iff_toNat_lt->oF,toNat_ofNat'->Aj
namespace Go.Proofs.Q
open Go.RowKit Go.IntWalk Nums
def yC(wy:ae)(way:aC):Prop:=wy.length=32/\way.length<=256/\(∀i,i<way.length->b7 wy i=way[i]!)/\∀i,way.length<=i->i<256->b7 wy i=0
def pB(wy:ae)(d:Nat):aL:=.p [.agg 32 (By wy).toArray,.one (.v (.int .i64 (d:Int)))]
def FU{wy:ae}(h:wy.length=32)(d:Nat):(pB wy d).aI:=λp hp=>by
 rcases bT.1 hp with rfl|hp
 .exact GD h
 .rw [bU.1 hp];exact⟨trivial,rfl,rfl⟩
def alK(i:Nat):b7 dx i=0:=by
 unfold b7;have:(dx[i/8]!)=0:=by
  by_cases h:i/8<32
  .rw [getElem!_pos dx (i/8) h];show(aB 32 (0:UInt8))[i/8]=0;exact List.getElem_replicate ..
  .rw [getElem!_neg dx (i/8) (by show ¬i/8<32;exact h)];rfl
 rw [this];simp
def yC.nil:yC dx []:=⟨rfl,bl _,λ_ h=>absurd h (Ds _),λi _ _=>alK i⟩
def avN:∀k:Nat,k<256->∀j:Nat,j<8->∀b:Nat,b<2->k/2^j%2=0->bits .or .u8 (k:Int) ((b*2^j:Nat):Int)=((k+b*2^j:Nat):Int):=by
 have key:∀k:Nat,k<256->∀j:Nat,j<8->∀b:Nat,b<2->k/2^j%2=0->bits .or .u8 (k:Int) ((b*2^j:Nat):Int)=((k+b*2^j:Nat):Int):=by decide +kernel
 exact key
def agA:∀k:Nat,k<256->∀j:Nat,j<8->∀b:Nat,b<2->k/2^j%2=0->k+b*2^j<256/\∀i,i<8->(k+b*2^j)/2^i%2=if i=j then b else k/2^i%2:=by decide +kernel
def xf(wy:ae)(d b:Nat):ae:=wy.set (d/8) (bX ((wy[d/8]!).toNat+b*2^(7-d%8)))
def alJ{wy:ae}(hl:wy.length=32){d b:Nat}(hd:d<256)(hb:b<2)(h0:b7 wy d=0):(xf wy d b).length=32/\∀i,i<256->b7 (xf wy d b) i=if i=d then b else b7 wy i:=by
 refine⟨by rw [xf,jO];exact hl,λi hi=>?_⟩;have hk:=(wy[d/8]!).toNat_lt;obtain⟨h1,h2⟩:=agA _ hk (7-d%8) (by omega) b hb h0;unfold xf b7;by_cases e:i/8=d/8
 .rw [e,getElem!_pos _ (d/8) (by rw [jO];omega),List.getElem_set_self,Aj,(gm h1:(_+b*2^(7-d%8))%2^8=_),h2 (7-i%8) (by omega)]
  by_cases e2:i=d
  .rw [if_pos e2,if_pos (by rw [e2])]
  .rw [if_neg e2,if_neg (by omega)]
 .rw [if_neg (λh=>e (by rw [h])),getElem!_pos _ (i/8) (by rw [jO];omega),List.getElem_set_ne (by omega),<-getElem!_pos wy (i/8) (by omega)]
def yC.more{wy:ae}{way:aC}(h:yC wy way)(al:way.length<256){b:Nat}(hb:b<2):yC (xf wy way.length b) (way++[b]):=by
 obtain⟨h1,h2,h3,h4⟩:=h;obtain⟨k1,k2⟩:=alJ h1 al hb (h4 _ (aQ _) al);have elen:(way++[b]).length=way.length+1:=by rw [aV,oM]
 refine⟨k1,by rw [elen];exact al,λi hi=>?_,λi hi ZT=>?_⟩
 .rw [elen] at hi
  rw [k2 i (by omega)];by_cases e:i=way.length
  .subst e;rw [if_pos rfl,getElem!_pos _ _ (by rw [elen];omega),List.getElem_append_right (aQ _)];simp
  .rw [if_neg e,h3 i (by omega),getElem!_pos way i (by omega),getElem!_pos _ i (by rw [elen];omega),List.getElem_append_left (by omega)]
 .rw [elen] at hi;rw [k2 i ZT,if_neg (by omega),h4 i (by omega) ZT]
section
variable{N:Nat}{E:aG}{o:Oper}{x y:Operand}{t':TypeId}
def aAG{m n:Nat}(hn:n<=7)(hm:m*2^n<256)(ho:o.op = .binOp .shl 5 x y t')(hx:aP E x=some (.v (.int .u8 (m:Int))))(hy:aP E y=some (.v (.int .i64 (n:Int)))) :
  ∀(G:aK) (a:Act) (w:yp),Fr N (bG G E) a->(execOp a.eval o).run prog w = .ok (.value ((aq.v (.int .u8 ((m*2^n:Nat):Int))).den G)) w:=λG a w ha=>by
 have h1:a.eval x = .int .u8 (m:Int):=ha.eval (bH hx);have h2:a.eval y = .int .i64 (n:Int):=ha.eval (bH hy)
 unfold execOp
 simp only [ho,h1,h2]
 go_simp
 have h4:0<=((m*2^n:Nat):Int):=Int.natCast_nonneg _;have h5:((m*2^n:Nat):Int)<256:=Int.ofNat_lt.2 hm;rw [Int.natCast_mul,Int.natCast_pow] at h4 h5;exact congrArg (bQ .u8) (I5 rfl h4 h5)
def aAB{m n:Int}(ho:o.op = .binOp .or 5 x y t')(hx:aP E x=some (.v (.int .u8 m)))(hy:aP E y=some (.v (.int .u8 n))) :
  ∀(G:aK) (a:Act) (w:yp),Fr N (bG G E) a->(execOp a.eval o).run prog w = .ok (.value ((aq.v (.int .u8 (bits .or .u8 m n))).den G)) w:=λG a w ha=>by
 have h1:a.eval x = .int .u8 m:=ha.eval (bH hx);have h2:a.eval y = .int .u8 n:=ha.eval (bH hy)
 unfold execOp
 simp only [ho,h1,h2]
 go_simp
 rfl
end
def axR{wy:ae}(h:wy.length=32){s:eK}{j:Nat}(hj:j<32):(a7 [.agg 32 (By wy).toArray,.one s])[j]?=some (.int .u8 ((wy[j]!).toNat:Int)):=by have h2:=af2 h;show((By wy).toArray ++ #[s.den])[j]?=_;rw [Array.getElem?_append_left (by omega)];exact ub (by omega)
def axS{wy:ae}{s:eK}{j:Nat}(y:UInt8)(hj:j<wy.length):(a7 [.agg 32 (By (wy.set j y)).toArray,.one s]).toList=(a7 [.agg 32 (By wy).toArray,.one s]).toList.set j (.int .u8 (y.toNat:Int)):=by show((By (wy.set j y)).toArray ++ #[s.den]).toList=((By wy).toArray ++ #[s.den]).toList.set j _;rw [Array.toList_append,Array.toList_append,List.set_append_left _ _ (by rw [dH];exact hj),ajZ]
def aiY{wy:ae}{way:aC}(h:yC wy way)(al:way.length<256){b:Nat}(hb:b<2):Spec 196 [(pB wy way.length).den,.int .u8 (b:Int)] [] (λ_=>True) (one (.q (pB (xf wy way.length b) (way.length+1)))):=by
 obtain⟨h1,h2,h3,h4⟩:=h;have hz:=h4 _ (aQ _) al;obtain⟨d,hd⟩:∃d,way.length=d:=⟨_,rfl⟩;rw [hd] at al hz ⊢;clear h2 h3 h4;refine bA [pB wy d,.c (.v (.int .u8 (b:Int)))] 25 func196 rfl (ab:=dZ (FU h1 d) trivial) λbb=>?_;have hk:=(wy[d/8]!).toNat_lt;have ES:(wy[d/8]!).toNat/2^(7-d%8)%2=0:=hz;have qV:=(agA _ hk (7-d%8) (by omega) b hb ES).1;have hor:=avN _ hk (7-d%8) (by omega) b hb ES;have gR:b*2^(7-d%8)<256:=by omega
 have hw:(bX ((wy[d/8]!).toNat+b*2^(7-d%8))).toNat=(wy[d/8]!).toNat+b*2^(7-d%8):=by rw [Aj];exact gm qV
 have hws:xf wy d b=wy.set (d/8) (bX ((wy[d/8]!).toNat+b*2^(7-d%8))):=rfl;have ki:=axR h1 (s:=.v (.int .i64 (d:Int))) (j:=d/8) (by omega);have wR:(xf wy d b).length=32:=by rw [hws,jO];exact h1
 have Dk:=axS (wy:=wy) (s:=.v (.int .i64 (d:Int))) (j:=d/8) (bX ((wy[d/8]!).toNat+b*2^(7-d%8))) (by omega);rw [<-hws,hw] at Dk;generalize (wy[d/8]!).toNat=k at *;generalize xf wy d b=wy' at *;refine ag rfl (rT 14 λK1 aS G S w0 aa=>fa an aa rfl (Ak 7 ((d/8:Nat):Int) rfl (I6 d 8 (by omega)) (fa an aa rfl (oZ (.a 2 (0+0+1*(d/8))) rfl (eO (d/8) rfl dp rfl rfl rfl (by omega)) (xH aa (.v (.int .u8 (k:Int))) rfl (jV _ rfl rfl rfl (by simpa using ki) nu rfl) (fa an aa rfl (Ak 15 ((7-d%8:Nat):Int) rfl (jv (by rw [Int.tmod_eq_emod_of_nonneg (by omega)];omega) (by omega) (by omega)) (oZ (.v (.int .u8 ((b*2^(7-d%8):Nat):Int))) rfl (aAG (by omega) gR rfl rfl rfl) (oZ (.v (.int .u8 (bits .or .u8 (k:Int) ((b*2^(7-d%8):Nat):Int)))) rfl (aAB rfl rfl rfl) (Ak 17 ((k+b*2^(7-d%8):Nat):Int) rfl hor (fa an aa rfl (p1 aa (b6 (.a 2 (0+0+1*(d/8))) rfl (eO (d/8) rfl dp rfl rfl rfl (by omega)) (tC [.agg 32 (By wy').toArray,.one (.v (.int .i64 (d:Int)))] rfl rfl rfl rfl rfl rfl rfl rfl rfl (by have e:=ch.size (FU h1 d);show _<(a7 [.agg 32 (By wy).toArray,.one (.v (.int .i64 (d:Int)))]).size;rw [e];show 0+0+1*(d/8)<33;omega) (FU wR d) (by simpa using Dk) (ah (aS _ (ag rfl (ag rfl ?_))))))))))))))))));exact aJ (dk an () rfl rfl (congrArg (λz:Int=>cM.q (.p [.agg 32 (By wy').toArray,.one (.v (.int .i64 z))])) (jv (m:=(d:Int)+1) (r:=((d+1:Nat):Int)) rfl (by omega) (by omega)).symm) rfl aD au)
def aiV{i:Nat}(h:i<256):IntKind.u8.wrap (i:Int)=(i:Int):=I5 rfl (Int.natCast_nonneg _) (by omega)
def aFN{wy k:ae}{way:aC}(h:yC wy way)(hk:k.length=32):Spec 195 [(pB wy way.length).den,(aw 32 k).den] [] (λ_=>True) (one (.v (.bool (decide (iO way k))))):=by
 obtain⟨h1,h2,h3, -⟩:=h;refine bA [pB wy way.length,aw 32 k] 22 func195 rfl (ab:=dZ (FU h1 _) (cq hk).1) λb=>ag rfl (ao λK hK=>ag rfl (a8 ?_));let F:Nat->Env:=λi=>⟨[(8,.aT i),(7,.aT way.length),(3,.a 3 0),(2,.a 2 0)],[⟨3,none,47,[.agg 32 (By k).toArray]⟩,⟨2,none,213,[.agg 32 (By wy).toArray,.one (.v (.int .i64 (way.length:Int)))]⟩],[],λ_=>True,λ_=>True⟩;refine cI (e':=F 0) ⟨dB rfl, c8 rfl rfl, .refl _,aD, au⟩ (cY (λi=>way.length-i) F (λi=>i<=way.length/\∀j,j<i->b7 k j=way[j]!) ?_ 0 ⟨bl _,λ_ h=>absurd h (Ds _)⟩);rintro i ⟨hi,ht⟩;refine ag rfl (ao λK1 aS=>?_);refine bn ((i:Int)<(way.length:Int)) rfl (λal=>?_) (λcW=>?_)
 .have sw:i<way.length:=by omega
  have N7:i<256:=by omega
  refine aR (aS _ (ao λK2 aM=>a8 (ag rfl (rT 10 λK3 bu G S w0 aa=>fa an aa rfl (Ak 13 (i:Int) rfl (aiV N7) (rG (F':=λ_=>True) aa [(aw 32 k).den,.int .u8 (i:Int)] rfl Iu rfl rfl (λ_=>rfl) (IZ hk i N7) trivial (λ_ _ _ _=>trivial) (fa an aa rfl (Ak 18 (i:Int) rfl (aiV N7) (rG (F':=λ_=>True) aa [(aw 32 wy).den,.int .u8 (i:Int)] rfl Iu rfl rfl (λ_=>rfl) (IZ h1 i N7) trivial (λ_ _ _ _=>trivial) (fa an aa rfl (p1 aa (ah (bu _ ?_)))))))))))));have Fc:=h3 i sw;refine bn (((b7 k i:Nat):Int)≠((b7 wy i:Nat):Int)) rfl (λb8=>?_) (λhe=>?_)
  .refine ag rfl ?_;exact aJ (dk an () rfl rfl (congrArg (λt=>cM.v (.bool t)) (decide_eq_false λhl=>b8 (by rw [hl i sw,Fc]))) rfl aD au)
  .refine aR (aM _ ?_)
   refine cE rfl ?_;exact cH (i+1) ⟨sw,λj hj=>by
    by_cases e:j=i
    .subst e;rw [<-Fc];omega
    .exact ht j (by omega)⟩ (by show way.length-(i+1)<way.length-i;omega) ⟨⟨pC (by omega) (by omega),rfl,rfl,rfl,trivial⟩,c8 rfl rfl, .refl _,aD, au⟩
 .refine cG (a6 (a6 (cF ?_)));refine hK _ (ag rfl ?_);exact aJ (dk an () rfl rfl (congrArg (λt=>cM.v (.bool t)) (decide_eq_true λj hj=>ht j (by omega))) rfl aD au)
theorem aiN{w:ak}(h:w.Good):Spec 197 [w.val] [] (λ_=>True) (one (.v (.int .i64 ((min w.kind 2:Nat):Int)))):=by
 refine bA [.c (.v w.val)] 10 func197 rfl λb=>ag rfl (ao λK hK=>ag rfl (a8 (aA rfl λK1 aS=>sH 0 h (by decide) rfl rfl rfl rfl rfl (aj rfl (ah (aS _ ?_))))));cases w with
 | empty =>
  refine ir rfl (ag rfl ?_);exact aJ (bE () rfl aD au)
 | leaf p =>
  refine dY rfl (aA rfl λK2 aM=>sH (W:=.leaf p) 1 h (by decide) rfl rfl rfl rfl rfl (aj rfl (ah (aM _ (ir rfl (ag rfl ?_))))));exact aJ (bE () rfl aD au)
 | inner x y =>
  refine dY rfl (aA rfl λK2 aM=>sH (W:=.inner x y) 1 h (by decide) rfl rfl rfl rfl rfl (aj rfl (ah (aM _ (dY rfl (aR (hK _ (ag rfl ?_))))))));exact aJ (bE () rfl aD au)
 | hid l =>
  refine dY rfl (aA rfl λK2 aM=>sH (W:=.hid l) 1 h (by decide) rfl rfl rfl rfl rfl (aj rfl (ah (aM _ (dY rfl (aR (hK _ (ag rfl ?_))))))));exact aJ (bE () rfl aD au)
instance{s:cP}{n:Nat}:Decidable (s.can n):=inferInstanceAs (Decidable (s.e=0/\n<=s.l.length))
def cP.go(s:cP)(n:Nat):cP:=if s.can n then s.cut n else s.fail 10
def cP.ab(s:cP):ae:=if s.can 32 then s.l.take 32 else dx
def cP.NJ{s:cP}{n:Nat}{w:yp}(h:s.rd w):(s.go n).rd w:=by
 unfold cP.go;split
 .rename_i hc;exact cP.aeM h hc.2
 .exact h
def cP.Hz(s:cP):s.ab.length=32:=by
 unfold cP.ab;split
 .rename_i hc;rw [du,Nat.min_eq_left hc.2]
 .rfl
def WL(g:Nat)(s:cP):Spec 152 [gN g] [fY g s] s.rd { ret:=λ_:Unit=>.q (aw 32 s.ab),own:=λ_=>[fY g (s.go 32)] }:=by
 unfold cP.ab cP.go;by_cases h:s.can 32
 .rw [if_pos h,if_pos h];exact aFF g s h
 .rw [if_neg h,if_neg h];exact(aFE g s h).imp λ_ _=>trivial
abbrev Gy:=Except Nat (ak×ae)
def Out(r:Gy)(x:ak×cP):Prop:=x.1.Good/\match r with
  | .ok (w,l)=>x.1=w/\x.2.l=l/\x.2.e=0
  | .error e=>x.2.e=e/\e≠0
def vN(n:Nat)(way:aC)(s:cP):Gy:=if s.e=0 then ak.read n way s.l else .error s.e
def FZ(way:aC)(b:ae):Gy:=if b.length<64 then .error 10 else if iO way (b.take 32) then .ok (.leaf (b.take 32,(b.drop 32).take 32),b.drop 64) else .error 13
def FY(n:Nat)(way:aC)(b:ae):Gy:=match n with
  | 0=>.error 13
  | n+1=>match ak.read n (way++[0]) b with
    | .error e=>.error e
    | .ok (l,b1)=>match ak.read n (way++[1]) b1 with
      | .error e=>.error e
      | .ok (r,b2)=>if ak.bad l r then .error 13 else .ok (.inner l r,b2)
def Ma(b:ae):Gy:=if b.length<32 then .error 10 else .ok (.hid (b.take 32),b.drop 32)
def VB(n:Nat)(way:aC)(x:UInt8)(b:ae):ak.read n way (x::b)=if x=0 then .ok (.empty,b) else if x=1 then FZ way b else if x=2 then FY n way b else if x=3 then Ma b else .error 13:=by unfold FZ FY Ma;cases n<;>(conv=>lhs;unfold ak.read)<;>rfl
def aeQ(n:Nat)(way:aC):ak.read n way [] = .error 10:=by cases n<;>unfold ak.read<;>rfl
abbrev Qt(g:Nat)(r:Gy):fm { x:ak×cP // Out r x }:={ ret:=λx=>.v x.1.1.val,own:=λx=>[fY g x.1.2],p:=λx=>x.1.2.rd }
def au1{s:cP}{way:aC}(h0:s.e=0):Out (FZ way s.l) (.leaf (s.ab,(s.go 32).ab),if iO way s.ab then(s.go 32).go 32 else((s.go 32).go 32).fail 13):=by
 refine⟨⟨s.Hz,(s.go 32).Hz⟩,?_⟩;unfold FZ;by_cases h1:s.can 32
 .have e1:s.ab=s.l.take 32:=if_pos h1
  have e2:s.go 32=s.cut 32:=if_pos h1;rw [e2,e1];by_cases h2:s.l.length<64
  .rw [if_pos h2]
   have hc:¬(s.cut 32).can 32:=λh=>by have:=h.2;rw [cP.cut,k7] at this;omega
   have e3:(s.cut 32).go 32=(s.cut 32).fail 10:=if_neg hc;rw [e3];have e4:((s.cut 32).fail 10).e=10:=by rw [cP.Ai (show(s.cut 32).e=0 from h0)]
   rw [cP.BK (s:=(s.cut 32).fail 10) (by rw [e4];decide),ite_self];exact⟨e4,by decide⟩
  .rw [if_neg h2]
   have hc:(s.cut 32).can 32:=⟨h0,by rw [cP.cut,k7];omega⟩;have e3:(s.cut 32).go 32=(s.cut 32).cut 32:=if_pos hc;have e5:(s.cut 32).ab=(s.l.drop 32).take 32:=if_pos hc;rw [e3,e5];by_cases h3:iO way (s.l.take 32)
   .rw [if_pos h3,if_pos h3];exact⟨rfl,by show(s.l.drop 32).drop 32=_;rw [List.drop_drop],h0⟩
   .rw [if_neg h3,if_neg h3];exact⟨by rw [cP.Ai (show((s.cut 32).cut 32).e=0 from h0)],by decide⟩
 .have h2:s.l.length<64:=by
   have:¬32<=s.l.length:=λh=>h1 ⟨h0,h⟩;omega
  rw [if_pos h2];have e2:s.go 32=s.fail 10:=if_neg h1;have e4:(s.fail 10).e=10:=by rw [cP.Ai h0]
  rw [e2];have e3:(s.fail 10).go 32=s.fail 10:=by
   have:(s.fail 10).go 32=(s.fail 10).fail 10:=if_neg λh=>by rw [h.1] at e4;cases e4
   rw [this,cP.BK (by rw [e4];decide)]
  rw [e3,cP.BK (s:=s.fail 10) (x:=13) (by rw [e4];decide),ite_self];exact⟨e4,by decide⟩
def aG3(g:Nat)(s:cP){wy:ae}{way:aC}(h:yC wy way)(h0:s.e=0):Spec 150 [gN g,(pB wy way.length).den] [fY g s] (λw=>s.rd w/\fV w) (Qt g (FZ way s.l)):=by
 refine bA [.c (.v (gN g)),pB wy way.length] 20 func150 rfl (ab:=dZ trivial (FU h.1 _)) λb=>?_;have y8:=au1 (way:=way) h0;have qc:=s.Hz;have iJ:=(s.go 32).Hz;have hq:lW (s.ab,(s.go 32).ab):=⟨qc,iJ⟩;have gA:∀w,s.rd w->((s.go 32).go 32).rd w:=λw hw=>cP.NJ (cP.NJ hw);have ar8:∀w,s.rd w->(s.go 32).rd w:=λw hw=>cP.NJ hw;have xL:=WL g s;have He:=WL g (s.go 32);generalize uH:(s.go 32).go 32=s2 at *;generalize Hw:s.go 32=s1 at *;generalize hk1:s.ab=k1 at *;generalize iD:s1.ab=k2 at *;have hlf:=WQ hq;refine ag rfl (aA rfl λK hK=>dz ([fY g s]++[]) rfl (er [gN g] rfl xL (λ_ h _=>h.1) λ_=>aj rfl (dz ([fY g s1]++[]) rfl (er [gN g] rfl He (λw h _=>ar8 w h.2.1) λ_=>bY [(aw 32 k1).den,(aw 32 k2).den] rfl hlf (λ_ h _=>h.2.2.2) λ_=>aj rfl (ah (hK _ (ao λK1 aS=>aA rfl λK2 aM=>bY [(pB wy way.length).den,(aw 32 k1).den] rfl (aFN h qc) aD λ_=>?_)))))));have ll:∀s3,Out (FZ way s.l) (.leaf (k1,k2),s3)->(∀w,s.rd w->s3.rd w)->∀en,gj en ⟨[(5,.a 5 0)],[⟨5,none,193,(ak.leaf (k1,k2)).ai⟩],[fY g s3],s.rd,λ_=>True⟩->cl b K1 20 en:=by intro s3 ho hr en hw;refine ft hw (aS _ (aA rfl λK3 bu=>b6 (.v (ak.leaf (k1,k2)).val) rfl (qk (q:=.p (ak.leaf (k1,k2)).ai) rfl II rfl rfl) (aj rfl (ah (bu _ ?_)))));exact aJ (bE ⟨(.leaf (k1,k2),s3),ho⟩ rfl (λw h _=>hr w h) au)
 by_cases Oa:iO way k1
 .rw [if_pos Oa] at y8;refine me 14 (.v (.bool true)) rfl (congrArg (λt=>aq.v (.bool t)) (decide_eq_true Oa)) (aj rfl (ah (aM _ (dY rfl ?_))));exact aR (ll s2 y8 gA _ (fC rfl rfl rfl λ_ h _=>h.2.2.2.2.1))
 .rw [if_neg Oa] at y8;refine me 14 (.v (.bool false)) rfl (congrArg (λt=>aq.v (.bool t)) (decide_eq_false Oa)) (aj rfl (ah (aM _ (ir rfl (ef (aj rfl (dz ([fY g s2]++[]) rfl (er [gN g,.int .i64 13] (hf:=Iv) rfl (I1 g s2 13) aD λ_=>?_))))))));exact ah (ll (s2.fail 13) y8 gA _ (fC rfl rfl rfl λ_ h _=>h.2.2.2.2.2.1))
def Xp(n:Nat):Prop:=∀(way:aC) (wy:ae) (s:cP) (g:Nat),n+way.length=256->yC wy way->Spec 111 [gN g,(pB wy way.length).den] [fY g s] (λw=>s.rd w/\fV w) (Qt g (vN n way s))
def al7(a b:ak):ak.bad a b=decide (min a.kind 2+min b.kind 2<2):=by
 unfold ak.bad;have h1:=KY a;have h2:=KY b;generalize a.kind=x at *;generalize b.kind=y at *;have key:∀x,x<4->∀y,y<4->((x==0&&y==0)||(x==0&&y==1)||(x==1&&y==0))=decide (min x 2+min y 2<2):=by decide
 exact key x h1 y h2
theorem as1{m:Nat}{way:aC}{s s1 s2:cP}{x y:ak}(h0:s.e=0)(h1:Out (vN m (way++[0]) s) (x,s1))(h2:Out (vN m (way++[1]) s1) (y,s2)):Out (FY (m+1) way s.l) (.inner x y,if ak.bad x y then s2.fail 13 else s2):=by
 obtain⟨g1,h1⟩:=h1;obtain⟨g2,h2⟩:=h2;refine⟨⟨g1,g2⟩,?_⟩;unfold vN at h1 h2;rw [if_pos h0] at h1;unfold FY;dsimp only;cases hr:ak.read m (way++[0]) s.l with
 | error e =>
  rw [hr] at h1;obtain⟨k1,k2⟩:=h1
  dsimp only at k1
  rw [if_neg (by rw [k1];exact k2)] at h2;obtain⟨k3,_⟩:=h2
  dsimp only at k3
  rw [cP.BK (by rw [k3,k1];exact k2),ite_self];exact⟨by rw [k3,k1],k2⟩
 | ok u =>
  obtain⟨l,b1⟩:=u;rw [hr] at h1;obtain⟨k1,k2,k3⟩:=h1
  dsimp only at k1 k2 k3
  subst k1 k2;rw [if_pos k3] at h2
  dsimp only
  cases dU:ak.read m (way++[1]) s1.l with
  | error e =>
   rw [dU] at h2;obtain⟨k4,k5⟩:=h2
   dsimp only at k4
   rw [cP.BK (by rw [k4];exact k5),ite_self];exact⟨k4,k5⟩
  | ok u =>
   obtain⟨r,b2⟩:=u;rw [dU] at h2;obtain⟨k4,k5,k6⟩:=h2
   dsimp only at k4 k5 k6
   subst k4 k5
   dsimp only
   cases hb:ak.bad x y with
   | true =>
    rw [if_pos rfl,if_pos rfl,cP.Ai k6];exact⟨rfl,by decide⟩
   | false =>
    rw [if_neg (by decide),if_neg (by decide)];exact⟨rfl,rfl,k6⟩
def aG2(n:Nat)(ih:∀m,n=m+1->Xp m)(g:Nat)(s:cP){wy:ae}{way:aC}(hn:n+way.length=256)(h:yC wy way)(h0:s.e=0):Spec 151 [gN g,(pB wy way.length).den] [fY g s] (λw=>s.rd w/\fV w) (Qt g (FY n way s.l)):=by
 have wR:=h.1;refine bA [.c (.v (gN g)),pB wy way.length] 39 func151 rfl (ab:=dZ trivial (FU wR _)) λb=>ag rfl (ao λK hK=>ag rfl ?_);refine bn ((way.length:Int)=256) rfl (λh256=>?_) (λh256=>?_)
 .obtain rfl:n=0:=by omega
  refine aA rfl λK1 aS=>dz ([fY g s]++[]) rfl (er [gN g,.int .i64 13] (hf:=Iv) rfl (I1 g s 13) aD λ_=>ah (aS _ (aA rfl λK2 aM=>b6 (.v ak.empty.val) rfl (qk rfl zE rfl rfl) (aj rfl (ah (aM _ ?_))))));exact aJ (bE ⟨(.empty,s.fail 13),trivial,by rw [cP.Ai h0],by decide⟩ rfl (λ_ h _=>h.2.1) au)
 refine aR (hK _ ?_);have al:way.length<256:=by have:=h.2.1;omega
 obtain⟨m,rfl⟩:∃m,n=m+1:=⟨n-1,by omega⟩;have ihm:=ih m rfl;clear ih;obtain⟨d,hd⟩:∃d,way.length=d:=⟨_,rfl⟩;have ih0:=λs g=>ihm (way++[0]) (xf wy d 0) s g (by rw [aV,oM];omega) (hd▸h.more al (by decide));have ih1:=λs g=>ihm (way++[1]) (xf wy d 1) s g (by rw [aV,oM];omega) (hd▸h.more al (by decide));have xT:=aiY h al (b:=0) (by decide);have Hw:=aiY h al (b:=1) (by decide);simp only [aV,oM,hd] at ih0 ih1 xT Hw;rw [hd];refine ag rfl (ao λK1 aS=>ag rfl (a8 ?_));let F:Nat×Value×Value×cP->Env:=λ⟨i,v0,v1,s'⟩=>⟨[(14,.aT i),(0,.v (gN g)),(3,.a 3 0),(5,.a 5 0)],[⟨5,none,198,[.agg 2 #[v0,v1]]⟩,⟨3,none,213,[.agg 32 (By wy).toArray,.one (.v (.int .i64 (d:Int)))]⟩],[fY g s'],λw=>s'.rd w/\fV w,λ_=>True⟩;refine cI (e':=F (0,.nilIface,.nilIface,s)) (fC rfl rfl rfl λ_ h _=>h) (cY (λy=>2-y.1) F (λy=>(y.1=0/\y.2.1 = .nilIface/\y.2.2.1 = .nilIface/\y.2.2.2=s)\/(y.1=1/\∃x,Out (vN m (way++[0]) s) (x,y.2.2.2)/\y.2.1=x.val/\y.2.2.1 = .nilIface)\/(y.1=2/\∃x s1 z,Out (vN m (way++[0]) s) (x,s1)/\Out (vN m (way++[1]) s1) (z,y.2.2.2)/\y.2.1=x.val/\y.2.2.1=z.val)) ?_ (0,.nilIface,.nilIface,s) (.inl ⟨rfl,rfl,rfl,rfl⟩));rintro⟨i,v0,v1,s'⟩ hI;dsimp only at hI;refine ag rfl (ao λK2 aM=>?_);rcases hI with⟨rfl,rfl,rfl,hs'⟩|⟨rfl,x,hx,rfl,rfl⟩|⟨rfl,x,s1,z,hx,hz,rfl,rfl⟩
 .obtain rfl:=hs'.symm
  refine bn (((0:Nat):Int)<2) rfl (λ_=>?_) (λh=>absurd (by decide) h);refine aR (aM _ (ao λK3 bu=>a8 (ag rfl (ef (aj rfl (ca 21 0 rfl (by decide) (bY [(pB wy d).den,.int .u8 0] rfl xT aD λ_=>dz ([fY g s]++[]) rfl (er [gN g,(pB (xf wy d 0) (d+1)).den] rfl (ih0 s g) (λ_ h _=>h.2) λu=>?_))))))));obtain⟨⟨x,s1⟩,hx⟩:=u;refine b6 (.a 5 (0+1*0)) rfl (eO 0 rfl rQ rfl rfl rfl (by decide)) ?_;refine tC [.agg 2 #[x.val,.nilIface]] rfl rfl rfl rfl rfl rfl rfl (ak.xe _) (ak.val_one _) (show _<2 by decide) (λp hp=>by
   rw [bU.1 hp];refine⟨rfl,λv ab=>?_⟩;rcases bT.1 ab with rfl|ab
   .exact x.val_one
   .rw [bU.1 ab];rfl) rfl ?_
  refine ah (bu _ (cE rfl ?_));exact cH (1,x.val,.nilIface,s1) (.inr (.inl ⟨rfl,x,hx,rfl,rfl⟩)) (by show 2-1<2-0;decide) ⟨dB rfl, c8 rfl rfl, .refl _,λ_ h _=>⟨h.1,h.2.2.2⟩, au⟩
 .revert hx;generalize s'=s1;intro hx;refine bn (((1:Nat):Int)<2) rfl (λ_=>?_) (λh=>absurd (by decide) h);refine aR (aM _ (ao λK3 bu=>a8 (ag rfl (ef (aj rfl (ca 21 1 rfl (by decide) (bY [(pB wy d).den,.int .u8 1] rfl Hw aD λ_=>dz ([fY g s1]++[]) rfl (er [gN g,(pB (xf wy d 1) (d+1)).den] rfl (ih1 s1 g) (λ_ h _=>h.2) λu=>?_))))))));obtain⟨⟨z,s2⟩,hz⟩:=u;refine b6 (.a 5 (0+1*1)) rfl (eO 1 rfl rQ rfl rfl rfl (by decide)) (tC (uT x z) rfl rfl rfl rfl rfl rfl rfl (ak.xe _) (ak.val_one _) (show _<2 by decide) (CG x z) rfl (ah (bu _ (cE rfl ?_))));exact cH (2,x.val,z.val,s2) (.inr (.inr ⟨rfl,x,s1,z,hx,hz,rfl,rfl⟩)) (by show 2-2<2-1;decide) ⟨dB rfl, c8 rfl rfl, .refl _,λ_ h _=>⟨h.1,h.2.2.2⟩, au⟩
 .refine bn (((2:Nat):Int)<2) rfl (λh=>absurd h (by decide)) (λ_=>?_)
  refine cG (a6 (a6 (cF (aS _ ?_))));have y8:=as1 h0 hx hz;have ZP:=hx.1;have ZQ:=hz.1;refine ao λK3 bu=>rT 8 λK4 bW G S w0 aa=>oZ (.a 5 (0+1*0)) rfl (eO 0 rfl rQ rfl rfl rfl (by decide)) (xH aa (.v x.val) rfl (jV _ rfl rfl rfl rfl qj rfl) (rG (F':=λ_=>True) aa [x.val] rfl (λ_ _=>by go_simp) rfl rfl (λ_=>rfl) (aiN ZP) trivial (λ_ _ _ _=>trivial) (oZ (.a 5 (0+1*1)) rfl (eO 1 rfl rQ rfl rfl rfl (by decide)) (xH aa (.v z.val) rfl (jV _ rfl rfl rfl rfl qj rfl) (rG (F':=λ_=>True) aa [z.val] rfl (λ_ _=>by go_simp) rfl rfl (λ_=>rfl) (aiN ZQ) trivial (λ_ _ _ _=>trivial) (fa an aa rfl (p1 aa ?_)))))));have hk1:=KY x;have iD:=KY z;have hb:=al7 x z;refine pd 33 (ak.bad x z) rfl ?_ ?_
  .have e:IntKind.i64.wrap (((min x.kind 2:Nat):Int)+((min z.kind 2:Nat):Int))=((min x.kind 2+min z.kind 2:Nat):Int):=jv (by omega) (by omega) (by omega);rw [hb,e];exact decide_eq_decide.2 (by omega)
  refine ah (bW _ ?_);have ll:∀s3,Out (FY (m+1) way s.l) (.inner x z,s3)->s3.rd=s'.rd->∀en,gj en ⟨[(5,.a 5 0)],[⟨5,none,198,uT x z⟩],[fY g s3],λw=>s'.rd w/\fV w,λ_=>True⟩->cl b K3 39 en:=by intro s3 ho hr en hw;refine ft hw (bu _ (aA rfl λK5 bN=>bY [(aL.p (uT x z)).den] rfl (WO ZP ZQ) (λ_ h _=>h.2) λ_=>b6 (.v (ak.inner x z).val) rfl (qk (q:=.p (ak.inner x z).ai) rfl LZ rfl rfl) (aj rfl (ah (bN _ ?_)))));exact aJ (bE ⟨(.inner x z,s3),ho⟩ rfl (λw h _=>by show s3.rd w;rw [hr];exact h.2.1) au)
  cases Zu:ak.bad x z with
  | true =>
   rw [Zu,if_pos rfl] at y8;refine ir rfl (ef (aj rfl (dz ([fY g s']++[]) rfl (er [gN g,.int .i64 13] (hf:=Iv) rfl (I1 g s' 13) aD λ_=>?_))));exact ah (ll (s'.fail 13) y8 rfl _ (fC rfl rfl rfl λ_ h _=>h.2))
  | false =>
   rw [Zu,if_neg (by decide)] at y8;refine dY rfl ?_;exact aR (ll s' y8 rfl _ (fC rfl rfl rfl λ_ h _=>h))
def D6{x:UInt8}{k:Nat}(hk:k<256):((x.toNat:Nat):Int)=(k:Int)↔x=bX k:=by
 constructor
 .intro h;apply UInt8.toNat_inj.1;rw [Aj,gm hk];omega
 .intro h;rw [h,Aj,gm hk]
theorem aG4:∀n,Xp n:=by
 intro n;induction n using qP with
 | ind n ih =>
 intro way wy s g hn h;have wR:=h.1;refine bA [.c (.v (gN g)),pB wy way.length] 31 func111 rfl (ab:=dZ trivial (FU wR _)) λb=>ag rfl (ao λK hK=>aA rfl λK1 aS=>dz ([fY g s]++[]) rfl ?_);by_cases hc:s.can 1
 .obtain⟨x,r,hx⟩:=cP.am9 hc
  have hr:vN n way s=ak.read n way (x::r):=by rw [vN,if_pos hc.1,hx]
  have hl:(s.cut 1).l=r:=by show s.l.drop 1=r;rw [hx];rfl
  have h0:(s.cut 1).e=0:=hc.1;have gA:∀w,s.rd w->(s.cut 1).rd w:=λw hw=>cP.aeM hw hc.2;refine er [gN g] rfl (aFL g s hc hx) (λ_ h _=>h.1) λ_=>ah (aS _ ?_);rw [hr,VB];generalize s.cut 1=s1 at *;subst hl;refine a8 (ag rfl ?_);refine bn ((x.toNat:Int)=0) rfl (λe0=>?_) (λe0=>?_)
  .have e:x=0:=(D6 (k:=0) (by decide)).1 e0;refine aA rfl λK2 aM=>b6 (.v ak.empty.val) rfl (qk rfl zE rfl rfl) (aj rfl (ah (aM _ ?_)));exact aJ (bE ⟨(.empty,s1),by rw [if_pos e];exact⟨trivial,rfl,rfl,h0⟩⟩ rfl (λw h _=>gA w h.2.1) au)
  have e0:x≠0:=λe=>e0 ((D6 (k:=0) (by decide)).2 e);rw [if_neg e0];refine ag rfl ?_;refine bn ((x.toNat:Int)=1) rfl (λe1=>?_) (λe1=>?_)
  .have e:x=1:=(D6 (k:=1) (by decide)).1 e1;rw [if_pos e];refine aA rfl λK2 aM=>dz ([fY g s1]++[]) rfl (er [gN g,(pB wy way.length).den] rfl (aG3 g s1 h h0) (λw h _=>⟨gA w h.2.1,h.2.2⟩) λu=>aj rfl (ah (aM _ ?_)));exact aJ (bE u rfl (λw h _=>h.1) au)
  have e1:x≠1:=λe=>e1 ((D6 (k:=1) (by decide)).2 e);rw [if_neg e1];refine ag rfl ?_;refine bn ((x.toNat:Int)=2) rfl (λe2=>?_) (λe2=>?_)
  .have e:x=2:=(D6 (k:=2) (by decide)).1 e2;rw [if_pos e];refine aA rfl λK2 aM=>dz ([fY g s1]++[]) rfl (er [gN g,(pB wy way.length).den] rfl (aG2 n (λm hm=>ih m (by omega)) g s1 hn h h0) (λw h _=>⟨gA w h.2.1,h.2.2⟩) λu=>aj rfl (ah (aM _ ?_)));exact aJ (bE u rfl (λw h _=>h.1) au)
  have e2:x≠2:=λe=>e2 ((D6 (k:=2) (by decide)).2 e);rw [if_neg e2];refine ag rfl ?_;refine bn ((x.toNat:Int)=3) rfl (λe3=>?_) (λe3=>?_)
  .have e:x=3:=(D6 (k:=3) (by decide)).1 e3
   rw [if_pos e];refine aA rfl λK2 aM=>dz ([fY g s1]++[]) rfl ?_;have hh:=WL g s1;have ho:Out (Ma s1.l) (.hid s1.ab,s1.go 32):=by
    refine⟨s1.Hz,?_⟩;unfold Ma cP.ab cP.go;by_cases fl:s1.can 32
    .rw [if_neg (by have:=fl.2;omega),if_pos fl,if_pos fl];exact⟨rfl,rfl,h0⟩
    .have:s1.l.length<32:=by
      have:¬32<=s1.l.length:=λh=>fl ⟨h0,h⟩;omega
     rw [if_pos this,if_neg fl,if_neg fl,cP.Ai h0];exact⟨rfl,by decide⟩
   have ar9:∀w,s1.rd w->(s1.go 32).rd w:=λw hw=>cP.NJ hw;generalize s1.go 32=s2 at *;have mC:=s1.Hz;generalize s1.ab=ab at *;refine er [gN g] rfl hh (λw h _=>gA w h.2.1) λ_=>aj rfl (b6 (.v (ak.hid ab).val) rfl (qk (q:=.p (ak.hid ab).ai) rfl underlying189 rfl rfl) (aj rfl (ah (aM _ ?_))));exact aJ (bE ⟨(.hid ab,s2),ho⟩ rfl (λw h _=>ar9 w (gA w h.2.2.1)) au)
  have e3:x≠3:=λe=>e3 ((D6 (k:=3) (by decide)).2 e);rw [if_neg e3];refine aR (hK _ (aA rfl λK2 aM=>dz ([fY g s1]++[]) rfl (er [gN g,.int .i64 13] (hf:=Iv) rfl (I1 g s1 13) aD λ_=>ah (aM _ (aA rfl λK3 bu=>b6 (.v ak.empty.val) rfl (qk rfl zE rfl rfl) (aj rfl (ah (bu _ ?_))))))));exact aJ (bE ⟨(.empty,s1.fail 13),by rw [hr,VB,if_neg e0,if_neg e1,if_neg e2,if_neg e3];exact⟨trivial,by rw [cP.Ai h0],by decide⟩⟩ rfl (λw h _=>gA w h.2.2.1) au)
 .have ho:Out (vN n way s) (.empty,s.fail 10):=by
   refine⟨trivial,?_⟩;unfold vN;by_cases h0:s.e=0
   .have hl:s.l=[]:=by
     cases hl:s.l with
     | nil=>rfl
     | cons x r=>exact absurd (show s.can 1 from⟨h0,by rw [hl];simp⟩) hc
    rw [if_pos h0,hl,aeQ,cP.Ai h0];exact⟨rfl,by decide⟩
   .rw [if_neg h0,cP.BK h0];exact⟨rfl,h0⟩
  refine er [gN g] rfl (aFK g s hc) aD λ_=>ah (aS _ (a8 (ag rfl ?_)));refine bn ((0:Int)=0) rfl (λ_=>?_) (λh=>absurd rfl h);refine aA rfl λK2 aM=>b6 (.v ak.empty.val) rfl (qk rfl zE rfl rfl) (aj rfl (ah (aM _ ?_)));exact aJ (bE ⟨(.empty,s.fail 10),ho⟩ rfl (λw h _=>h.2.1) au)
def Vg(r:Except Nat ak):cM:=match r with
  | .ok w=>.t [gU w,.c (.v (.int .i64 0))]
  | .error e=>.t [gU .empty,.c (.v (.int .i64 (e:Int)))]
def cP.last(s:cP):cP:=if 0<s.l.length then s.fail 11 else s
theorem axH{A:aO}{c:Nat}{b:ae}{w:ak}{s:cP}(h:Out (vN 256 [] ⟨A,c,b,0⟩) (w,s)):(s.last.e=0->ak.parse b = .ok w)/\(s.last.e≠0->ak.parse b = .error s.last.e):=by
 obtain⟨_,h⟩:=h;rw [vN,if_pos rfl] at h;unfold ak.parse;dsimp only at h;cases hr:ak.read 256 [] b with
 | error e =>
  rw [hr] at h;obtain⟨h1,h2⟩:=h
  have e1:s.last=s:=by unfold cP.last;rw [cP.BK (by rw [h1];exact h2),ite_self]
  rw [e1,h1];exact⟨λh=>absurd h h2,λ_=>rfl⟩
 | ok u =>
  obtain⟨x,r⟩:=u;rw [hr] at h;obtain⟨h1,h2,h3⟩:=h
  unfold cP.last
  rw [h2]
  cases r with
  | nil =>
   rw [if_neg (by decide)];exact⟨λ_=>by rw [h1],λh=>absurd h3 h⟩
  | cons y r =>
   rw [if_pos (by simp),cP.Ai h3];exact⟨λh=>absurd (show(11:Nat)=0 from h) (by decide),λ_=>rfl⟩
def aEZ{A:aO}{c:Nat}(B:ae):Spec 80 [.slice A B.length c] [] (λw=>ar 1 aY A c B w/\fV w) (one (Vg (ak.parse B))):=by
 refine bA [.c (.v (.slice A B.length c))] 23 func80 rfl λb=>?_;have Ty:=λg=>aG4 256 [] dx ⟨A,c,B,0⟩ g rfl yC.nil;replace Ty:∀g,Spec 111 [gN g,(pB dx 0).den] [fY g ⟨A,c,B,0⟩] (λw=>ar 1 aY A c B w/\fV w) (Qt g (vN 256 [] ⟨A,c,B,0⟩)):=Ty;refine ag rfl (aA rfl λK hK=>ah (rL 4 (E':=[(2,.a 2 0)]) rfl ⟨rfl,trivial⟩ λg=>hK _ (aA rfl λK1 aS=>dz ([fY g ⟨A,c,B,0⟩]++[]) rfl (er [gN g,(pB dx 0).den] rfl (Ty g) (λ_ h _=>h) λu=>?_))));obtain⟨⟨w,s⟩,hu⟩:=u;obtain⟨Hr,wN⟩:=axH hu;refine aj rfl (ah (aS _ (mR [2,4,5] [2] rfl rfl (ao λK2 aM=>aA rfl λK3 bu=>gE rfl (sT 0 rfl) (aj rfl (ah (bu _ ?_)))))));have ll:∀s3:cP,s3=s.last->∀en,gj en ⟨[(2,.a 2 0),(4,.v (gN g)),(5,.v w.val)],[⟨2,none,79,[.one (.v .nilIface)]⟩],[fY g s3],λ_=>True,λ_=>True⟩->cl b K2 23 en:=by
  intro s3 Ou en hw;rw [<-Ou] at Hr wN;refine ft hw (aM _ (ao λK4 bW=>aA rfl λK5 bN=>gE rfl (sT 0 rfl) (aj rfl (ah (bN _ ?_)))));refine bn ((s3.e:Int)≠0) rfl (λhe=>?_) (λhe=>?_)
  .have he:s3.e≠0:=λh=>he (by rw [h];rfl)
   have bx:ch s3.ai:=λp hp=>by
    rcases bT.1 hp with rfl|hp
    .exact⟨trivial,rfl,rfl⟩
    .rw [bU.1 hp];exact⟨trivial,rfl,rfl⟩
   refine ao λK6 cr=>?_;have hinv:∀{E':aG} {L':aH} {F' M':aE},∀a w,iz b 23 ⟨E',L',[fY g s3],F',M'⟩ a w->ij g 210 s3.ai w:=λa w ⟨G,S,_,_,h3⟩=>sT 0 rfl G S w h3.view;refine lv [0,1,2] 4 1 (ij g 210 s3.ai) rfl hinv ?_;refine cK (L0:=[]) 0 rfl (λ_ h=>by cases h) (λ_ _ _ h=>by cases h) (cK (L0:=[]) 1 rfl (λ_ h=>by cases h) (λ_ _ _ h=>by cases h) (DO an 2 rfl rfl rfl rfl rfl bx (λ_ h=>h) ?_));refine eN 3 rfl λK7 df=>?_;refine aj rfl (ah (df _ hinv (kQ [4] rfl (aj rfl (ah (cr _ (aJ (lN 0 rfl ?_))))))));exact dk an () rfl rfl (by show Vg (ak.parse B)=_;rw [wN he];rfl) rfl aD au
  .have he:s3.e=0:=by omega
   refine aR (bW _ (aA rfl λK6 cr=>bY [w.val] rfl (WV w) aD λ_=>aj rfl (ah (cr _ (aJ (lN 0 rfl ?_))))));exact dk an () rfl rfl (by show Vg (ak.parse B)=_;rw [Hr he];rfl) rfl aD au
 refine bn ((s.l.length:Int)>0) rfl (λh0=>?_) (λh0=>?_)
 .refine ef ?_;refine dz ([fY g s]++[]) rfl (er [gN g,.int .i64 11] (hf:=Iv) rfl (I1 g s 11) aD λ_=>?_);exact ah (ll (s.fail 11) (by rw [cP.last,if_pos (by omega)]) _ ⟨dB rfl, c8 rfl rfl, .refl _,aD, au⟩)
 .exact aR (ll s (by rw [cP.last,if_neg (by omega)]) _ ⟨dB rfl, c8 rfl rfl, .refl _,aD, au⟩)
section
variable{N:Nat}{E:aG}{o:Oper}{x y:Operand}{t t':TypeId}
def tg(k:Nat)(A:aO)(c n:Nat):aO:=if c=n then A else A.map (·.add (k*n))
theorem afG{A:aO}{n c j sz:Nat}{e:TypeId}(he:(prog.info? e).map (·.size)=some sz)(hj:j<=n)(hc:n<=c)(hA:A=none->c=0)(ho:o.op = .slice t x (some y) none none)(hu:prog.underlying t=some (.slice e))(hx:aP E x=some (.v (.slice A n c)))(hy:aP E y=some (.v (.int .i64 (j:Int)))) :
  ∀(G:aK) (a:Act) (w:yp),Fr N (bG G E) a->(execOp a.eval o).run prog w = .ok (.value ((aq.v (.slice (tg sz A c j) (n-j) (c-j))).den G)) w:=λG a w ha=>by
 have h1:a.eval x = .slice A n c:=ha.eval (bH hx);have h2:a.eval y = .int .i64 (j:Int):=ha.eval (bH hy)
 have h3:(j:Int)<=(n:Int):=by omega
 have h4:(0:Int)<=(j:Int):=by omega
 have h5:(n:Int)<=(c:Int):=by omega
 have h6:=run_sizeOf he w
 unfold execOp
 simp only [ho];generalize a.eval=ρ at *;simp only [Option.map,h1,h2]
 show _=Result.ok (Next.value (.slice (tg sz A c j) (n-j) (c-j))) w
 cases A with
 | none =>
  obtain rfl:c=0:=hA rfl
  obtain rfl:n=0:=by omega
  obtain rfl:j=0:=by omega
  go_simp
  rfl
 | some ad =>
  unfold tg
  by_cases e:c=j
  .rw [if_pos e];go_simp
  .rw [if_neg e];go_simp;rw [Nat.mul_comm]
end
def ar.sub{α:Type}{k c c' g:Nat}{fe:α->aL}{P l Z:List α}{w:yp}(h:ar k fe (some ⟨g,0,none⟩) c (P++l++Z) w)(hc:l.length<=c')(hm:c'<=9223372036854775807):ar k fe (some ⟨g,k*P.length,none⟩) c' l w:=by
 obtain⟨h1,h2,h3,h4,h5⟩:=h;refine⟨hc,hm,λe=>(by cases e),λx hx=>h4 x (by simp [hx]),λh0=>?_⟩;obtain⟨b,o,e,hb,hr⟩:=h5 (by rw [aV,aV];omega);injection e with e;injection e with e1 e2;subst e1 e2;refine⟨g,k*P.length,rfl,hb,λi x hx=>?_⟩;have:=hr (P.length+i) x (by rw [ei,rz (by omega),xD,uk (eY.1 hx).1];exact hx)
 rwa [dI,Cw] at this
abbrev iN(A:aO)(c:Nat)(l:aX):fS:=bL 0 47 32 (aw 32) A c l
theorem WH{A:aO}{c:Nat}(l:aX)(hl:l.length<=1000000):Spec 66 [.slice A l.length c] [] (ar 32 (aw 32) A c l) { ret:=λx:pP=>.v (.slice x.1 l.length x.2),own:=λx=>[iN x.1 x.2 l] }:=by
 refine bA [.c (.v (.slice A l.length c))] 8 func66 rfl λb=>?_;refine lQ (l.length<=c/\(A=none->c=0)) (λw hw _=>⟨hw.1,hw.2.2.1⟩) λ⟨N9,hA⟩=>?_;refine ag rfl (ao λK hK=>aA rfl λK1 aS=>b6 (.v (.bool A.isNone)) rfl (aA3 rfl vJ rfl) (ah (aS _ ?_)));cases A with
 | none =>
  obtain rfl:c=0:=hA rfl;obtain rfl:l=[]:=lB (by omega);refine ir rfl (pF 0 47 32 (aw 32) (ag rfl ?_));exact aJ (bE (none,0) rfl aD au)
 | some ad =>
  refine dY rfl (aR (hK _ (aA rfl λK2 aM=>OV (e:=47) (sz:=32) 0 (aw 32) rfl rfl (bl _) (λw=>by go_simp) λB=>aj rfl (mc an 0 l rfl rfl rfl rfl rfl rfl rfl (dX λ_ h _=>h) (by show(0+l.length)*32<=_;omega) (by show 0+l.length<=_;omega) (bl _) λA1 c1=>aj rfl (ah (aM _ ?_))))));exact aJ (bE (A1,c1) rfl aD au)
structure Bp(A A':aO)(c' i n:Nat):Prop where
  le:n<=c'
  max:c'<=9223372036854775807
  nil:A'=none->c'=0
  at_:0<n->∃g,A=some ⟨g,0,none⟩/\A'=some ⟨g,32*i,none⟩
def Bp.left{A A':aO}{c' i n m:Nat}(h:Bp A A' c' i n)(hm:m<=n):Bp A A' c' i m:=⟨fo hm h.le,h.max,h.nil,λh0=>h.at_ (by omega)⟩
def Bp.right{A A':aO}{c' i n m:Nat}(h:Bp A A' c' i n)(hm:m<=n):Bp A (tg 32 A' c' m) (c'-m) (i+m) (n-m):=by
 have hle:=h.le;refine⟨by omega,by have:=h.max;omega,λe=>?_,λh0=>?_⟩
 .unfold tg at e
  by_cases e2:c'=m
  .omega
  .rw [if_neg e2] at e
   cases A' with
   | none=>have:=h.nil rfl;omega
   | some ad=>cases e
 .obtain⟨g,e1,e2⟩:=h.at_ (by omega);refine⟨g,e1,?_⟩;unfold tg;rw [if_neg (by omega),e2];show some (Addr.add ⟨g,32*i,none⟩ (32*m))=_;simp [Addr.add,Cw]
def DZ:aX->aX
  | []=>[]
  | z::t=>t++[z]
theorem af0:∀l,(DZ l).Perm l
 | []=>.refl _
 | z::t=>List.perm_append_singleton z t
def azC(l:aX):(DZ l).length=l.length:=(af0 l).length_eq
def N3(zs:aX)(k:ae):ae:=match zs with
  | []=>k
  | z::_=>z
def ZD{P ys zs r Z:aX}{k:ae}:(P++(ys++zs++k::r)++Z)[P.length+ys.length]?=some (N3 zs k):=by
 have e:P++(ys++zs++k::r)++Z=(P++ys)++(zs++(k::(r++Z))):=by simp
 rw [e,rz (by rw [aV];omega),aV,si];cases zs<;>rfl
theorem aCF{P ys zs r Z:aX}{k:ae}:((P++(ys++zs++k::r)++Z).set (P.length+(ys.length+zs.length)) (N3 zs k)).set (P.length+ys.length) k=P++((ys++[k])++DZ zs++r)++Z:=by
 cases zs with
 | nil =>
  have e:P++(ys++[]++k::r)++Z=(P++ys)++(k::(r++Z)):=by simp
  rw [e,Fu,jP,yF _ _ (by rw [aV];omega),aV,si]
  show((P++ys)++(k::(r++Z))).set (P.length+ys.length) k=_
  rw [yF _ _ (by rw [aV];omega),aV,si]
  simp [DZ]
 | cons z t =>
  have e:P++(ys++z::t++k::r)++Z=(P++ys++z::t)++(k::(r++Z)):=by simp
  have el:(P++ys++z::t).length=P.length+(ys.length+(z::t).length):=by rw [aV,aV];omega
  rw [e,yF _ _ (by rw [el];exact aQ _),el,si]
  show((P++ys++z::t)++(z::(r++Z))).set (P.length+ys.length) k=_
  have e2:(P++ys++z::t)++(z::(r++Z))=(P++ys)++(z::(t++(z::(r++Z)))):=by simp
  rw [e2,yF _ _ (by rw [aV];omega),aV,si]
  simp [DZ]
def wc(d:Nat)(ks:aX)(x:aX×aX):Prop:=x.1.Perm (ak.zl d ks)/\x.2.Perm (ak.x9 d ks)
def wc.perm{d:Nat}{ks:aX}{x:aX×aX}(h:wc d ks x):(x.1++x.2).Perm ks:=(h.1.append h.2).trans (List.filter_append_perm (λk=>b7 k d==0) ks)
def wc.len{d:Nat}{ks:aX}{x:aX×aX}(h:wc d ks x):x.1.length+x.2.length=ks.length:=by rw [<-aV];exact h.perm.length_eq
def wc.zero{d:Nat}{ks ys zs:aX}{k:ae}(h:wc d ks (ys,zs))(hb:b7 k d=0):wc d (ks++[k]) (ys++[k],DZ zs):=by
 constructor
 .show(ys++[k]).Perm (j4 _ _)
  rw [mN];have e:j4 (λk=>b7 k d==0) [k]=[k]:=by simp [hb]
  rw [e];exact h.1.append_right _
 .show(DZ zs).Perm (j4 _ _)
  rw [mN];have e:j4 (λk=>b7 k d != 0) [k]=[]:=by simp [hb]
  rw [e,fj];exact(af0 zs).trans h.2
def wc.one{d:Nat}{ks ys zs:aX}{k:ae}(h:wc d ks (ys,zs))(hb:b7 k d≠0):wc d (ks++[k]) (ys,zs++[k]):=by
 constructor
 .show ys.Perm (j4 _ _)
  rw [mN];have e:j4 (λk=>b7 k d==0) [k]=[]:=by simp [hb]
  rw [e,fj];exact h.1
 .show(zs++[k]).Perm (j4 _ _)
  rw [mN];have e:j4 (λk=>b7 k d != 0) [k]=[k]:=by simp [hb]
  rw [e];exact h.2.append_right _
def aFV{A A':aO}{c c':Nat}(P ks Z:aX)(d:Nat)(hd:d<256)(ki:Bp A A' c' P.length ks.length)(BX:∀k∈ks,k.length=32):Spec 105 [.slice A' ks.length c',.int .u8 (d:Int)] [iN A c (P++ks++Z)] (λ_=>True)
  { ret:=λx:{ x // wc d ks x }=>.t [.c (.v (.slice A' x.1.1.length c')),.c (.v (.slice (tg 32 A' c' x.1.1.length) x.1.2.length (c'-x.1.1.length)))],own:=λx=>[iN A c (P++(x.1.1++x.1.2)++Z)] }:=by
 refine bA [.c (.v (.slice A' ks.length c')),.c (.v (.int .u8 (d:Int)))] 40 func105 rfl λb=>?_;have hle:=ki.le;have EU:=ki.max;have aa0:=ki.nil;refine ag rfl (ag rfl (ao λK hK=>ag rfl (a8 ?_)))
 let F:aX×aX×aX->Env:=λ⟨ys,zs,r⟩=>⟨[(11,.aT (ys.length+zs.length)),(10,.aT ks.length),(9,.v (.slice A' ks.length c')),(0,.v (.slice A' ks.length c')),(1,.v (.int .u8 (d:Int))),(6,.aT ys.length)],[],[iN A c (P++(ys++zs++r)++Z)],λ_=>True,λ_=>True⟩
 refine cI (e':=F ([],[],ks)) ⟨dB rfl, trivial, .refl _,aD, au⟩ (cY (λy=>y.2.2.length) F (λy=>∃done,ks=done++y.2.2/\wc d done (y.1,y.2.1)) ?_ ([],[],ks) ⟨[],rfl,.refl _,.refl _⟩)
 rintro⟨ys,zs,r⟩ ⟨done,EI,rI⟩
 dsimp only at EI rI
 have hlen:=rI.len
 have fI:ks.length=done.length+r.length:=by rw [EI,aV]
 dsimp only at hlen
 refine ag rfl (ao λK1 aS=>?_);refine bn (((ys.length+zs.length:Nat):Int)<(ks.length:Int)) rfl (λal=>?_) (λcW=>?_)
 .cases r with
  | nil=>rw [Fu] at fI;omega
  | cons k r =>
  rw [fL] at fI;have hk:k.length=32:=BX k (by rw [EI];simp);obtain⟨g,rfl,rfl⟩:=ki.at_ (by omega);have bx:∀G S w,View G S [] [iN (some ⟨g,0,none⟩) c (P++(ys++zs++k::r)++Z)] (λ_=>True) (λ_=>True) w->ar 32 (aw 32) (some ⟨g,32*P.length,none⟩) c' (ys++zs++k::r) w:=λG S w ab=>(fu 0 rfl G S w ab).sub (by simp;omega) EU;have Cb:(ys++zs++k::r).length=ks.length:=by simp;omega
  refine aR (aS _ (ao λK2 aM=>a8 (aA rfl λK3 bu=>jh (l:=ys++zs++k::r) an rfl rfl rfl (ys.length+zs.length) rfl (by rw [rz (by rw [aV];exact aQ _),aV,si];rfl) Cb.symm rfl bx (aj rfl (ah (bu _ (aA rfl λK4 bW=>bY [(aw 32 k).den,.int .u8 (d:Int)] (hf:=Iu) rfl (IZ hk d hd) aD λ_=>aj rfl (ah (bW _ ?_)))))))));have ZE:ks=(done++[k])++r:=by rw [EI];simp
  have tA:zs.length<=9223372036854775807:=by omega
  refine bn (((b7 k d:Nat):Int)=0) rfl (λhb=>?_) (λhb=>?_)
  .have hb:b7 k d=0:=by omega
   refine ag1 0 rfl λTA _ _=>?_;obtain⟨xL,He⟩:=TA _ (eg (ZD (P:=P) (ys:=ys) (zs:=zs) (r:=r) (Z:=Z) (k:=k)));have Tr:=cq (n:=32) hk;have ZR:=ZD (P:=[]) (ys:=ys) (zs:=zs) (r:=r) (Z:=[]) (k:=k);rw [lD,fj,Fu,dI] at ZR;have arN:=aCF (P:=P) (ys:=ys) (zs:=zs) (r:=r) (Z:=Z) (k:=k);have Tt:(P++(ys++zs++k::r)++Z).length=P.length+(ys.length+zs.length+(1+r.length))+Z.length:=by simp;omega
   obtain⟨u1,hu1⟩:∃u,(P++(ys++zs++k::r)++Z)[P.length+(ys.length+zs.length)]?=some u:=⟨_,da (by omega)⟩;obtain⟨u2,Cf⟩:∃u,((P++(ys++zs++k::r)++Z).set (P.length+(ys.length+zs.length)) (N3 zs k))[P.length+ys.length]?=some u:=⟨_,da (by rw [jO];omega)⟩;have yU:=(TA _ (eg hu1)).2;have n6:(aw 32 u2).cp.length=32:=by
    rcases List.mem_or_eq_of_mem_set (eg Cf) with h|rfl
    .exact(TA _ h).2
    .exact He
   generalize N3 zs k=hd at *;generalize T7:P++(ys++zs++k::r)++Z=xs at *;refine mR [0,1,6,7,8,9,10,11] [8] rfl rfl ?_;refine rS λG=>?_;have c7:∀u∈([⟨8,some (G 8),47,[.agg 32 (By k).toArray]⟩]:aH),u∈iH G [⟨8,none,47,[.agg 32 (By k).toArray]⟩]/\u.g.isSome=true:=λu hu=>⟨hu,by rw [bU.1 hu];rfl⟩;refine ao λK5 bN=>?_;refine lv [0,1,2,3,4,5,6,8] 11 2 (iV [⟨8,some (G 8),47,[.agg 32 (By k).toArray]⟩]) rfl (iE c7) ?_;refine cK 0 rfl (λx hx=>(c7 x hx).1) (λ_ h=>h) (cK 1 rfl (λx hx=>(c7 x hx).1) (λ_ h=>h) (cK 2 rfl (λx hx=>(c7 x hx).1) (λ_ h=>h) (cK 3 rfl (λx hx=>(c7 x hx).1) (λ_ h=>h) (cK 4 rfl (λx hx=>(c7 x hx).1) (λ_ h=>h) (cK 5 rfl (λx hx=>(c7 x hx).1) (λ_ h=>h) (kp (.v (.pointer (some ⟨g,32*P.length+32*ys.length,none⟩))) 6 rfl rfl rfl (lO ys.length rfl vJ (by kernel_rfl) rfl rfl (by omega)) (cK 8 rfl (λx hx=>(c7 x hx).1) (λ_ h=>h) ?_)))))));refine eN 7 rfl λK6 cr=>?_;refine jq (.q (aw 32 hd)) (ab:=xL) rfl (Be (k':=32) (c:=c') (j:=ys.length) (off:=0) (g:=g) (a:=32*P.length) (fe:=aw 32) (l:=ys++zs++k::r) (y:=hd) an rfl rfl ZR rfl xL λG' S' w ab=>(fu (lo:=0) (e:=47) (k:=32) (fe:=aw 32) (A:=some ⟨g,0,none⟩) (c:=c) (l:=P++(ys++zs++k::r)++Z) 0 (by rw [T7];rfl) G' S' w ab).sub (by rw [Cb];exact hle) EU) (ah (cr _ (iE c7) ?_));refine eN 9 rfl λK7 df=>?_;refine b6 (.v (.pointer (some ⟨g,32*P.length+32*(ys.length+zs.length),none⟩))) rfl (lO (ys.length+zs.length) rfl vJ (by kernel_rfl) rfl rfl (by omega)) (ah (df _ (iE c7) ?_));refine eN 10 rfl λK8 gw=>?_;refine me 29 (.v (.pointer (some ⟨g,32*(P.length+(ys.length+zs.length))+0,none⟩))) rfl (by rw [Cw 32 P.length,jP]) (OZ 0 (P.length+(ys.length+zs.length)) 0 32 u1 hd rfl rfl rfl rfl rfl rfl hu1 (by kernel_rfl) He (aL.GK xL) (by rw [um (by rw [yU];exact aQ _)];simp) (by decide) ⟨xL,He⟩ (ah (gw _ (iE c7) (kQ [11,12] rfl (b6 (.v (.pointer (some ⟨g,32*P.length+32*ys.length,none⟩))) rfl (lO ys.length rfl vJ (by kernel_rfl) rfl rfl (by omega)) (me 30 (.v (.pointer (some ⟨g,32*(P.length+ys.length)+0,none⟩))) rfl (by rw [Cw 32 P.length,jP]) (OZ 0 (P.length+ys.length) 0 32 u2 k rfl rfl rfl rfl rfl rfl Cf (by kernel_rfl) Tr.2 (aL.GK Tr.1) (by rw [um (by rw [n6];exact aQ _)];simp;rfl) (by decide) Tr (ah (bN _ (cE rfl (aM _ (cE rfl ?_))))))))))));have KJ:=azC zs;exact cH (ys++[k],DZ zs,r) ⟨done++[k],ZE,rI.zero hb⟩ (by show r.length<(k::r).length;simp) ⟨⟨congrArg some (congrArg aq.v (congrArg (bQ .i64) (jv (by simp;omega) (by omega) (by simp;omega)))),rfl,rfl,rfl,rfl,congrArg some (congrArg aq.v (congrArg (bQ .i64) (jv (by simp) (by omega) (by simp;omega)))),trivial⟩,trivial,.of_eq (congrArg (λx=>[iN (some ⟨g,0,none⟩) c x]) arN),aD, au⟩
  .have hb:b7 k d≠0:=by omega
   refine aR (aM _ (cE rfl ?_));exact cH (ys,zs++[k],r) ⟨done++[k],ZE,rI.one hb⟩ (by show r.length<(k::r).length;simp) ⟨⟨congrArg some (congrArg aq.v (congrArg (bQ .i64) (jv (by simp;omega) (by omega) (by simp;omega)))),rfl,rfl,rfl,rfl,rfl,trivial⟩,trivial,.of_eq (congrArg (λx=>[iN (some ⟨g,0,none⟩) c x]) (by simp:P++(ys++zs++k::r)++Z=P++(ys++(zs++[k])++r)++Z)),aD, au⟩
 .refine cG (a6 (a6 (cF ?_)))
  refine hK _ ?_;obtain rfl:r=[]:=lB (by omega);have e2:ks.length-ys.length=zs.length:=by rw [fI,Fu];omega
  have ar7:wc d ks (ys,zs):=by rw [EI,fj];exact rI
  have pz:ys.length<=ks.length:=by omega
  refine rT 8 λK4 bW G S w0 aa=>fa an aa rfl (oZ (.v (.slice A' ys.length c')) rfl (Me (sz:=32) (by kernel_rfl) (by omega) aa0 rfl vJ rfl rfl) (fa an aa rfl (oZ (.v (.slice (tg 32 A' c' ys.length) (ks.length-ys.length) (c'-ys.length))) rfl (afG (sz:=32) (by kernel_rfl) pz hle aa0 rfl vJ rfl rfl) (fa an aa rfl (p1 aa (ah (bW _ ?_)))))));refine aJ (dk an ⟨(ys,zs),ar7⟩ rfl rfl (by rw [e2];rfl) (by show [iN A c (P++(ys++zs)++Z)]=[iN A c (P++(ys++zs++[])++Z)];rw [fj]) aD au)
abbrev an4(ep:Int)(K:ae->aX)(x:fU)(w:yp):Prop:=x.F w/\x.aI/\x.ep=ep/\∀k,cB x.l k=K k
def ag4{s:fv}{w:yp}(h:s.rd w):∀k∈s.l,k.length=32:=λk hk=>by obtain⟨i,hi⟩:=Dq hk;exact axQ h hi
structure M2 where
  seen:Array Nat
  done:List (ae×fv)
  n:Nat
  h:ae->Option fv
  t:eW
def rW(d:fU)(x:M2):bZ:=uI d.l (x.done.map pZ)
structure WiI(d:fU)(g:ae->Option fv)(es:Array MapEntry)(n:Nat)(x:M2):Prop where
  did:ud jM iF es g x.seen x.done
  dir:dj (rW d x)
  small:mq (rW d x)
  zK:CR x.h (rW d x)
  tree:fZ 256 (dg (rW d x)) x.t
  len:(rW d x).length<=d.l.length+x.done.length
  left:x.done.length+(leftOf es x.seen).size<=n
def aiM(d:fU)(x:M2)(q:ae)(v:fv)(seen:Array Nat)(n:Nat)(h:ae->Option fv)(t:eW):rW d ⟨seen,x.done++[(q,v)],n,h,t⟩=if v.l=[] then rW d x else kk (rW d x) q v.l:=by unfold rW;rw [jl];exact alV _ _ _
def agG{l:dm}:lF (256-256) l:=λ_ _ _ _ _ h=>absurd h (Ds _)
def anB{d:fU}(hd:d.aI)(ep:Int)(mh n:Nat)(g:ae->Option fv)(gT:d.l.length+n<=1000)(h64:∀k s,g k=some s->s.l.length<=64) :
  Spec 34 [(nU d).den,.int .i64 ep,.map (some mh)] [iZ jM iF mh n g] (λw=>eI w/\d.F w/\∀k s,g k=some s->s.rd w) { ret:=λx:fU=>.q (nU x),own:=λ_=>[iZ jM iF mh n g],p:=an4 ep (FT g d.l) }:=by
 refine bA [.p d.parts,.c (.v (.int .i64 ep)),.c (.v (.map (some mh)))] 51 func34 rfl (ab:=uP d.ig (dZ trivial trivial)) λb=>?_;refine lQ (∀k s,g k=some s->∀x∈s.l,x.length=32) (λw h _ k s hs=>ag4 (h.2.2 k s hs)) λfl=>?_;refine ag rfl (ag rfl (ao λK hK=>aA rfl λK1 aS=>jq (.v (.int .i64 (n:Int))) rfl (VM uf (FH 0 rfl) rfl rfl) (aj rfl (ah (aS _ ?_)))));refine bn ((n:Int)=0) rfl (λh0=>?_) (λ_=>?_)
 .obtain rfl:n=0:=by omega
  refine ag rfl (aJ (Uk 0 rfl λes clock hH=>aaO jM 0 rfl hH ?_));have hz:∀k,g k=none:=λk=>hH.zero k;exact bE ({ d with ep:=ep }:fU) rfl (λw h _=>⟨h.2.1,⟨hd.dir,hd.small,hd.zK,hd.tree,hd.map⟩,rfl,λk=>(avS hz d.l k).symm⟩) au
 refine aR (hK _ (aA rfl λK2 aM=>jq (.v (.int .i64 (d.R9:Int))) rfl (azR hd (λ_ _ _ h=>h.fact.2.1) rfl rfl) (aj rfl (jq (.v (.int .i64 (n:Int))) rfl (VM uf (FH 0 rfl) rfl rfl) (aj rfl (at4 jM iF uf rfl rfl rfl rfl rfl λm=>aj rfl (ah (aM _ (aA rfl λK3 bu=>er (own:=[iZ jM iF m 0 λ_=>none]) (R':=[iZ jM iF mh n g]) [.map (some m),.map d.mv] rfl (auN hd m) (λ_ h _=>h.2.1) λn2=>dz [iZ jM iF m n2 d.h,iZ jM iF mh n g] rfl (ah (bu _ (ao λK4 bW=>aA rfl λK5 bN=>at6 1 rfl λes clock hH=>Uw rfl rfl rfl rfl Qj rfl (es:=es) (clock:=clock) (UE 1 rfl) λr=>ah (bN _ (a8 ?_))))))))))))))
 let Fs:M2->Env:=λx=>⟨[(28,.v (eE r)),(7,.v (.map (some m))),(3,.a 3 0),(6,.a 6 0)],[⟨6,none,33,vS.parts⟩,⟨3,none,33,[.one (.v (.int .i64 ep)),.one (.v (.map d.mv)),.agg 2 #[x.t.val,.int .u8 0]]⟩],[ue (some mh) r clock x.seen,iZ jM iF m x.n x.h,zW mh es clock],λw=>(eI w/\∀k s,g k=some s->s.rd w)/\jk x.t w/\∀k s,x.h k=some s->s.rd w,λ_=>True⟩
 have sx:(leftOf es #[]).size<=n:=by have h1:=hH.size;unfold leftOf;exact fo (Array.size_filter_le ..) (vF h1)
 refine cI (e':=Fs ⟨#[],[],n2,d.h,d.t⟩) ⟨dB rfl, c8 rfl rfl, .refl _,λ_ h _=>⟨⟨h.2.1,h.2.2.2⟩,h.2.2.1.2.2,h.2.2.1.2.1⟩, au⟩ (cY (λx=>(leftOf es x.seen).size) Fs (WiI d g es n) ?_ ⟨#[],[],n2,d.h,d.t⟩ ⟨ud.nil,hd.dir,hd.small,hd.zK,hd.tree,aQ _,by show 0+(leftOf es #[]).size<=n;omega⟩)
 rintro x hx
 obtain⟨hD,Kk,lH,TO,TT,hlen,aIA⟩:=id hx;refine aA rfl λK6 cr=>?_;refine Uu hH hD (λ_ h=>GN h) Yk 0 rfl rfl rfl rfl rfl rfl (UE 2 rfl) (λh0=>?_) λq v seen' hq ab b8 al hla hD'=>?_
 .refine aj rfl ?_
  refine ah (cr _ (ao λK7 df=>dY rfl (cG (a6 (a6 (cF (lN 0 rfl (Uk 0 rfl λes' clock' hH'=>aaP 0 rfl (aaO jM 0 rfl hH (bW _ (ag rfl (ag rfl (aJ ?_)))))))))))));refine bE (⟨ep,some m,es',clock',x.n,x.h,x.t,rW d x⟩:fU) rfl (λw h _=>⟨⟨λm' e=>?_,h.2.2.2,h.2.2.1⟩,⟨Kk,lH,TO,TT,hH'⟩,rfl,?_⟩) au
  .have e:some m=some m':=e;injection e with e;rw [<-e];exact h.1
  .exact avR hD.nodup (λd hd=>(hD.tB d hd).2) λk s hg=>hD.all uf hH h0 hg
 refine aj rfl (ah (cr _ (ao λK7 df=>ir rfl (aR (df _ (a8 (aA rfl λK8 gw=>jq (.t [aw 32 q,se v]) (ab:=dZ (GN hq) trivial) rfl (VL hH 0 rfl hla (UE 2 rfl) rfl rfl) (aj rfl (ah (gw _ (ag rfl ?_)))))))))))
 have hlt':x.done.length+1+(leftOf es seen').size<=n:=by omega
 refine bn ((v.l.length:Int)>0) rfl (λAt=>?_) (λhn0=>?_)
 .have Fb:v.l≠[]:=λe=>by rw [e] at At;exact absurd At (by decide)
  have arR:=h64 q v ab;refine ao λK9 l5=>?_;refine rS λG=>?_;refine lv [0,1,2] 4 1 (iV (iH G [⟨8,none,47,[.agg 32 (By q).toArray]⟩,⟨6,none,33,vS.parts⟩,⟨3,none,33,[.one (.v (.int .i64 ep)),.one (.v (.map d.mv)),.agg 2 #[x.t.val,.int .u8 0]]⟩])) rfl (iE mj) ?_;refine j3 0 rfl (λ_ h=>h) (j3 1 rfl (λ_ h=>h) (j3 2 rfl (λ_ h=>h) ?_));refine eN 3 rfl λKa kM=>?_;refine bY [.slice v.A v.l.length v.c] rfl (WH v.l (by omega)) (λ_ h _=>h.1.2 q v ab) λy=>iU 0 rfl (ah (kM _ (iE mj) (kQ [4] rfl (Lg uf 1 rfl q ⟨y.1,y.2,v.l⟩ hq rfl rfl rfl rfl rfl rfl (ah (Co (l5 _ ?_)))))));obtain⟨va,KQ⟩:∃va,jF v.l=va:=⟨_,rfl⟩;have sE:va.length=32:=by rw [<-KQ];exact yG _
  have Ax:=TX (A:=v.A) (c:=v.c) v.l;rw [KQ] at Ax;have ky:(dg (rW d x)).length=(rW d x).length:=dL ..;have ix:=aCM 256 (dg (rW d x)) x.t (q,va) ⟨hq,sE⟩ (aQ _) TT (dj.AU Kk).1 (dj.AU Kk).2 agG (by omega);refine rS λG=>?_;refine lv [0,1,2,3] 6 2 (iV (iH G [⟨8,none,47,[.agg 32 (By q).toArray]⟩,⟨6,none,33,vS.parts⟩,⟨3,none,33,[.one (.v (.int .i64 ep)),.one (.v (.map d.mv)),.agg 2 #[x.t.val,.int .u8 0]]⟩])) rfl (iE mj) ?_;refine j3 0 rfl (λ_ h=>h) (j3 1 rfl (λ_ h=>h) (j3 2 rfl (λ_ h=>h) (j3 3 rfl (λ_ h=>h) ?_)));refine eN 4 rfl λKa kM=>?_;refine bY [.slice v.A v.l.length v.c] rfl Ax (λ_ h _=>⟨h.2.2.1.1,h.2.2.1.2 q v ab⟩) λ_=>ah (kM _ (iE mj) ?_);refine eN 5 rfl λKb mA=>?_;refine bY [(j7 x.t ((256-256)%256)).den,(aw 32 q).den,(aw 32 va).den] rfl ix (λ_ h _=>⟨h.2.2.2.2.1,h.2.2.2.1.1.sh⟩) λ⟨t',ht'⟩=>ah (mA _ (iE mj) (kQ [6,7] rfl (aj rfl ?_)));have e1:rW d ⟨seen',x.done++[(q,v)],if (x.h q).isSome then x.n else x.n+1,nt x.h q ⟨y.1,y.2,v.l⟩,t'⟩=kk (rW d x) q v.l:=by rw [aiM,if_neg Fb]
  refine ah (Co (cH ⟨seen',x.done++[(q,v)],if (x.h q).isSome then x.n else x.n+1,nt x.h q ⟨y.1,y.2,v.l⟩,t'⟩ ⟨hD',?_,?_,?_,?_,?_,?_⟩ al ⟨dB rfl, c8 rfl rfl, .refl _,λw h _=>⟨h.2.2.2.2.1,h.1,λk s e=>?_⟩,λ_ h=>trivial⟩))
  .rw [e1];exact Kk.put hq Fb (fl q v ab)
  .rw [e1];exact lH.put arR
  .rw [e1];exact TO.put q ⟨y.1,y.2,v.l⟩ Fb
  .rw [e1,Vf,KQ];exact ht'
  .rw [e1,aV];have:=Vn (rW d x) q v.l;show _<=_+(_+1);omega
  .rw [aV];exact hlt'
  .have e:nt x.h q ⟨y.1,y.2,v.l⟩ k=some s:=e
   unfold nt at e;split at e
   .injection e with e;rw [<-e];exact h.2.2.1
   .exact h.2.2.2.2.2.2 k s e
 .have Fb:v.l=[]:=lB (by omega)
  have e1:rW d ⟨seen',x.done++[(q,v)],x.n,x.h,x.t⟩=rW d x:=by rw [aiM,if_pos Fb]
  refine aR (cH ⟨seen',x.done++[(q,v)],x.n,x.h,x.t⟩ ⟨hD',?_,?_,?_,?_,?_,?_⟩ al (hv rfl rfl rfl))
  .rw [e1];exact Kk
  .rw [e1];exact lH
  .rw [e1];exact TO
  .rw [e1];exact TT
  .rw [e1,aV];exact fo hlen (Nat.add_le_add_left (DU _) _)
  .rw [aV];exact hlt'
theorem mq.apply:∀{us:cS} {l:bZ},mq l->mq (ej l (us.map cy))
 | [],_,h=>h
 | u::us,l,h=>mq.apply (us:=us) (l:=kJ l (cy u)) (h.step u)
def zL{us:cS}(h:∀u∈us,u.aI):Gi (us.map cy):=⟨λx hx=>by
 obtain⟨u,hu,rfl⟩:=dv.1 hx;exact(h u hu).id,λx hx=>by
 obtain⟨u,hu,rfl⟩:=dv.1 hx;exact(h u hu).key⟩
def Wi{us:cS}{i:Nat}{u:UV}(h:us[i]?=some u)(l:bZ):ej l ((us.take (i+1)).map cy)=kJ (ej l ((us.take i).map cy)) (cy u):=by
 have:us.take (i+1)=us.take i++[u]:=by rw [qw,h];rfl
 rw [this,jl,aDL];rfl
theorem GF:∀(us:List wm) (l:bZ),(ej l us).length<=l.length+us.length
 | [],_=>aQ _
 | u::us,l=>by have h1:=GF us (kJ l u);have h2:=aC2 l u;show(ej (kJ l u) us).length<=_;rw [fL];omega
structure zV(g:ae->Option fv)(l z:bZ):Prop where
  keys:∀k,cB z k=(match g k with|some s=>s.l|none=>cB l k)
  some:∀k s,g k=some s->s.l≠[]
def zV.nil(l:bZ):zV (λ_=>none) l l:=⟨λ_=>rfl,λ_ _ h=>(by cases h)⟩
def zV.put{g:ae->Option fv}{l z:bZ}(h:zV g l z)(k:ae)(s:fv)(hs:s.l≠[]):zV (nt g k s) l (kk z k s.l):=⟨λx=>by
 rw [Fm];unfold nt;by_cases c:x=k
 .rw [if_pos c,if_pos c]
 .rw [if_neg c,if_neg c];exact h.keys x,λx s' e=>by
 unfold nt at e;split at e
 .injection e with e;rw [<-e];exact hs
 .exact h.some x s' e⟩
theorem zV.over{g:ae->Option fv}{l z:bZ}(h:zV g l z)(k:ae):FT g l k=cB z k:=by
 rw [h.keys];unfold FT;cases hg:g k with
 | none=>rfl
 | some s=>exact if_neg (h.some k s hg)
def QL{l:bZ}{u:UV}(h:¬(eV u=true/\u.ver=((cB l u.id).length:Int)+1)):kJ l (cy u)=l:=if_neg λh2=>h (Cy.1 h2)
def QM{l:bZ}{u:UV}(h:eV u=true/\u.ver=((cB l u.id).length:Int)+1):kJ l (cy u)=kk l u.id (cB l u.id++[u.key]):=if_pos (Cy.2 h)
structure Xd where
  i:Nat
  n:Nat
  g:ae->Option fv
structure ApI(l:bZ)(us:cS)(x:Xd):Prop where
  i:x.i<=us.length
  n:x.n<=x.i
  g:zV x.g l (ej l ((us.take x.i).map cy))
def UT{l:aX}{u:UV}:q9 l u=0↔(eV u=true/\u.ver=(l.length:Int)+1):=by
 unfold q9;split
 .rename_i h;split<;>simp_all
 .rename_i h;simp [h]
def Ya{d:fU}(hd:d.aI){A:aO}{c:Nat}{us:cS}(ic:∀u∈us,u.aI)(gT:d.l.length+us.length<=1000) :
  Spec 9 [(nU d).den,.slice A us.length c] [] (λw=>eI w/\d.F w/\ar 129 dT A c us w) { ret:=λx:fU=>.q (nU x),p:=λx w=>x.F w/\x.aI/\x.ep=IntKind.i64.wrap (d.ep+1)/\x.l=ej d.l (us.map cy) }:=by
 refine bA [.p d.parts,.c (.v (.slice A us.length c))] 58 func9 rfl (ab:=dZ d.ig trivial) λb=>ag rfl (aA rfl λK1 aS=>Ut jM iF rfl rfl rfl rfl λm=>aj rfl (ah (aS _ (ao λK hK=>ag rfl (a8 ?_)))))
 let Fs:Xd->Env:=λx=>⟨[(15,.aT x.i),(14,.aT us.length),(13,.v (.slice A us.length c)),(5,.v (.map (some m))),(2,.a 2 0),(4,.a 4 0)],[⟨4,none,33,vS.parts⟩,⟨2,none,33,d.parts⟩],[iZ jM iF m x.n x.g],λw=>(eI w/\d.F w/\ar 129 dT A c us w)/\∀k s,x.g k=some s->s.rd w,λ_=>True⟩
 refine cI (e':=Fs ⟨0,0,λ_=>none⟩) ⟨dB rfl, c8 rfl rfl, .refl _,λ_ h _=>⟨h,λ_ _ e=>by cases e⟩, au⟩ (cY (λx=>us.length-x.i) Fs (ApI d.l us) ?_ ⟨0,0,λ_=>none⟩ ⟨bl _,aQ _,zV.nil _⟩)
 rintro⟨i,n,g⟩ ⟨hi,hn,hg⟩
 dsimp only at hi hn hg
 have lH:mq (ej d.l ((us.take i).map cy)):=hd.small.apply;refine ag rfl (ao λK5 bN=>?_);refine bn ((i:Int)<(us.length:Int)) rfl (λal=>?_) (λcW=>?_)
 .have al:i<us.length:=by omega
  obtain⟨u,hu⟩:∃u,us[i]?=some u:=⟨_,da al⟩;have fT:=ic u (eg hu);have hS:=Wi hu d.l;refine aR (bN _ (ao λK10 nV=>?_));have su:∀n' g',n'<=i+1->zV g' d.l (ej d.l ((us.take (i+1)).map cy))->∀e,gj e ⟨[(15,.aT i),(14,.aT us.length),(13,.v (.slice A us.length c)),(5,.v (.map (some m))),(2,.a 2 0),(4,.a 4 0)],[⟨4,none,33,vS.parts⟩,⟨2,none,33,d.parts⟩],[iZ jM iF m n' g'],λw=>(eI w/\d.F w/\ar 129 dT A c us w)/\∀k s,g' k=some s->s.rd w,λ_=>True⟩->cl b K10 58 e:=by intro n' g' hn' hg' e hw;refine ft hw (nV _ (cE rfl ?_));exact cH ⟨i+1,n',g'⟩ ⟨al,hn',hg'⟩ (by show us.length-(i+1)<us.length-i;omega) ⟨⟨congrArg (λz=>some (aq.v (.int .i64 z))) (jv (m:=(i:Int)+1) (r:=((i+1:Nat):Int)) (by omega) (by omega) (by omega)),rfl,rfl,rfl,rfl,rfl,trivial⟩,c8 rfl rfl, .refl _,λ_ h _=>h,λ_ h=>h⟩
  refine a8 (aA rfl λK11 p8=>jh an rfl rfl rfl i rfl hu rfl rfl (dX λ_ h _=>h.1.2.2) (aj rfl (ah (p8 _ ?_))));obtain⟨z,hz⟩:∃z,ej d.l ((us.take i).map cy)=z:=⟨_,rfl⟩;rw [hz] at hg lH hS;have Hh:=lH.keys u.id;refine aA rfl λK12 sl=>jq (.t [se ((g u.id).getD Cv),.c (.b (g u.id).isSome)]) (ab:=dZ trivial trivial) rfl (azP (FH 0 rfl) u.id fT.id rfl rfl rfl) (aj rfl (ah (sl _ (ao λK13 wJ=>?_))));have ll:∀s:fv,s.l=cB z u.id->∀e,gj e ⟨[(8,.q (se s)),(7,.a 7 0),(15,.aT i),(14,.aT us.length),(13,.v (.slice A us.length c)),(5,.v (.map (some m))),(2,.a 2 0),(4,.a 4 0)],[⟨7,none,68,u.parts⟩,⟨4,none,33,vS.parts⟩,⟨2,none,33,d.parts⟩],[iZ jM iF m n g],λw=>s.rd w/\(eI w/\d.F w/\ar 129 dT A c us w)/\∀k s,g k=some s->s.rd w,λ_=>True⟩->cl b K13 58 e:=by
   intro s gS e hw;refine ft hw (wJ _ ?_);rw [<-gS] at Hh;have zd:IntKind.i64.wrap ((s.l.length:Int)+1)=(s.l.length:Int)+1:=jv rfl (by omega) (by omega);refine ao λK14 xJ=>ag rfl ?_;refine bn (u.ver≠IntKind.i64.wrap ((s.l.length:Int)+1)) rfl (λb8=>?_) (λheq=>?_)
   .rw [zd] at b8;refine cG (a6 (cF (su n g (by omega) ?_ _ (fC rfl rfl rfl λ_ h _=>h.2))));rw [hS,QL (λh=>b8 (by rw [gS];exact h.2))];exact hg
   rw [zd] at heq;have heq:u.ver=(s.l.length:Int)+1:=Decidable.of_not_not heq;refine aR (xJ _ ?_);obtain⟨ee,qS⟩:∃ee,q9 s.l u=ee:=⟨_,rfl⟩;obtain⟨ev,wM⟩:∃ev,rf s.l u=ev:=⟨_,rfl⟩;have jB:=Z9 (A:=s.A) (c:=s.c) qS wM fT (by omega);refine aA rfl λK15 yR=>bY [.slice s.A s.l.length s.c,(dT u).den] rfl jB (λ_ h _=>⟨h.2.1.1,h.1⟩) λ⟨X,c2⟩=>aj rfl (ah (yR _ (ag rfl ?_)));refine bn ((ee:Int)=0) rfl (λh0=>?_) (λh0=>?_)
   .have h0:q9 s.l u=0:=by omega
    have iD:ev=s.l++[u.key]:=by rw [<-wM];unfold rf;rw [if_pos h0]
    have aa:=QM (l:=z) (u:=u) (by rw [<-gS];exact UT.1 h0);rw [<-gS,<-iD] at aa;refine ef (aj rfl (Lg uf 0 rfl u.id ⟨X,c2,ev⟩ fT.id rfl rfl rfl rfl rfl rfl ?_));refine ah (su (if (g u.id).isSome then n else n+1) (nt g u.id ⟨X,c2,ev⟩) (by split<;>omega) ?_ _ ⟨dB rfl, c8 rfl rfl, .refl _,λw h _=>⟨h.2.2.1,λk s' e=>?_⟩, au⟩)
    .rw [hS,aa];exact hg.put u.id ⟨X,c2,ev⟩ (by rw [iD];simp)
    .unfold nt at e
     split at e
     .injection e with e;rw [<-e];exact h.1
     .exact h.2.2.2 k s' e
   .refine aR (su n g (by omega) ?_ _ (fC rfl rfl rfl λ_ h _=>h.2.2));rw [hS,QL (λh=>h0 (by rw [<-qS,UT.2 (by rw [gS];exact h)];rfl))];exact hg
  have ES:=hg.keys u.id;refine ag rfl ?_;refine pD (!(g u.id).isSome) rfl (λh=>?_) (λh=>?_)
  .have hs:g u.id=none:=by
    cases e:g u.id with
    | none=>rfl
    | some s=>rw [e] at h;cases h
   rw [hs] at ES;refine ef (aj rfl (jq (.q (se (d.w9 u.id))) rfl (af5 hd (λ_ _ _ h=>h.fact.1.2.1) u.id fT.id rfl rfl rfl) (aj rfl ?_)));exact ah (ll (d.w9 u.id) (by rw [ES,hd.ag5]) _ ⟨dB rfl, c8 rfl rfl, .refl _,λ_ h _=>⟨h.1.2.1.ag6 _,h⟩, au⟩)
  .cases hs:g u.id with
   | none=>rw [hs] at h;cases h
   | some s =>
    rw [hs] at ES;exact aR (ll s ES.symm _ ⟨dB rfl, c8 rfl rfl, .refl _,λ_ h _=>⟨h.2 _ _ hs,h⟩, au⟩)
 .obtain rfl:us.length=i:=by omega
  rw [kW] at hg lH;refine cG (a6 (a6 (cF (hK _ ?_))));have h64:∀k s,g k=some s->s.l.length<=64:=λk s e=>by have h1:=hg.keys k;rw [e] at h1;have h2:=lH.keys k;rw [h1] at h2;exact h2
  have hlz:=GF (us.map cy) d.l;rw [dL] at hlz;refine aA rfl λK16 GX=>er (own:=[iZ jM iF m n g]) (R':=[]) [(nU d).den,.int .i64 (IntKind.i64.wrap (d.ep+1)),.map (some m)] rfl (anB hd (IntKind.i64.wrap (d.ep+1)) m n g (by omega) h64) (λ_ h _=>⟨h.1.1,h.1.2.1,h.2⟩) λx=>aj rfl (ah (GX _ (aJ (lN 0 rfl ?_))));exact bE x rfl (λw h _=>⟨h.1.1,h.1.2.1,h.1.2.2.1,dj.ext h.1.2.1.dir (hd.dir.apply (zL ic)) λk=>(h.1.2.2.2 k).trans (hg.over k)⟩) au
noncomputable def dA(id:ae):bZ->cS->cS
  | _,[]=>[]
  | l,u::us=>if pe l (cy u)=true/\u.id=id then u::dA id (kJ l (cy u)) us else dA id (kJ l (cy u)) us
def Ge(id:ae)(l:bZ)(u:UV)(us:cS):dA id l (u::us)=if pe l (cy u)=true/\u.id=id then u::dA id (kJ l (cy u)) us else dA id (kJ l (cy u)) us:=rfl
theorem DA(id:ae):∀(us:cS) (l:bZ),cB (ej l (us.map cy)) id=cB l id++(dA id l us).map (·.key)
 | [],l=>by simp [ej,dA]
 | u::us,l=>by
  show cB (ej (kJ l (cy u)) (us.map cy)) id=_;rw [DA id us,ae3,Ge];by_cases h:pe l (cy u)=true/\u.id=id
  .rw [if_pos h,if_pos ⟨h.1,h.2.symm⟩,eZ,ei];show cB l u.id++([u.key]++_)=_;rw [h.2];rfl
  .rw [if_neg h,if_neg λh2=>h ⟨h2.1,h2.2.symm⟩]
theorem D4(id:ae):∀{us:cS} {l:bZ} {u:UV},u∈dA id l us->u∈us/\u.id=id/\eV u=true
 | [],_,_,h=>by cases h
 | v::us,l,u,h=>by
  rw [Ge] at h;split at h
  .rename_i ab
   rcases bT.1 h with rfl|h
   .exact⟨.head _,ab.2,(Cy.1 ab.1).1⟩
   .obtain⟨h1,h2⟩:=D4 id h;exact⟨.tail _ h1,h2⟩
  .obtain⟨h1,h2⟩:=D4 id h;exact⟨.tail _ h1,h2⟩
theorem Mt(id:ae):∀{us:cS} {l:bZ} {i:Nat} {u:UV},(dA id l us)[i]?=some u->u.ver=((cB l id).length:Int)+(i:Int)+1
 | [],_,_,_,h=>by simp [dA] at h
 | v::us,l,i,u,h=>by
  rw [Ge] at h;have hk:=ae3 l (cy v) id;split at h
  .rename_i ab
   rw [if_pos ⟨ab.1,ab.2.symm⟩] at hk;cases i with
   | zero =>
    obtain rfl:v=u:=by simpa using h
    have:=(Cy.1 ab.1).2;rw [ab.2] at this;rw [this]
    show _=_+(0:Int)+1
    omega
   | succ i =>
    have h2:=Mt id (show(dA id (kJ l (cy v)) us)[i]?=some u by simpa using h)
    have hl:(cB (kJ l (cy v)) id).length=(cB l id).length+1:=by have e:(cy v).id=id:=ab.2;rw [hk,e,aV];rfl
    rw [h2,hl]
    omega
  .rename_i ab;rw [if_neg λh2=>ab ⟨h2.1,h2.2.symm⟩] at hk;rw [Mt id h,hk]
structure cZ where
  id:ae
  keys:aX
  more:cS
noncomputable def fq(l:bZ)(us:cS):List cZ:=(ej l (us.map cy)).filterMap λe=>if dA e.1 l us=[] then none else some ⟨e.1,cB l e.1,dA e.1 l us⟩
def yQ{l:bZ}{us:cS}{g:cZ}(h:g∈fq l us):(∃e∈ej l (us.map cy),e.1=g.id)/\g.keys=cB l g.id/\g.more=dA g.id l us/\g.more≠[]:=by
 obtain⟨e,he,h⟩:=mL.1 h;split at h
 .cases h
 .rename_i hn;obtain rfl:=jm h;exact⟨⟨e,he,rfl⟩,rfl,rfl,hn⟩
def JV{l:bZ}{us:cS}{id:ae}(hn:dA id l us≠[]):(⟨id,cB l id,dA id l us⟩:cZ)∈fq l us:=by
 have h1:cB (ej l (us.map cy)) id≠[]:=by rw [DA];intro e;have:=(oA.1 e).2;exact hn (pV.1 this)
 exact mL.2 ⟨_,Uo h1,by show(if dA id l us=[] then none else _)=_;rw [if_neg hn]⟩
def NN{l:bZ}{us:cS}(h:dj (ej l (us.map cy))):(fq l us).Pairwise λa b=>eP a.id b.id=true:=by
 unfold fq;refine List.pairwise_filterMap.2 (h.sort.imp λ{a b} sn x hx y hy=>?_);have e1:x.id=a.1:=by
  split at hx
  .cases hx
  .exact congrArg cZ.id (jm hx).symm
 have e2:y.id=b.1:=by
  split at hy
  .cases hy
  .exact congrArg cZ.id (jm hy).symm
 rw [e1,e2];exact sn
abbrev cZ.C1(g:cZ):yv:=(g.id,g.keys++g.more.map (·.key))
def ap6{l:bZ}{us:cS}(hl:dj l)(ic:∀u∈us,u.aI):uI l ((fq l us).map cZ.C1)=ej l (us.map cy):=by
 have ha:dj (ej l (us.map cy)):=hl.apply (zL ic);have hp:((fq l us).map cZ.C1).Pairwise λa b=>a.1≠b.1:=QQ.2 ((NN ha).imp λsn=>(Fz sn).symm);have hm:∀e∈(fq l us).map cZ.C1,e∈ej l (us.map cy):=λe he=>by obtain⟨g,hg,rfl⟩:=dv.1 he;obtain⟨⟨x,hx,Dn⟩,h1,h2,h3⟩:=yQ hg;have h4:=PE (ha.sort.imp λsn=>(Fz sn).symm) hx;rw [Dn,DA,<-h1,<-h2] at h4;show(g.id,g.keys++g.more.map (·.key))∈_;rw [h4,<-Dn];exact hx
 refine dj.ext (hl.build (λe he=>ha.ids e (hm e he)) λe he=>ha.keys e (hm e he)) ha λx=>?_;rw [UL hp];by_cases hn:dA x l us=[]
 .rw [if_pos (Ve λe he hex=>?_),DA,hn]
  .simp
  .obtain⟨g,hg,rfl⟩:=dv.1 he;obtain⟨_,_,h2,h3⟩:=yQ hg;have hex:g.id=x:=hex;rw [hex] at h2;exact h3 (h2.trans hn)
 .have h5:cB ((fq l us).map cZ.C1) x=cB l x++(dA x l us).map (·.key):=PE hp (e:=cZ.C1 ⟨x,cB l x,dA x l us⟩) (dv.2 ⟨_,JV hn,rfl⟩);rw [h5,if_neg (λe=>hn (pV.1 (oA.1 e).2)),DA]
def DQ{l:bZ}(h:dj l):∀p∈dg l,lW p:=λp hp=>by obtain⟨e,he,rfl⟩:=dv.1 hp;exact⟨h.ids e he,yG _⟩
def PS:Own 11:=λ_ _=>by go_simp
abbrev asJ(l:aX):fm pP:={ ret:=λx=>.v (.slice x.1 l.length x.2),own:=λx=>[iN x.1 x.2 l] }
def an7{d:fU}(hd:d.aI){k:ae}(hk:k.length=32):Spec 55 [(nU d).den,(aw 32 k).den] [] d.F (asJ (cB d.l k)):=by have h64:=hd.small.keys k;rw [<-hd.ag5 k] at h64 ⊢;refine bA [.p d.parts,aw 32 k] 10 func55 rfl (ab:=dZ d.ig (cq hk).1) λb=>ag rfl (aA rfl λK hK=>jq (.q (se (d.w9 k))) rfl (af5 hd (λ_ _ _ h=>h.fact) k hk rfl rfl rfl) (bY [.slice (d.w9 k).A (d.w9 k).l.length (d.w9 k).c] rfl (WH (d.w9 k).l (by omega)) (λ_ h _=>h.ag6 k) λx=>aj rfl (ah (hK _ ?_))));exact aJ (bE x rfl aD au)
def Sc{d:fU}(hd:d.aI):Spec 11 [(nU d).den] [] d.F (one (.q (aw 32 (iw 256 (dg d.l))))):=by rw [<-hd.tree.root];refine bA [.p d.parts] 6 func11 rfl (ab:=iG d.ig) λb=>ag rfl (aA rfl λK hK=>bY [(j7 d.t 0).den] (hf:=PU) rfl (QS d.t 0) (λ_ h _=>h.2.2) λ_=>aj rfl (ah (hK _ ?_)));exact aJ (bE () rfl aD au)
def an9(d:fU):Spec 25 [(nU d).den] [] (λ_=>True) (one (.q (.p [.agg 2 #[d.t.val,.int .u8 0]]))):=by refine bA [.p d.parts] 5 func25 rfl (ab:=iG d.ig) λb=>?_;refine ag rfl (ag rfl ?_);exact aJ (bE () rfl aD au)
def WK(n d:Nat)(ks:aX):ak.cut n d [] ks = .empty:=by cases n<;>rfl
theorem aF7(n d:Nat){l:dm}(h:l≠[]):ak.cut n d l [] = .hid (iw (256-d) l):=by
 cases l with
 | nil=>exact absurd rfl h
 | cons p l=>cases n<;>rfl
theorem WJ(n d:Nat)(p:dD){ks:aX}(h:ks≠[]):ak.cut n d [p] ks = .leaf p:=by
 cases ks with
 | nil=>exact absurd rfl h
 | cons k ks=>cases n<;>rfl
theorem WI(n d:Nat){l:dm}{ks:aX}(h2:2<=l.length)(h:ks≠[]):ak.cut (n+1) d l ks = .inner (ak.cut n (d+1) (dh d l) (ak.zl d ks)) (ak.cut n (d+1) (dd d l) (ak.x9 d ks)):=by
 match l,ks,h2,h with
 | [],_,h2,_=>exact absurd h2 (by decide)
 | [_],_,h2,_=>exact absurd h2 (by simp)
 | _::_::_,[],_,h=>exact absurd rfl h
 | _::_::_,_::_,_,_=>rfl
theorem Ra:∀(n d:Nat) (l:dm) {ks ks':aX},ks.Perm ks'->ak.cut n d l ks=ak.cut n d l ks'
 | n,d,[],_,_,_=>by rw [WK,WK]
 | n,d,p::l,ks,ks',h=>by
  by_cases e:ks=[]
  .subst e;rw [h.nil_eq]
  .have e':ks'≠[]:=λh2=>e (by subst h2;exact h.eq_nil)
   cases l with
   | nil=>rw [WJ n d p e,WJ n d p e']
   | cons q l =>
    cases n with
    | zero =>
     cases ks with
     | nil=>exact absurd rfl e
     | cons=>cases ks' with
      | nil=>exact absurd rfl e'
      | cons=>rfl
    | succ n =>
     rw [WI n d (by simp) e,WI n d (by simp) e',Ra n (d+1) _ (h.filter _),Ra n (d+1) _ (h.filter _)]
def MF{G:aK}:∀{L:aH},∀u∈iH G L,u∈iH G L/\u.g.isSome=true:=λu hu=>⟨hu,by obtain⟨y,_,rfl⟩:=Re hu;rfl⟩
def at7{P:Program}{b:bO}{ops:aZ}{Q:bK}{N:Nat}{E:aG}{L:aH}{R:bF}{F M:aE}{l:aN}(φ:Prop)(h:∀G S w,View G S L R F M w->φ)(hn:φ->a9 P b ops Q N l ⟨E,L,R,F,M⟩):a9 P b ops Q N l ⟨E,L,R,F,M⟩:=λa w ⟨G,S,h1,h2,h3⟩=>hn (h G S w h3.view) a w ⟨G,S,h1,h2,h3⟩
def bL.start{α:Type}{lo e k c:Nat}{fe:α->aL}{A:aO}{l:List α}{w:yp}{S:cn}(h:(bL lo e k fe A c l).holds w S)(h0:0<l.length):∃g,A=some ⟨g,0,none⟩:=by
 obtain⟨h1,h2,h3⟩:=h;rcases h2.2 with⟨h4,h5⟩|⟨g,cap,cur,ab,_⟩
 .omega
 .injection ab with h6 h7 h8;exact⟨g,h6⟩
theorem aF6{A:aO}{c:Nat}:∀(r:Nat) (l:dm) (t:eW) (P ks Z:aX) (A':aO) (c':Nat),r<=256->fZ r l t->fK l->oh l->lF (256-r) l->Bp A A' c' P.length ks.length->(∀k∈ks,k.length=32) ->
  Spec 65 [(j7 t ((256-r)%256)).den,.slice A' ks.length c',.int .u8 (((256-r)%256:Nat):Int)] [iN A c (P++ks++Z)] (jk t) { ret:=λ_:{ ks':aX // ks'.Perm ks }=>.v (ak.cut r (256-r) l ks).val,own:=λx=>[iN A c (P++x.1++Z)] }:=by
 intro r
 induction r using qP with
 | ind r ih =>
 intro l t P ks Z A' c' hr ht hs hk gR ki BX
 obtain⟨D,hD⟩:∃D,(256-r)%256=D:=⟨_,rfl⟩;rw [hD];refine bA [j7 t D,.c (.v (.slice A' ks.length c')),.c (.v (.int .u8 (D:Int)))] 67 func65 rfl (ab:=uP (Gg t _) (dZ trivial trivial)) λb=>ag rfl (ao λK hK=>aA rfl λK1 aS=>bY [(j7 t D).den] rfl (aCL t D) (λ_ h _=>h) λ_=>aj rfl (ah (aS _ ?_)));have hlen:=ht.len;have Hv:=ht.root
 by_cases sx:l=[]
 .subst sx;refine bn ((t.len:Int)=0) rfl (λ_=>?_) (λh=>absurd (by rw [hlen];rfl) h);refine aA rfl λK2 aM=>b6 (.v ak.empty.val) rfl (qk rfl zE rfl rfl) (aj rfl (ah (aM _ ?_)));exact aJ (dk an ⟨ks,.refl _⟩ rfl rfl (by rw [WK];rfl) rfl aD au)
 have aIC:0<l.length:=List.length_pos_iff.2 sx;refine bn ((t.len:Int)=0) rfl (λh=>absurd h (by omega)) (λ_=>aR (hK _ (ao λK2 aM=>ag rfl ?_)))
 by_cases rH:ks=[]
 .subst rH;refine bn ((([]:aX).length:Int)=0) rfl (λ_=>?_) (λh=>absurd rfl h);refine aA rfl λK3 bu=>bY [(j7 t D).den] (hf:=PU) rfl (QS t D) (λ_ h _=>h.2) λ_=>aj rfl (b6 (.v (ak.hid t.root).val) rfl (qk (q:=.p (ak.hid t.root).ai) rfl underlying189 rfl rfl) (aj rfl (ah (bu _ ?_))));exact aJ (dk an ⟨[],.refl _⟩ rfl rfl (by rw [aF7 _ _ sx,show 256-(256-r)=r by omega,<-Hv];rfl) rfl aD au)
 have aI8:0<ks.length:=List.length_pos_iff.2 rH;refine bn ((ks.length:Int)=0) rfl (λh=>absurd h (by omega)) (λ_=>aR (aM _ (ao λK3 bu=>aA rfl λK4 bW=>bY [(j7 t D).den] rfl (aCK t D) (λ_ h _=>h.2) λ_=>?_)))
 cases t with
 | nil=>exact absurd ht.acB sx
 | leaf g0 h0 p =>
  obtain rfl:=ht.abA;refine aj rfl (ah (bW _ (ag rfl (ir rfl (rT 7 λK5 bN G S w0 aa=>fa an aa rfl (rG (F':=jk (.leaf g0 h0 p)) aa [(j7 (.leaf g0 h0 p) D).den] rfl PU rfl rfl (λ_=>rfl) (QS (.leaf g0 h0 p) D) (cq (n:=32) (nT _)).1 (λ_ _ _ ab=>ab.fact.2.2) (fa an aa rfl (oZ (.v (ak.leaf p).val) rfl (qk (q:=.p (ak.leaf p).ai) rfl II rfl rfl) (fa an aa rfl (p1 aa (ah (bN _ ?_))))))))))));exact aJ (dk an ⟨ks,.refl _⟩ rfl rfl (by rw [WJ _ _ _ rH];rfl) rfl aD au)
 | node g0 x y =>
  obtain⟨r,rfl⟩:∃q,r=q+1:=⟨r-1,by
   cases r with
   | zero=>exact ht.elim
   | succ r=>rfl⟩
  obtain rfl:255-r=D:=by omega
  rw [show 256-(r+1)=255-r by omega] at gR;obtain⟨d,lj⟩:∃d,255-r=d:=⟨_,rfl⟩;obtain⟨e8,vu⟩:∃e,(256-r)%256=e:=⟨_,rfl⟩
  have hd:d<256:=by omega
  have Dm:IntKind.u8.wrap ((d:Int)+1)=(e8:Int):=MJ ⟨lj.symm,by omega⟩ vu;have ih2:=λl t P ks Z A' c' ht hs hk gR=>ih r (by omega) l t P ks Z A' c' (by omega) ht hs hk gR;simp only [vu] at ih2;clear ih;rw [lj] at gR ⊢;obtain⟨iJ,np,HB⟩:=ht;rw [lj] at np HB;have TH:=gR.left;have TI:=gR.right;rw [show d+1=256-r by omega] at TH TI;refine aj rfl (ah (bW _ (ag rfl (dY rfl (aR (bu _ (mR [1,2,3] [3] rfl rfl (aA rfl λK5 bN=>bY [(j7 (.node g0 x y) d).den] rfl (aCO (.node g0 x y) d e8 Dm) (λ_ h _=>h.2.2) λ_=>aj rfl (ah (bN _ (aA rfl λK6 cr=>dz ([iN A c (P++ks++Z)]++[]) rfl (er [.slice A' ks.length c',.int .u8 (d:Int)] rfl (aFV P ks Z d hd ki BX) aD λu=>?_))))))))))));obtain⟨⟨ys,zs⟩,rI⟩:=u;refine aj rfl (ah (cr _ ?_));have ar5:=rI.len
  dsimp only at ar5
  have arU:∀k∈ys,k.length=32:=λk h=>BX k ((rI.perm.mem_iff).1 (List.mem_append_left _ h));have arX:∀k∈zs,k.length=32:=λk h=>BX k ((rI.perm.mem_iff).1 (List.mem_append_right _ h));have hsL:fK (dh d l):=hs.filter _;have hsR:fK (dd d l):=hs.filter _;have ZV:oh (dh d l):=hk.filter _;have ZW:oh (dd d l):=hk.filter _;have aq2:=ih2 (dh d l) x P ys (zs++Z) A' c' np hsL ZV TH (ki.left (by omega)) arU
  have aq3:=λys':{ q:aX // q.Perm ys }=>ih2 (dd d l) y (P++ys'.1) zs Z (tg 32 A' c' ys.length) (c'-ys.length) HB hsR ZW TI (by have:=ki.right (m:=ys.length) (by omega);rw [show ks.length-ys.length=zs.length by omega] at this;rw [aV,ys'.2.length_eq];exact this) arX
  have hX:(ak.cut r (256-r) (dh d l) ys).root=x.root:=by rw [(ak.JD r ys (by omega) hsL ZV TH).root,np.root,show 256-(256-r)=r by omega]
  have hY:(ak.cut r (256-r) (dd d l) zs).root=y.root:=by rw [(ak.JD r zs (by omega) hsR ZW TI).root,HB.root,show 256-(256-r)=r by omega]
  have uy:ak.cut (r+1) (256-(r+1)) l ks = .inner (ak.cut r (256-r) (dh d l) ys) (ak.cut r (256-r) (dd d l) zs):=by rw [show 256-(r+1)=d by omega,WI r d iJ rH,show d+1=256-r by omega,Ra r _ _ rI.1,Ra r _ _ rI.2]
  have arB:mz x.root y.root=mz (ak.cut r (256-r) (dh d l) ys).root (ak.cut r (256-r) (dd d l) zs).root:=by rw [hX,hY]
  generalize ak.cut r (256-r) (dh d l) ys=X at *;generalize ak.cut r (256-r) (dd d l) zs=Y at *;refine mR [2,3,10,11,13,14] [3,10,11] rfl rfl ?_;refine rS λG=>?_;refine ao λK7 df=>?_;refine lv [0,2,3,4,5,7,8,9,10] 11 5 (iV (iH G [⟨11,none,31,rV y e8⟩,⟨10,none,31,rV x e8⟩,⟨3,none,31,rV (.node g0 x y) d⟩])) rfl (iE MF) ?_;refine cK 0 rfl (λx hx=>hx) (λ_ h=>h) (cK 2 rfl (λx hx=>hx) (λ_ h=>h) (cK 3 rfl (λx hx=>hx) (λ_ h=>h) (cK 4 rfl (λx hx=>hx) (λ_ h=>h) (cK 5 rfl (λx hx=>hx) (λ_ h=>h) (cK 7 rfl (λx hx=>hx) (λ_ h=>h) (cK 8 rfl (λx hx=>hx) (λ_ h=>h) (cK 9 rfl (λx hx=>hx) (λ_ h=>h) (cK 10 rfl (λx hx=>hx) (λ_ h=>h) ?_))))))));refine eN 1 rfl λK8 gw=>?_;refine bY [(j7 (.node g0 x y) d).den] (hf:=PU) rfl (QS (.node g0 x y) d) (λ_ h _=>h.2.2.2.2) λ_=>ah (gw _ (iE MF) ?_);refine eN 6 rfl λK9 l5=>?_;refine ca 57 (e8:Int) rfl Dm (dz [iN A c (P++(ys++zs)++Z)] rfl (dz ([iN A c (P++ys++(zs++Z))]++[]) (congrArg (λq=>[iN A c q]) (by simp:P++(ys++zs)++Z=P++ys++(zs++Z))) (er [(j7 x e8).den,.slice A' ys.length c',.int .u8 (e8:Int)] rfl aq2 (λ_ h _=>h.2.2.2.2.2.2.1) λys'=>ah (l5 _ (iE MF) (kQ [11,12,13,14,15] rfl (ca 62 (e8:Int) rfl Dm (dz [iN A c (P++ys'.1++(zs++Z))] rfl (dz ([iN A c (P++ys'.1++zs++Z)]++[]) (congrArg (λq=>[iN A c q]) (by simp:P++ys'.1++(zs++Z)=P++ys'.1++zs++Z)) (er [(j7 y e8).den,.slice (tg 32 A' c' ys.length) zs.length (c'-ys.length),.int .u8 (e8:Int)] rfl (aq3 ys') (λ_ h _=>h.2.2.2.2.2.2.2.2) λzs'=>b6 (.p (uT X Y)) (ab:=CG _ _) rfl (afO rfl rfl rfl) (me 53 (.q (aw 32 (mz X.root Y.root))) rfl (congrArg (λq=>aq.q (aw 32 q)) arB) (aj rfl (b6 (.v (ak.inner X Y).val) rfl (qk (q:=.p (ak.inner X Y).ai) rfl LZ rfl rfl) ?_))))))))))))
  refine aj rfl (ah (df _ ?_));exact aJ (dk an ⟨ys'.1++zs'.1,(ys'.2.append zs'.2).trans rI.perm⟩ rfl rfl (congrArg (λq:ak=>cM.v q.val) uy) (congrArg (λq=>[iN A c q]) (by simp:P++(ys'.1++zs'.1)++Z=P++ys'.1++zs'.1++Z)) aD au)
def aEP{A:aO}{c:Nat}(l:dm)(t:eW)(ks:aX)(ht:fZ 256 l t)(hs:fK l)(hk:oh l)(hl:ks.length<=1000000)(BX:∀k∈ks,k.length=32) :
  Spec 24 [(j7 t 0).den,.slice A ks.length c] [] (λw=>jk t w/\ar 32 (aw 32) A c ks w) (one (.q (gU (ak.cut 256 0 l ks)))):=by
 obtain⟨W,hW⟩:∃W,ak.cut 256 0 l ks=W:=⟨_,rfl⟩;rw [hW];refine bA [j7 t 0,.c (.v (.slice A ks.length c))] 10 func24 rfl (ab:=dZ (Gg t _) trivial) λb=>ag rfl ?_;refine rS λG=>?_;refine ao λK hK=>?_;refine lv [0,1] 3 3 (iV (iH G [⟨4,none,79,[.one (.v .nilIface)]⟩,⟨2,none,31,rV t 0⟩])) rfl (iE MF) ?_;refine cK 0 rfl (λx hx=>hx) (λ_ h=>h) (cK 1 rfl (λx hx=>hx) (λ_ h=>h) ?_);refine eN 2 rfl λK1 aS=>?_;refine bY [.slice A ks.length c] rfl (WH ks hl) (λ_ h _=>h.2) λx=>?_;obtain⟨A1,c1⟩:=x;refine ah (aS _ (iE MF) (kQ [3,4,5] rfl (dz [iN A1 c1 ks] rfl ?_)));refine at7 (Bp A1 A1 c1 0 ks.length) (λG S w ab=>?_) λki=>?_
 .obtain⟨S1,S2,hh,_⟩:=ab.res;have hr:=bL.rd hh;exact⟨hr.1,hr.2.1,hr.2.2.1,λh0=>by obtain⟨g,hg⟩:=bL.start hh h0;exact⟨g,hg,hg⟩⟩
 have ux:=aF6 (A:=A1) (c:=c1) 256 l t [] ks [] A1 c1 (aQ _) ht hs hk (λ_ _ _ _ _ h=>absurd h (Ds _)) ki BX;replace ux:Spec 65 [(j7 t 0).den,.slice A1 ks.length c1,.int .u8 0] [iN A1 c1 ([]++ks++[])] (jk t) { ret:=λ_:{ ks':aX // ks'.Perm ks }=>.v (ak.cut 256 0 l ks).val,own:=λx=>[iN A1 c1 ([]++x.1++[])] }:=ux;rw [hW] at ux;refine dz ([iN A1 c1 ([]++ks++[])]++[]) (congrArg (λq=>[iN A1 c1 q]) (by simp:ks=[]++ks++[])) (er [(j7 t 0).den,.slice A1 ks.length c1,.int .u8 0] rfl ux (λ_ h _=>h.2.1) λys=>bY [W.val] rfl (WV W) aD λ_=>aj rfl (ah (hK _ (aJ (lN 0 rfl ?_)))));exact bE () rfl aD au
abbrev auZ(l:ae):fm pP:={ ret:=λx=>.v (.slice x.1 l.length x.2),own:=λ_=>[],p:=λx=>ar 1 aY x.1 x.2 l }
instance{l:ae}{x:pP}:dc ((auZ l).p x):=inferInstanceAs (dc (ar 1 aY x.1 x.2 l))
structure CP(o:dm)(ks:aX)(W:ak):Prop where
  of:ak.pj 0 o ks W
  right:W.jj []
def agF(l:dm):lF 0 l:=λ_ _ _ _ _ h=>absurd h (Ds _)
def adE{o:dm}(hs:fK o)(hp:∀y∈o,lW y)(ks:aX):CP o ks (ak.cut 256 0 o ks):=by have h1:ak.pj ([]:aC).length o ks (ak.cut 256 0 o ks):=ak.JD 256 ks rfl hs (λy hy=>(hp y hy).1) (agF o);exact⟨h1,h1.right λy hy=>⟨(hp y hy).1,(hp y hy).2,iO.nil _⟩⟩
def CP.put{o:dm}{ks:aX}{W:ak}(h:CP o ks W){p:dD}(hp:lW p)(hk:p.1∈ks)(hs:fK o)(wM:oh o):CP (ed o p) ks (ak.put p 0 W) :=
 ⟨h.of.Vp hk hs wM hp.1 (bl _) (agF _),(ak.jj.put hp (n:=256) (way:=[]) rfl h.right (iO.nil _)).1⟩
def CP.zK{o:dm}{ks:aX}{W:ak}(h:CP o ks W){k:ae}(hk:k∈ks)(hs:fK o):ak.tell k (ak.find k 0 W)=(match uQ o k with|some v=>(v,true,false)|none=>(dx,false,false)):=h.of.zK hk hs
def cZ.pair(g:cZ):dD:=(g.id,jF (g.keys++g.more.map (·.key)))
def ai0(ks:aX):(jF ks).length=32:=yG _
def db(f:cf->cf)(s:cf):Nat->cf
  | 0=>s
  | i+1=>f (db f s i)
section
variable{f:cf->cf}{s:cf}
theorem OL(hf:∀s:cf,s.2≠0->f s=s){i:Nat}(h:(db f s i).2≠0):∀d,db f s (i+d)=db f s i
 | 0=>rfl
 | d+1=>by have h1:=OL hf h d;show f (db f s (i+d))=_;rw [h1,hf _ h]
def OK(hf:∀s:cf,s.2≠0->f s=s){n i:Nat}(h:(db f s n).2=0)(hi:i<=n):(db f s i).2=0:=by
 by_cases h1:(db f s i).2=0
 .exact h1
 .have h2:=OL hf h1 (n-i);rw [show i+(n-i)=n by omega] at h2;rw [h2] at h;exact absurd h h1
theorem aaM{o:cf->ae}(hf:∀s:cf,s.2≠0->f s=s)(hy:∀s:cf,(f s).2=0->s.1=o s++(f s).1){n:Nat}(h:(db f s n).2=0):s.1=((dV n).map λi=>o (db f s i)).flatten++(db f s n).1:=by
 induction n with
 | zero=>rfl
 | succ n ih =>
  have h2:=ih (OK hf h (DU n));have g2:=hy (db f s n) h;rw [LW,jl,Ag];simp only [eZ,List.map_nil,wE,List.flatten_nil,fj];rw [ei]
  show s.1=_++(o (db f s n)++(f (db f s n)).1)
  rw [<-g2];exact h2
def aaL(hf:∀s:cf,s.2≠0->f s=s){k n:Nat}(hk:k<=n)(h:(db f s k).2≠0\/k=n):db f s n=db f s k:=by
 rcases h with h|rfl
 .have h1:=OL hf h (n-k)
  rwa [show k+(n-k)=n by omega] at h1
 .rfl
end
def J8(s:cf)(h:s.2≠0):dM s=s:=(Bk h).2
def yP(s:cf):Nat:=kO 65536 (dM s)
def qN(s:cf):cf:=kA 65536 (dM s)
def nr(s:cf)(n:Nat):aX:=(dV n).map λi=>lh (db dM s i)
def aaU(s:cf)(n:Nat):(nr s n).length=n:=by simp [nr]
def asN(s:cf)(n:Nat):nr s (n+1)=nr s n++[lh (db dM s n)]:=by unfold nr;rw [LW,jl];rfl
def asM(s:cf)(n:Nat):∀k∈nr s n,k.length=32:=λk hk=>by obtain⟨i,_,rfl⟩:=dv.1 hk;exact ED _
def qM(s:cf):cf:=db dM (qN s) (yP s)
def im(s:cf):cf:=pR (qM s)
structure oJ where
  id:ae
  keys:aX
  more:ae
def wH(s:cf):oJ:=⟨lh s,nr (qN s) (yP s),nR (qM s)⟩
def oJ.bytes(g:oJ):ae:=g.id++(br g.keys.length++(g.keys.flatten++(br g.more.length++g.more)))
def ap2{s:cf}(h:(im s).2=0):s.2=0/\s.1=(wH s).bytes++(im s).1:=by
 obtain⟨h1,e1⟩:=RX h;have h2:(qN s).2=0:=OK J8 (i:=0) h1 (bl _);have e2:=aaM (o:=lh) J8 (λs h=>(NX h).2) (s:=qN s) (n:=yP s) h1;obtain⟨h3,_,_,e3⟩:=Pf h2;obtain⟨h4,e4⟩:=NX h3;refine⟨h4,?_⟩;unfold oJ.bytes wH;dsimp only;rw [aaU];have e5:s.1=lh s++(br (yP s)++((nr (qN s) (yP s)).flatten++(qM s).1)):=by have e6:(qN s).1=(nr (qN s) (yP s)).flatten++(qM s).1:=e2;rw [<-e6];rw [e4];congr 1
 rw [e5,e1];simp only [ei];rfl
def aoQ{s:cf}(h:(qN s).2≠0):qM s=qN s:=by have h1:=OL J8 (s:=qN s) (i:=0) h (yP s);rw [dI] at h1;exact h1
def ac0{m:Nat}{s:cf}(h:s.2≠0):kA m s=s/\kO m s=0:=by
 have h1:q8 s=0:=by unfold q8;rw [(Bk h).1];rfl
 have h2:¬m<q8 s:=by rw [h1];exact Ds _
 unfold kA kO;rw [if_neg h2,if_neg h2];exact⟨(Bk h).2,h1⟩
def NL(s:cf)(h:s.2≠0):im s=s:=by
 have h1:qN s=s:=by unfold qN;rw [J8 s h];exact(ac0 h).1
 have h2:qM s=s:=by rw [aoQ (by rw [h1];exact h),h1]
 unfold im pR;rw [h2,(ac0 h).1];exact(Bk h).2
def yM:aC->Nat
  | []=>0
  | e::l=>if e=0 then yM l else e
theorem YG:∀{l:aC},yM l=0->∀e∈l,e=0
 | [],_,_,h=>by cases h
 | x::l,h,e,he=>by
  unfold yM at h;split at h
  .rename_i hx
   rcases bT.1 he with rfl|he
   .exact hx
   .exact YG h e he
  .rename_i hx;exact absurd h hx
def s9(b:ae):ae:=nR (b,0)
def wu(b:ae):Nat:=kO 65536 (pR (b,0))
def ui(b:ae):cf:=kA 65536 (pR (b,0))
def ta(b:ae):cf:=db im (ui b) (wu b)
def pn(b:ae):List oJ:=(dV (wu b)).map λi=>wH (db im (ui b) i)
def yb(b:ae):Nat:=match ak.parse b with
  | .ok _=>0
  | .error e=>e
def jZ(b:ae):Nat:=if kG (ta b)=0 then(if yb (s9 b)=0 then yM ((pn b).map λg=>ma g.more) else yb (s9 b)) else kG (ta b)
def kS(b:ae):List cZ:=if jZ b=0 then(pn b).map λg=>⟨g.id,g.keys,mE g.more⟩ else []
def pg(part:ae)(gs:List cZ):ae:=br part.length++(part++(br gs.length++(gs.map λg=>oJ.bytes ⟨g.id,g.keys,fk g.more⟩).flatten))
def agV{b:ae}(h:jZ b=0):kG (ta b)=0/\yb (s9 b)=0/\∀g∈pn b,ma g.more=0:=by
 unfold jZ at h;by_cases h1:kG (ta b)=0
 .rw [if_pos h1] at h
  by_cases h2:yb (s9 b)=0
  .rw [if_pos h2] at h;exact⟨h1,h2,λg hg=>YG h _ (dv.2 ⟨g,hg,rfl⟩)⟩
  .rw [if_neg h2] at h;exact absurd h h2
 .rw [if_neg h1] at h;exact absurd h h1
def aCA{b:ae}(h:jZ b=0):pg (s9 b) (kS b)=b:=by
 obtain⟨h1,_,h3⟩:=agV h;obtain⟨h4,h5⟩:=Nz h1;have e1:=aaM (o:=λs=>(wH s).bytes) NL (λs h=>(ap2 h).2) (s:=ui b) (n:=wu b) h4;have h6:(ui b).2=0:=OK NL (i:=0) h4 (bl _);obtain⟨h7,_,_,e2⟩:=Pf h6;obtain⟨_,e3⟩:=RX h7;have e4:(db im (ui b) (wu b)).1=[]:=h5;rw [e4,fj] at e1;have e5:((kS b).map λg=>oJ.bytes ⟨g.id,g.keys,fk g.more⟩)=(dV (wu b)).map λi=>(wH (db im (ui b) i)).bytes:=by unfold kS;rw [if_pos h,qB];unfold pn;rw [qB];refine Ab λi hi=>?_;simp only [Function.comp_apply];have h8:=h3 (wH (db im (ui b) i)) (dv.2 ⟨i,hi,rfl⟩);generalize wH (db im (ui b) i)=g at h8;obtain⟨g1,g2,g3⟩:=g;exact congrArg (λx=>oJ.bytes ⟨g1,g2,x⟩) (al6 h8)
 have e6:(kS b).length=wu b:=by unfold kS pn;rw [if_pos h,dL,dL,List.length_range]
 unfold pg;rw [e5,e6,<-e1];have e7:(pR (b,0)).1=br (wu b)++(ui b).1:=e2;rw [<-e7,<-ei];exact e3.symm
noncomputable def u5(id:ae):aX->cS->Nat
  | _,[]=>0
  | ks,u::us=>if u.id≠id\/eV u=false then 110 else if u.ver≠(ks.length:Int)+1 then 111 else u5 id (ks++[u.key]) us
theorem Wz{id:ae}:∀{us:cS} {ks:aX},(∀(i:Nat) (u:UV),us[i]?=some u->u.id=id/\eV u=true/\u.ver=(ks.length:Int)+(i:Int)+1)->u5 id ks us=0
 | [],_,_=>rfl
 | u::us,ks,h=>by obtain⟨h1,h2,h3⟩:=h 0 u rfl;unfold u5;rw [if_neg (by rw [h2];simp [h1]),if_neg (by rw [h3];simp)];refine Wz λi v ab=>?_;obtain⟨g1,g2,g3⟩:=h (i+1) v (by simpa using ab);refine⟨g1,g2,?_⟩;rw [g3,aV];show _=(((ks.length+1:Nat)):Int)+_+1;omega
def Bb:Option ae->ae->Bool
  | some x,id=>eP x id
  | none,_=>true
noncomputable def CA(W:ak)(was:Option ae)(g:cZ):Nat :=
  if Bb was g.id=false\/g.more=[] then 81
  else if (ak.tell g.id (ak.find g.id 0 W)).2.2=true then 100
  else if (ak.tell g.id (ak.find g.id 0 W)).2.1≠decide (g.keys≠[])\/((ak.tell g.id (ak.find g.id 0 W)).2.1=true/\(ak.tell g.id (ak.find g.id 0 W)).1≠jF g.keys) then 130
  else u5 g.id g.keys g.more
noncomputable def xu(to:ae):ak->Option ae->List cZ->Nat
  | W,_,[]=>if W.root=to then 0 else 130
  | W,was,g::gs=>if CA W was g=0 then xu to (ak.put g.pair 0 W) (some g.id) gs else CA W was g
def avF{z:bZ}{ids:aX}{W:ak}(hz:dj z)(hW:CP (dg z) ids W){was:Option ae}{g:cZ}(hid:g.id∈ids)(T4:Bb was g.id=true)(hk:cB z g.id=g.keys)(hm:g.more≠[])(hu:u5 g.id g.keys g.more=0):CA W was g=0:=by
 have ht:=hW.zK hid (dj.AU hz).1;rw [YX hz,hk] at ht;unfold CA;rw [if_neg λh=>?_]
 .by_cases h0:g.keys=[]
  .rw [if_pos h0] at ht;rw [ht,if_neg (by simp),if_neg (by simp [h0]),hu]
  .rw [if_neg h0] at ht;rw [ht,if_neg (by simp),if_neg (by simp [h0]),hu]
 .rcases h with h|h
  .rw [T4] at h;cases h
  .exact hm h
theorem XV{ids:aX}{to:ae}:∀{gs:List cZ} {z:bZ} {W:ak} {was:Option ae},dj z->CP (dg z) ids W ->
  (∀g∈gs,g.id.length=32/\g.id∈ids/\(∀k∈g.keys++g.more.map (·.key),k.length=32)/\cB z g.id=g.keys/\g.more≠[]/\u5 g.id g.keys g.more=0/\Bb was g.id=true) ->
  gs.Pairwise (λa b=>eP a.id b.id=true)->iw 256 (dg (uI z (gs.map cZ.C1)))=to->xu to W was gs=0
 | [],z,W,was,hz,hW,_,_,TS=>by show(if W.root=to then 0 else 130)=0;rw [if_pos (hW.of.root.trans TS)]
 | g::gs,z,W,was,hz,hW,h,hs,TS=>by
  obtain⟨g1,g2,g3,g4,g5,g6,g7⟩:=h g (.head _);have hs':=qu.1 hs;have b8:g.keys++g.more.map (·.key)≠[]:=λe=>g5 (pV.1 (oA.1 e).2);show(if CA W was g=0 then _ else _)=0;rw [if_pos (avF hz hW g2 g7 g4 g5 g6)];refine XV (ids:=ids) (z:=kk z g.id (g.keys++g.more.map (·.key))) (hz.put g1 b8 g3) ?_ (λx hx=>?_) hs'.2 ?_
  .rw [Vf];exact hW.put (p:=g.pair) ⟨g1,ai0 _⟩ g2 (dj.AU hz).1 (dj.AU hz).2
  .obtain⟨x1,x2,x3,x4,x5,x6,_⟩:=h x (.tail _ hx);have al:=hs'.1 x hx;refine⟨x1,x2,x3,?_,x5,x6,al⟩;rw [Fm,if_neg (Fz al),x4]
  .rw [<-TS]
   have e:uI z ((g::gs).map cZ.C1)=uI (kk z g.id (g.keys++g.more.map (·.key))) (gs.map cZ.C1):=by show uI (if g.keys++g.more.map (·.key)=[] then z else _) _=_;rw [if_neg b8]
   rw [e]
def QX{k:Nat}{x r:ae}(h:x.length=k):lS k (x++r,0)=x/\rl k (x++r,0)=(r,0):=by obtain⟨h1,h2⟩:=QY (k:=k) (s:=(x++r,0)) rfl (by show k<=(x++r).length;rw [aV];omega);rw [h1,h2];subst h;exact⟨LV,by rw [List.drop_left]⟩
def acG{n:Nat}{r:ae}(h:n<18446744073709551616):q8 (br n++r,0)=n/\ko (br n++r,0)=(r,0):=by obtain⟨h1,h2⟩:=QX (k:=8) (x:=br n) (r:=r) (nQ n);unfold q8 ko;rw [h1,h2];exact⟨aEE n h,rfl⟩
def Pe{m n:Nat}{r:ae}(h:n<=m)(hm:m<18446744073709551616):kO m (br n++r,0)=n/\kA m (br n++r,0)=(r,0):=by
 obtain⟨h1,h2⟩:=acG (r:=r) (Nat.lt_of_le_of_lt h hm);have h3:¬m<q8 (br n++r,0):=by rw [h1];omega
 unfold kO kA;rw [if_neg h3,if_neg h3];exact⟨h1,h2⟩
def XL{x r:ae}(h:x.length<=1048576):nR (br x.length++(x++r),0)=x/\pR (br x.length++(x++r),0)=(r,0):=by obtain⟨h1,h2⟩:=Pe (r:=x++r) h (by decide);unfold nR pR;rw [h1,h2];exact QX rfl
def NW{x r:ae}(h:x.length=32):lh (x++r,0)=x/\dM (x++r,0)=(r,0):=by obtain⟨h1,h2⟩:=QX (r:=r) h;refine⟨?_,h2⟩;unfold lh;rw [h1];simp [LQ,h]
def aBB{x r:ae}(h:x.length=64):yh (x++r,0)=x/\zG (x++r,0)=(r,0):=by obtain⟨h1,h2⟩:=QX (r:=r) h;refine⟨?_,h2⟩;unfold yh;rw [h1];exact adC h
theorem Uj(f:cf->cf)(s:cf):∀n,db f s (n+1)=db f (f s) n
 | 0=>rfl
 | n+1=>by show f (db f s (n+1))=f (db f (f s) n);rw [Uj f s n]
theorem ON{α β:Type}{f:cf->cf}{o:cf->α}{e:β->ae}{v:β->α}(h:∀(x:β) (r:ae),o (e x++r,0)=v x/\f (e x++r,0)=(r,0)):∀(xs:List β) (r:ae),
  db f ((xs.map e).flatten++r,0) xs.length=(r,0)/\((dV xs.length).map λi=>o (db f ((xs.map e).flatten++r,0) i))=xs.map v
 | [],r=>⟨rfl,rfl⟩
 | x::xs,r=>by
  obtain⟨h1,h2⟩:=h x ((xs.map e).flatten++r);obtain⟨h3,h4⟩:=ON h xs r;have e0:((x::xs).map e).flatten++r=e x++((xs.map e).flatten++r):=by simp
  rw [e0];refine⟨?_,?_⟩
  .show db f _ (xs.length+1)=_;rw [Uj,h2,h3]
  .show(dV (xs.length+1)).map _=_;rw [List.range_succ_eq_map,eZ,qB,eZ,<-h4];refine congr (congrArg _ h1) (Ab λi _=>?_);show o (db f _ (i+1))=_;rw [Uj,h2]
def asO{ks:aX}(h:∀k∈ks,k.length=32)(r:ae):db dM (ks.flatten++r,0) ks.length=(r,0)/\nr (ks.flatten++r,0) ks.length=ks:=by
 have h1:=ON (β:={ k:ae // k.length=32 }) (f:=dM) (o:=lh) (e:=λk=>k.1) (v:=λk=>k.1) (λx r=>NW x.2) (ks.attach.map λk=>⟨k.1,h k.1 k.2⟩) r;have e1:((ks.attach.map λk=>(⟨k.1,h k.1 k.2⟩:{ k:ae // k.length=32 })).map λk=>k.1)=ks:=by rw [qB];exact sP ks
 rw [e1,dL,qK] at h1;exact h1
def aDW{u:UV}(hu:u.aI)(h1:0<=u.ver)(h2:u.ver<9223372036854775808)(r:ae):uY (jE u++r,0)=u/\sZ (jE u++r,0)=(r,0)/\(uZ (jE u++r,0):Int)=u.ver:=by
 have e0:jE u++r=u.id++(br (mT u.ver)++(u.key++(u.sig++r))):=by simp [jE,mu]
 have ab:(mT u.ver:Int)=u.ver:=by unfold mT;have:IntKind.u64.wrap u.ver=u.ver:=zN rfl h1 (by omega);rw [this];omega
 obtain⟨a1,a2⟩:=NW (r:=br (mT u.ver)++(u.key++(u.sig++r))) hu.id;obtain⟨b1,b2⟩:=acG (r:=u.key++(u.sig++r)) (Wr u.ver);obtain⟨c1,c2⟩:=NW (r:=u.sig++r) hu.key;obtain⟨d1,d2⟩:=aBB (r:=r) hu.sig;rw [e0];unfold uY sZ uZ;rw [a1,a2,b1,b2,c1,c2,d1,d2,ab];refine⟨?_,rfl,rfl⟩;have:IntKind.i64.wrap u.ver=u.ver:=jv rfl (by omega) (by omega);rw [this]
theorem QJ(s:cf):∀i,iM s i=db sZ s i
 | 0=>rfl
 | i+1=>congrArg sZ (QJ s i)
def M9{α β:Type}(l:List α)(f:α->β):l.attach.map (λx=>f x.1)=l.map f:=by
 have e:l.map f=(l.attach.map Subtype.val).map f:=by rw [sP]
 rw [e,qB];rfl
structure UV.Fit(u:UV):Prop where
  ok:u.aI
  pos:0<=u.ver
  le:u.ver<=64
def aE0{us:cS}(h:∀u∈us,u.Fit)(r:ae):iM ((us.map jE).flatten++r,0) us.length=(r,0)/\u6 ((us.map jE).flatten++r,0) us.length=us/\zq ((us.map jE).flatten++r,0) us.length<=64:=by
 have h1:=ON (β:={ u:UV // u.Fit }) (f:=sZ) (o:=λs=>(uY s,uZ s)) (e:=λu=>jE u.1) (v:=λu=>(u.1,u.1.ver.toNat)) (λx r=>by obtain⟨g1,g2,g3⟩:=aDW x.2.ok x.2.pos (Int.lt_of_le_of_lt x.2.le (by decide)) r;refine⟨Prod.ext g1 ?_,g2⟩;show uZ _=x.1.ver.toNat;omega) (us.attach.map λu=>⟨u.1,h u.1 u.2⟩) r;have e1:((us.attach.map λu=>(⟨u.1,h u.1 u.2⟩:{ u:UV // u.Fit })).map λu=>jE u.1)=us.map jE:=by rw [qB];exact M9 us jE
 have e2:((us.attach.map λu=>(⟨u.1,h u.1 u.2⟩:{ u:UV // u.Fit })).map λu=>(u.1,u.1.ver.toNat))=us.map λu=>(u,u.ver.toNat):=by rw [qB];exact M9 us λu=>(u,u.ver.toNat)
 rw [e1,e2,dL,qK] at h1;obtain⟨h2,h3⟩:=h1;generalize ((us.map jE).flatten++r,0)=s at h2 h3 ⊢;refine⟨by rw [QJ,h2],?_,?_⟩
 .have h4:=congrArg (List.map Prod.fst) h3;rw [qB,qB] at h4;have e3:us.map (Prod.fst ∘ λu:UV=>(u,u.ver.toNat))=us:=List.map_id us;rw [e3] at h4;rw [<-h4];unfold u6;rw [h4];refine Eq.trans (Ab λi _=>?_) h4;show uY (iM s i)=uY (db sZ s i);rw [QJ]
 .have h5:∀i,i<us.length->uZ (iM s i)<=64:=λi hi=>by
   have h6:=congrArg (λl=>l[i]?) h3;simp only [lC] at h6;rw [List.getElem?_range hi,da hi] at h6;have h7:=congrArg Prod.snd (jm h6);have h8:uZ (db sZ s i)=us[i].ver.toNat:=h7;have h9:=(h us[i] (List.getElem_mem hi)).le;rw [QJ,h8];omega
  have h6:∀n,n<=us.length->zq s n<=64:=λn=>by
   induction n with
   | zero=>exact λ_=>bl _
   | succ n ih =>
    intro hn
    have:=ih (by omega);have:=h5 n (by omega)
    show max _ _<=64
    omega
  exact h6 _ (aQ _)
def ar1{us:cS}(h:∀u∈us,u.Fit)(hl:us.length<=65536):ma (fk us)=0/\mE (fk us)=us:=by
 obtain⟨h1,h2⟩:=Pe (r:=(us.map jE).flatten) hl (by decide);obtain⟨h3,h4,h5⟩:=aE0 h [];rw [fj] at h3 h4 h5;have e1:vz (fk us)=us.length:=h1;have e2:iL (fk us)=((us.map jE).flatten,0):=h2;have e3:y9 (fk us)=([],0):=by unfold y9;rw [e1,e2];exact h3
 have e4:ma (fk us)=0:=by
  unfold ma;rw [e3,e1,e2];have:kG (([],0):cf)=0:=by decide
  rw [if_pos this,if_neg (by omega)]
 refine⟨e4,?_⟩;unfold mE;rw [if_pos e4,e1,e2];exact h4
structure cZ.Fit(g:cZ):Prop where
  id:g.id.length=32
  keys:∀k∈g.keys,k.length=32
  Sp:g.keys.length<=65536
  more:∀u∈g.more,u.Fit
  num:g.more.length<=7000
def cZ.Fit.batch{g:cZ}(h:g.Fit):(fk g.more).length<=1048576:=by rw [Ej λu hu=>(h.more u hu).ok];have:=h.num;omega
abbrev cZ.raw(g:cZ):oJ:=⟨g.id,g.keys,fk g.more⟩
def aoZ{g:cZ}(h:g.Fit)(r:ae):wH (g.raw.bytes++r,0)=g.raw/\im (g.raw.bytes++r,0)=(r,0):=by
 have e0:g.raw.bytes++r=g.id++(br g.keys.length++(g.keys.flatten++(br (fk g.more).length++(fk g.more++r)))):=by simp [oJ.bytes]
 obtain⟨a1,a2⟩:=NW (r:=br g.keys.length++(g.keys.flatten++(br (fk g.more).length++(fk g.more++r)))) h.id;obtain⟨b1,b2⟩:=Pe (r:=g.keys.flatten++(br (fk g.more).length++(fk g.more++r))) h.Sp (by decide);obtain⟨c1,c2⟩:=asO h.keys (br (fk g.more).length++(fk g.more++r));obtain⟨d1,d2⟩:=XL (r:=r) h.batch;rw [e0];have g1:∀s,s=(g.id++(br g.keys.length++(g.keys.flatten++(br (fk g.more).length++(fk g.more++r)))),0)->yP s=g.keys.length/\qN s=(g.keys.flatten++(br (fk g.more).length++(fk g.more++r)),0):=λs hs=>by subst hs;unfold yP qN;rw [a2];exact⟨b1,b2⟩
 generalize (g.id++(br g.keys.length++(g.keys.flatten++(br (fk g.more).length++(fk g.more++r)))),0)=s at a1 g1;obtain⟨g2,g3⟩:=g1 s rfl;have g4:qM s=(br (fk g.more).length++(fk g.more++r),0):=by unfold qM;rw [g2,g3];exact c1
 unfold wH im;rw [g4,g2,g3,a1,c2,d1,d2];exact⟨rfl,rfl⟩
def aCB{part:ae}{gs:List cZ}(hp:part.length<=1048576)(za:yb part=0)(h:∀g∈gs,g.Fit)(hl:gs.length<=65536):jZ (pg part gs)=0/\kS (pg part gs)=gs/\s9 (pg part gs)=part:=by
 obtain⟨a1,a2⟩:=XL (r:=br gs.length++(gs.map λg=>g.raw.bytes).flatten) hp;obtain⟨b1,b2⟩:=Pe (r:=(gs.map λg=>g.raw.bytes).flatten) hl (by decide);have h1:=ON (β:={ g:cZ // g.Fit }) (f:=im) (o:=wH) (e:=λg=>g.1.raw.bytes) (v:=λg=>g.1.raw) (λx r=>aoZ x.2 r) (gs.attach.map λg=>⟨g.1,h g.1 g.2⟩) [];have e1:((gs.attach.map λg=>(⟨g.1,h g.1 g.2⟩:{ g:cZ // g.Fit })).map λg=>g.1.raw.bytes)=gs.map λg=>g.raw.bytes:=by rw [qB];exact M9 gs λg=>g.raw.bytes
 have e2:((gs.attach.map λg=>(⟨g.1,h g.1 g.2⟩:{ g:cZ // g.Fit })).map λg=>g.1.raw)=gs.map cZ.raw:=by rw [qB];exact M9 gs cZ.raw
 rw [e1,e2,dL,qK,fj] at h1;obtain⟨h2,h3⟩:=h1;have e3:s9 (pg part gs)=part:=a1;have e4:pR (pg part gs,0)=(br gs.length++(gs.map λg=>g.raw.bytes).flatten,0):=a2;have e5:wu (pg part gs)=gs.length:=by unfold wu;rw [e4];exact b1
 have e6:ui (pg part gs)=((gs.map λg=>g.raw.bytes).flatten,0):=by unfold ui;rw [e4];exact b2
 have e7:ta (pg part gs)=([],0):=by unfold ta;rw [e5,e6];exact h2
 have e8:pn (pg part gs)=gs.map cZ.raw:=by unfold pn;rw [e5,e6];exact h3
 have hb:∀g∈gs,ma (fk g.more)=0/\mE (fk g.more)=g.more:=λg hg=>ar1 (h g hg).more (fo (h g hg).num (by decide));have hz:∀l:aC,(∀e∈l,e=0)->yM l=0:=λl=>by
  induction l with
  | nil=>exact λ_=>rfl
  | cons e l ih =>
   intro hl
   unfold yM
   rw [if_pos (hl e (.head _))];exact ih λx hx=>hl x (.tail _ hx)
 have e9:jZ (pg part gs)=0:=by
  unfold jZ;rw [e7,e3,e8];have:kG (([],0):cf)=0:=by decide
  rw [if_pos this,if_pos za];refine hz _ λe he=>?_;rw [qB] at he;obtain⟨g,hg,rfl⟩:=dv.1 he;exact(hb g hg).1
 refine⟨e9,?_,e3⟩;unfold kS;rw [if_pos e9,e8,qB];refine Eq.trans (Ab λg hg=>?_) (List.map_id gs);show(⟨g.id,g.keys,mE (fk g.more)⟩:cZ)=g;rw [(hb g hg).2]
theorem Sa:∀(n d:Nat) (l:dm) {ks ks':aX},(∀k,k∈ks↔k∈ks')->ak.cut n d l ks=ak.cut n d l ks'
 | n,d,[],ks,ks',_=>by cases n<;>rfl
 | n,d,p::l,[],[],_=>rfl
 | n,d,p::l,[],k::ks',h=>absurd ((h k).2 (.head _)) (by simp)
 | n,d,p::l,k::ks,[],h=>absurd ((h k).1 (.head _)) (by simp)
 | n,d,[p],k::ks,k'::ks',_=>by cases n<;>rfl
 | 0,d,p::q::l,k::ks,k'::ks',_=>rfl
 | n+1,d,p::q::l,k::ks,k'::ks',h=>by
  show ak.inner (ak.cut n (d+1) _ (ak.zl d (k::ks))) (ak.cut n (d+1) _ (ak.x9 d (k::ks)))=ak.inner (ak.cut n (d+1) _ (ak.zl d (k'::ks'))) (ak.cut n (d+1) _ (ak.x9 d (k'::ks')));rw [Sa n (d+1) _ (ks:=ak.zl d (k::ks)) (ks':=ak.zl d (k'::ks')) λx=>?_,Sa n (d+1) _ (ks:=ak.x9 d (k::ks)) (ks':=ak.x9 d (k'::ks')) λx=>?_]
  .unfold ak.x9;rw [BO,BO,h x]
  .unfold ak.zl;rw [BO,BO,h x]
def NM{l:bZ}{us:cS}(hl:dj l)(hs:mq l)(ic:∀u∈us,u.aI):∀g∈fq l us,g.Fit:=λg hg=>by
 have ha:dj (ej l (us.map cy)):=hl.apply (zL ic);obtain⟨⟨e,he,BU⟩,h1,h2,h3⟩:=yQ hg;have ab:∀(i:Nat) (u:UV),g.more[i]?=some u->u.ver=((cB l g.id).length:Int)+(i:Int)+1/\u∈us/\u.ver<=64:=λi u hu=>by rw [h2] at hu;obtain⟨h4,_,h5⟩:=D4 g.id (eg hu);exact⟨Mt g.id hu,h4,(VZ h5).2⟩
 refine⟨by rw [<-BU];exact ha.ids e he,λk hk=>?_,?_,λu hu=>?_,?_⟩
 .rw [h1] at hk;exact PF hl g.id k hk
 .rw [h1];have:=hs.keys g.id;omega
 .obtain⟨i,hi⟩:=Dq hu;obtain⟨h4,h5,h6⟩:=ab i u hi;exact⟨ic u h5,by omega,h6⟩
 .rcases Lx g.more.length with h0|h0
  .omega
  .obtain⟨h4,_,h6⟩:=ab (g.more.length-1) g.more[g.more.length-1] (da (by omega));omega
def ap7(l:bZ)(us:cS):(fq l us).length<=l.length+us.length:=by have h1:(fq l us).length<=(ej l (us.map cy)).length:=List.length_filterMap_le ..;have h2:=GF (us.map cy) l;rw [dL] at h2;omega
noncomputable def mI(from' to:ae)(b:ae):Nat:=if jZ b=0 then(match ak.parse (s9 b) with
  | .ok W=>if W.root=from' then xu to W none (kS b) else 130
  | .error e=>e) else jZ b
def aC3{l:bZ}{us:cS}{ids:aX}(hl:dj l)(hs:mq l)(ic:∀u∈us,u.aI)(qb:∀g∈fq l us,g.id∈ids)(gT:l.length+us.length<=1000) :
  kS (pg (ak.cut 256 0 (dg l) ids).bytes (fq l us))=fq l us/\jZ (pg (ak.cut 256 0 (dg l) ids).bytes (fq l us))=0/\mI (iw 256 (dg l)) (iw 256 (dg (ej l (us.map cy)))) (pg (ak.cut 256 0 (dg l) ids).bytes (fq l us))=0:=by
 have ha:dj (ej l (us.map cy)):=hl.apply (zL ic);have hW:=adE (dj.AU hl).1 (λy hy=>⟨(DQ hl y hy).1,(DQ hl y hy).2⟩) ids
 have hb:(ak.cut 256 0 (dg l) ids).bytes.length<=1048576:=by have h1:=ak.Em 256 (d:=0) (ks:=ids) (DQ hl);have h2:(dg l).length=l.length:=dL ..;have h3:(70+2*256)*(dg l).length<=(70+2*256)*1000:=Nat.mul_le_mul_left _ (by omega);omega
 have hpb:=ak.axF hW.right
 have za:yb (ak.cut 256 0 (dg l) ids).bytes=0:=by unfold yb;rw [hpb]
 obtain⟨h1,h2,h3⟩:=aCB hb za (NM hl hs ic) (fo (ap7 l us) (by omega));refine⟨h2,h1,?_⟩
 unfold mI
 rw [if_pos h1,h3,hpb,h2]
 show(if (ak.cut 256 0 (dg l) ids).root=_ then _ else 130)=0
 rw [if_pos hW.of.root];refine XV hl hW (λg hg=>?_) (NN ha) (by rw [ap6 hl ic]);obtain⟨⟨e,he,BU⟩,h4,h5,h6⟩:=yQ hg;refine⟨by rw [<-BU];exact ha.ids e he,qb g hg,?_,h4.symm,h6,?_,rfl⟩
 .have h7:=PF ha g.id
  rwa [DA,<-h4,<-h5] at h7
 .refine Wz λi u hu=>?_;rw [h5] at hu;obtain⟨_,h8,h9⟩:=D4 g.id (eg hu);exact⟨h8,h9,by rw [Mt g.id hu,h4]⟩
theorem ah9(id:ae)(u:UV):∀(us:cS) (l:bZ),dA id l (us++[u])=dA id l us++(if pe (ej l (us.map cy)) (cy u)=true/\u.id=id then [u] else [])
 | [],l=>by show(if _ then u::[] else [])=[]++_;rw [lD];rfl
 | v::us,l=>by show dA id l (v::(us++[u]))=_;rw [Ge,Ge,ah9 id u us (kJ l (cy v))];split<;>rfl
def Q0{us:cS}{i:Nat}{u:UV}(h:us[i]?=some u)(l:bZ)(id:ae):dA id l (us.take (i+1))=dA id l (us.take i)++(if pe (ej l ((us.take i).map cy)) (cy u)=true/\u.id=id then [u] else []):=by
 have:us.take (i+1)=us.take i++[u]:=by rw [qw,h];rfl
 rw [this,ah9]
structure cD where
  id:ae
  fl:id.length=32
  k:fv
  U:aO
  u:Nat
  more:cS
abbrev fJ:=List cD
abbrev cD.pl(g:cD):cZ:=⟨g.id,g.k.l,g.more⟩
structure qq(l:bZ)(us:cS)(gs:fJ)(f:ae->Option cD):Prop where
  nd:(gs.map cD.id).Nodup
  iff_:∀k g,f k=some g↔g∈gs/\g.id=k
  ok:∀g∈gs,g.k.l=cB l g.id/\g.more=dA g.id l us/\g.more≠[]
  all:∀k,dA k l us≠[]->∃g∈gs,g.id=k
def qq.nil(l:bZ):qq l [] [] λ_=>none:=⟨List.nodup_nil,λk g=>⟨λh=>(by cases h),λh=>(by cases h.1)⟩,λ_ h=>(by cases h),λk h=>absurd rfl h⟩
def Y4{l:bZ}{us:cS}{u:UV}:pe (ej l (us.map cy)) (cy u)=true↔eV u=true/\u.ver=((cB l u.id).length:Int)+((dA u.id l us).length:Int)+1:=by rw [Cy,DA];simp [aV]
def qq.not{l:bZ}{us:cS}{gs:fJ}{f:ae->Option cD}{i:Nat}{u:UV}(h:qq l (us.take i) gs f)(hu:us[i]?=some u)(hn:¬(eV u=true/\u.ver=((cB l u.id).length:Int)+((dA u.id l (us.take i)).length:Int)+1)):qq l (us.take (i+1)) gs f:=by
 have e:∀k,dA k l (us.take (i+1))=dA k l (us.take i):=λk=>by rw [Q0 hu,if_neg λh2=>hn (Y4.1 h2.1),fj]
 exact⟨h.nd,h.iff_,λg hg=>by rw [e];exact h.ok g hg,λk=>by rw [e];exact h.all k⟩
def qq.yes{l:bZ}{us:cS}{gs r:fJ}{f:ae->Option cD}{i:Nat}{u:UV}{g:cD}(h:qq l (us.take i) gs f)(hu:us[i]?=some u)(hy:eV u=true/\u.ver=((cB l u.id).length:Int)+((dA u.id l (us.take i)).length:Int)+1)
 (h1:g.id=u.id)(h2:g.k.l=cB l u.id)(h3:g.more=dA u.id l (us.take i)++[u])(hn:(r.map cD.id).Nodup)(hr:∀x,x∈r↔x∈gs/\x.id≠u.id):qq l (us.take (i+1)) (g::r) (nt f u.id g):=by
 have e:∀k,dA k l (us.take (i+1))=dA k l (us.take i)++(if u.id=k then [u] else []):=λk=>by
  rw [Q0 hu];congr 1;by_cases c:u.id=k
  .rw [if_pos c,if_pos ⟨Y4.2 hy,c⟩]
  .rw [if_neg c,if_neg λh=>c h.2]
 refine⟨?_,λk x=>?_,λx hx=>?_,λk iD=>?_⟩
 .rw [eZ];refine AF.2 ⟨λhm=>?_,hn⟩;obtain⟨x,hx,KR⟩:=dv.1 hm;exact((hr x).1 hx).2 (KR.trans h1)
 .unfold nt
  rw [bT];by_cases c:k=u.id
  .rw [if_pos c]
   constructor
   .intro he;injection he with he;exact⟨.inl he.symm,by rw [<-he,h1,c]⟩
   .rintro⟨rfl|hx,hk⟩
    .rfl
    .exact absurd (hk.trans c) ((hr x).1 hx).2
  .rw [if_neg c,h.iff_]
   constructor
   .rintro⟨hx,hk⟩;exact⟨.inr ((hr x).2 ⟨hx,λe=>c (hk.symm.trans e)⟩),hk⟩
   .rintro⟨rfl|hx,hk⟩
    .exact absurd (hk.symm.trans h1) c
    .exact⟨((hr x).1 hx).1,hk⟩
 .rcases bT.1 hx with rfl|hx
  .refine⟨by rw [h1];exact h2,?_,?_⟩
   .rw [e,h1,if_pos rfl,h3]
   .rw [h3];simp
  .obtain⟨hx,b8⟩:=(hr x).1 hx;obtain⟨a2,a3,a4⟩:=h.ok x hx;refine⟨a2,?_,a4⟩;rw [e,if_neg (Ne.symm b8),fj];exact a3
 .rw [e] at iD
  by_cases c:k=u.id
  .exact⟨g,.head _,h1.trans c.symm⟩
  .rw [if_neg (Ne.symm c),fj] at iD;obtain⟨x,hx,hxk⟩:=h.all k iD;exact⟨x,.tail _ ((hr x).2 ⟨hx,λe=>c (hxk.symm.trans e)⟩),hxk⟩
def qq.none_{l:bZ}{us:cS}{gs:fJ}{f:ae->Option cD}(h:qq l us gs f){k:ae}(hn:f k=none):(∀x,x∈gs↔x∈gs/\x.id≠k)/\dA k l us=[]:=by
 have h1:∀x∈gs,x.id≠k:=λx hx e=>by have:=(h.iff_ k x).2 ⟨hx,e⟩;rw [hn] at this;cases this
 refine⟨λx=>⟨λhx=>⟨hx,h1 x hx⟩,λhx=>hx.1⟩,?_⟩;rcases Classical.em (dA k l us=[]) with e|e
 .exact e
 .obtain⟨x,hx,hk⟩:=h.all k e;exact absurd hk (h1 x hx)
def qq.some_{l:bZ}{us:cS}{gs:fJ}{f:ae->Option cD}(h:qq l us gs f){k:ae}{g:cD}(hg:f k=some g):g.id=k/\g.k.l=cB l k/\g.more=dA k l us/\∃a b,gs=a++g::b/\((a++b).map cD.id).Nodup/\∀x,x∈a++b↔x∈gs/\x.id≠k:=by
 obtain⟨h1,h2⟩:=(h.iff_ k g).1 hg;obtain⟨a2,a3,_⟩:=h.ok g h1;rw [h2] at a2 a3;obtain⟨a,b,sn⟩:=List.append_of_mem h1;have xQ:=h.nd;rw [sn] at xQ;have hp:((a++g::b).map cD.id).Perm (g.id::(a++b).map cD.id):=(List.perm_middle (l₁:=a) (a:=g) (l₂:=b)).map cD.id;obtain⟨n1,n2⟩:=AF.1 (hp.nodup_iff.1 xQ);refine⟨h2,a2,a3,a,b,sn,n2,λx=>?_⟩;rw [sn];simp only [iA,bT];constructor
 .intro hx;refine⟨hx.imp id .inr,λe=>n1 ?_⟩;rw [h2,<-e];exact dv.2 ⟨x,iA.2 hx,rfl⟩
 .rintro⟨hx|rfl|hx,b8⟩
  .exact .inl hx
  .exact absurd h2 b8
  .exact .inr hx
theorem aeU{α:Type}{r:α->α->Prop}(hr:∀a b,r a b->r b a->False):∀{l m:List α},l.Pairwise r->m.Pairwise r->(∀x,x∈l↔x∈m)->l=m
 | [],[],_,_,_=>rfl
 | [],b::m,_,_,h=>absurd ((h b).2 (.head _)) (by simp)
 | a::l,[],_,_,h=>absurd ((h a).1 (.head _)) (by simp)
 | a::l,b::m,hl,hm,h=>by
  obtain⟨qc,iJ⟩:=qu.1 hl;obtain⟨Ca,xO⟩:=qu.1 hm;have sn:a=b:=by
   rcases bT.1 ((h a).1 (.head _)) with e|e
   .exact e
   .rcases bT.1 ((h b).2 (.head _)) with e2|e2
    .exact e2.symm
    .exact(hr _ _ (qc b e2) (Ca a e)).elim
  subst sn;have ZU:∀x,r x x->False:=λx hx=>hr x x hx hx;rw [aeU hr iJ xO λx=>⟨λhx=>?_,λhx=>?_⟩]
  .rcases bT.1 ((h x).1 (.tail _ hx)) with e|e
   .subst e;exact(ZU _ (qc _ hx)).elim
   .exact e
  .rcases bT.1 ((h x).2 (.tail _ hx)) with e|e
   .subst e;exact(ZU _ (Ca _ hx)).elim
   .exact e
def qq.Sy{l:bZ}{us:cS}{gs gl:fJ}{f:ae->Option cD}(h:qq l us gs f)(hl:dj (ej l (us.map cy)))(hs:gl.Pairwise λa b=>eP a.id b.id=true)(hm:∀g,g∈gl↔g∈gs):gl.map cD.pl=fq l us:=by
 have al:∀a b:cZ,eP a.id b.id=true->eP b.id a.id=true->False:=λa b h1 h2=>by have:=UK h1;rw [h2] at this;cases this
 refine aeU (r:=λa b=>eP a.id b.id=true) al (QQ.2 hs) (NN hl) λx=>⟨λhx=>?_,λhx=>?_⟩
 .obtain⟨g,hg,rfl⟩:=dv.1 hx;obtain⟨a2,a3,a4⟩:=h.ok g ((hm g).1 hg);rw [a3] at a4;have:=JV a4;rw [show g.pl=⟨g.id,cB l g.id,dA g.id l us⟩ by unfold cD.pl;rw [a2,a3]];exact this
 .obtain⟨_,h2,h3,h4⟩:=yQ hx;have h5:=h4;rw [h3] at h5;obtain⟨g,hg,Tn⟩:=h.all _ h5;obtain⟨a2,a3,a4⟩:=h.ok g hg;refine dv.2 ⟨g,(hm g).2 hg,?_⟩;unfold cD.pl;rw [a2,a3,Tn,<-h2,<-h3]
def Y0{l:bZ}{us:cS}(hs:mq l){g:cZ}(hg:g∈fq l us):g.keys.length<=64/\g.more.length<=64:=by
 obtain⟨_,h1,h2,_⟩:=yQ hg;refine⟨by rw [h1];exact hs.keys g.id,?_⟩;rcases Lx g.more.length with h0|h0
 .omega
 .obtain⟨u,hu⟩:∃u,g.more[g.more.length-1]?=some u:=⟨_,da (by omega)⟩
  have Cf:(dA g.id l us)[g.more.length-1]?=some u:=by rw [<-h2];exact hu
  have h5:=(D4 g.id (eg Cf)).2.2;have h4:=Mt g.id Cf;have h6:=(VZ h5).2;omega
def aeF{g:cZ}(h:g.Fit)(hk:g.keys.length<=64)(hm:g.more.length<=64):g.raw.bytes.length<=12000:=by
 have h1:g.keys.flatten.length=32*g.keys.length:=by
  rw [List.length_flatten];have:∀l:aX,(∀k∈l,k.length=32)->(l.map List.length).sum=32*l.length:=λl=>by
   induction l with
   | nil=>exact λ_=>rfl
   | cons k l ih =>
    intro hl
    rw [eZ,List.sum_cons,ih λx hx=>hl x (.tail _ hx),hl k (.head _),fL]
    omega
  exact this _ h.keys
 have h2:=Ej λu hu=>(h.more u hu).ok;have h3:=h.id;unfold oJ.bytes;simp only [aV,nQ,h1,h2,h3];omega
theorem Vw:∀{gs:List cZ},(∀g∈gs,g.raw.bytes.length<=12000)->(gs.map λg=>g.raw.bytes).flatten.length<=12000*gs.length
 | [],_=>aQ _
 | g::gs,h=>by have h1:=Vw (gs:=gs) λx hx=>h x (.tail _ hx);have h2:=h g (.head _);rw [eZ,wE,aV,fL];omega
def V8(part:ae)(gs:List cZ):(pg part gs).length=part.length+16+(gs.map λg=>g.raw.bytes).flatten.length:=by show(br part.length++(part++(br gs.length++(gs.map λg=>g.raw.bytes).flatten))).length=_;rw [aV,aV,aV,nQ,nQ];omega
structure nJ(l:bZ)(us:cS)(ids:aX):Prop where
  nd:ids.Nodup
  mem:∀k,k∈ids↔dA k l us≠[]
def nJ.nil(l:bZ):nJ l [] []:=⟨List.nodup_nil,λk=>⟨λh=>(by cases h),λh=>absurd rfl h⟩⟩
def ah8{l:bZ}{us:cS}{i:Nat}{u:UV}(hu:us[i]?=some u)(hn:¬pe (ej l ((us.take i).map cy)) (cy u)=true)(k:ae):dA k l (us.take (i+1))=dA k l (us.take i):=by rw [Q0 hu,if_neg λh2=>hn h2.1,fj]
def Wn{l:bZ}{us:cS}{i:Nat}{u:UV}(hu:us[i]?=some u)(hy:pe (ej l ((us.take i).map cy)) (cy u)=true)(k:ae):dA k l (us.take (i+1))=dA k l (us.take i)++(if u.id=k then [u] else []):=by
 rw [Q0 hu];congr 1;by_cases c:u.id=k
 .rw [if_pos c,if_pos ⟨hy,c⟩]
 .rw [if_neg c,if_neg λh=>c h.2]
def nJ.not{l:bZ}{us:cS}{ids:aX}{i:Nat}{u:UV}(h:nJ l (us.take i) ids)(hu:us[i]?=some u)(hn:¬pe (ej l ((us.take i).map cy)) (cy u)=true):nJ l (us.take (i+1)) ids:=⟨h.nd,λk=>by rw [ah8 hu hn,h.mem]⟩
def nJ.eS{l:bZ}{us:cS}{ids:aX}{i:Nat}{u:UV}(h:nJ l (us.take i) ids)(hu:us[i]?=some u)(hy:pe (ej l ((us.take i).map cy)) (cy u)=true)(hid:u.id∈ids):nJ l (us.take (i+1)) ids:=⟨h.nd,λk=>by
 rw [Wn hu hy];by_cases c:u.id=k
 .rw [if_pos c];subst c;simp [hid]
 .rw [if_neg c,fj,h.mem]⟩
def nJ.new{l:bZ}{us:cS}{ids:aX}{i:Nat}{u:UV}(h:nJ l (us.take i) ids)(hu:us[i]?=some u)(hy:pe (ej l ((us.take i).map cy)) (cy u)=true)(hid:u.id∉ids):nJ l (us.take (i+1)) (ids++[u.id]):=⟨QR.2 ⟨h.nd,by simp,λa ha b hb e=>by
 rw [bU.1 hb] at e;exact hid (e▸ha)⟩,λk=>by
 rw [Wn hu hy,iA,bU];by_cases c:u.id=k
 .rw [if_pos c];simp [c]
 .rw [if_neg c,fj,<-h.mem];exact⟨λhh=>hh.resolve_right λe=>c e.symm,.inl⟩⟩
noncomputable def wI(l:bZ)(us:cS)(es:bZ):List cZ:=es.filterMap λe=>if dA e.1 l us=[] then none else some ⟨e.1,cB l e.1,dA e.1 l us⟩
def ap3(l:bZ)(us:cS):wI l us (ej l (us.map cy))=fq l us:=rfl
def ap4{l:bZ}{us:cS}{es:bZ}{q:Nat}{e:yv}(h:es[q]?=some e):wI l us (es.take (q+1))=wI l us (es.take q)++(if dA e.1 l us=[] then [] else [⟨e.1,cB l e.1,dA e.1 l us⟩]):=by
 have:es.take (q+1)=es.take q++[e]:=by rw [qw,h];rfl
 unfold wI;rw [this,List.filterMap_append];congr 1;rw [List.filterMap_cons,List.filterMap_nil];split<;>simp_all
def ap5{l:bZ}{us:cS}{q:Nat}:∀g∈wI l us ((ej l (us.map cy)).take q),g∈fq l us:=λg hg=>by obtain⟨e,he,h⟩:=mL.1 hg;exact mL.2 ⟨e,HI he,h⟩
def aF(x:UInt8):ae:=x::aB 31 0
def vo(x y:UInt8):ae:=x::y::aB 30 0
def Q6(u:UV):(a7 u.parts).toList=By u.id++(.int .i64 u.ver::(By u.key++By u.sig)):=by show(a7 [bz.agg 32 (By u.id).toArray,.one (.v (.int .i64 u.ver)),.agg 32 (By u.key).toArray,.agg 64 (By u.sig).toArray]).toList=_;rw [lE,lE,lE,lE];simp [bz.cells,a7,eK.den]
theorem L9{g t off n:Nat}{cs:ct}{l:ae}{w:yp}(hb:bB w g t cs)(hl:l.length=n)(hm:n<=9223372036854775807)(hc:∀(j:Nat) v,(By l)[j]?=some v->cs[off+j]?=some v):ar 1 aY (some ⟨g,off,none⟩) n l w:=by
 refine⟨vF hl,hm,λh=>(by cases h),mK l,λ_=>⟨g,off,rfl,hb.lt,λi x hi j v hj=>?_⟩⟩;cases j with
 | zero =>
  have e:v = .int .u8 (x.toNat:Int):=(jm ((show(aY x).cp[0]?=some (.int .u8 (x.toNat:Int)) from rfl).symm.trans hj)).symm;rw [hb.cell,e,qI,jP];exact hc i _ (by simp [By,hi])
 | succ j =>
  have:(aY x).cp[j+1]?=none:=rfl;rw [this] at hj
  cases hj
def Q7{g t:Nat}{u:UV}{w:yp}(hu:u.aI)(h:ij g t u.parts w):ar 1 aY (some ⟨g,0,none⟩) 32 u.id w/\ar 1 aY (some ⟨g,33,none⟩) 32 u.key w/\ar 1 aY (some ⟨g,65,none⟩) 64 u.sig w:=by
 have l1:(By u.id).length=32:=by rw [dH,hu.id]
 have l3:(By u.key).length=32:=by rw [dH,hu.key]
 have at_:∀j,(a7 u.parts)[j]?=(By u.id++(.int .i64 u.ver::(By u.key++By u.sig)))[j]?:=λj=>by rw [<-Array.getElem?_toList,Q6]
 refine⟨L9 h.1 hu.id (by decide) λj v hj=>?_,L9 h.1 hu.key (by decide) λj v hj=>?_,L9 h.1 hu.sig (by decide) λj v hj=>?_⟩
 .have al:=(eY.1 hj).1;rw [at_,dI,uk al];exact hj
 .have al:=(eY.1 hj).1;rw [at_,rz (by omega),l1,show 33+j-32=j+1 by omega,PZ,uk al];exact hj
 .rw [at_,rz (by omega),l1,show 65+j-32=(32+j)+1 by omega,PZ,rz (by omega),l3,xD];exact hj
def Qr(g:Nat){A:aO}{c:Nat}(s:cf):Spec 77 [ptr g] [eF g A c s] (ar 1 aY A c s.1)
  { ret:=λ_:wg=>.q (aw 32 (lh s)),own:=λx=>[eF g x.1 x.2 (dM s)],p:=λx=>ar 1 aY x.1 x.2 (dM s).1 }:=by
 refine bA [.c (.v (ptr g))] 9 func77 rfl λb=>?_;have hl:=(Gd 32 s).1
 have ep:lS 32 s++(aB 32 (0:UInt8)).drop (lS 32 s).length=lh s:=by unfold lh LQ;rw [List.drop_replicate]
 refine ag rfl (ag rfl (ao λK hK=>F8 3 [] (λ_ _ _ _ h=>by cases h) (yD (.s 3 0 32 32) 0 rfl rfl rfl (nv rfl dp rfl rfl) (vd an 1 rfl rfl rfl rfl (λ_ h=>by cases h) (Bw 2 rfl λK1 aS=>er [ptr g,.int .i64 ((32:Nat):Int)] (hf:=PV) rfl (QT g s 32) (λw h _=>h) λ⟨A1,c1,A2,c2⟩=>dz [eF g A2 c2 (dM s)] rfl (ah (aS _ (λ_ _ _ _ h=>by cases h) (Bx (H7 (z:=aB 32 0) rfl rfl rfl rfl rfl List.length_replicate hl (dX λw h _=>h.1.1) ?_)))))))));rw [ep];refine ah (hK _ (ag rfl ?_));exact aJ (bE (A2,c2) rfl (λw h _=>h.1.2) au)
def aE2{u:UV}(h:ch (dT u).fA):u.aI:=by have h1:=(h (.agg 32 (By u.id).toArray) (by simp [aL.fA,UV.parts])).1;have h2:=(h (.agg 32 (By u.key).toArray) (by simp [aL.fA,UV.parts])).1;have h3:=(h (.agg 64 (By u.sig).toArray) (by simp [aL.fA,UV.parts])).1;rw [fx,dH] at h1 h2 h3;exact⟨h1,h2,h3⟩
def WA{A:aO}{c:Nat}{us:cS}{w:yp}(h:ar 129 dT A c us w):∀u∈us,u.aI:=λu hu=>aE2 (h.2.2.2.1 u hu).1
abbrev Wt(gu gb:Nat)(u:UV):lU:=[⟨some ⟨gu,0,none⟩,32,u.id⟩,⟨some ⟨gb,0,none⟩,(mu u.ver u.key).length,mu u.ver u.key⟩,⟨some ⟨gu,65,none⟩,64,u.sig⟩]
def aq1{A:aO}{c:Nat}(us:cS)(hl:us.length<=65536):Spec 62 [.slice A us.length c] [] (ar 129 dT A c us) (FG (fk us)):=by
 refine bA [.c (.v (.slice A us.length c))] 32 func62 rfl λb=>?_;refine lQ (∀u∈us,u.aI) (λw h _=>WA h) λbx=>?_;have xK:=Ej bx;refine ag rfl (aA rfl λK1 aS=>ca 8 (us.length:Int) rfl (zN rfl (by omega) (by omega)) (bY [.slice none ([]:ae).length 0,.int .u64 (us.length:Int)] (hf:=Iw) rfl (I2 [] us.length (by omega) (by decide)) (λ_ _ _=>ar.nil _ _ _) λgc=>?_));rw [lD];refine jC an b.B.heap.size [⟨some ⟨gc,0,none⟩,(br us.length).length,br us.length⟩] (fe:=kg) rfl rfl rfl (λ_=>rfl) rfl (Cz _) (aQ _) λP=>aj rfl (ah (aS _ (ao λK2 aM=>ag rfl (a8 ?_))));let F:Nat×lU×aO×Nat->Env:=λ⟨i,ss,PA,cx⟩=>⟨[(13,.aT i),(12,.aT us.length),(11,.v (.slice A us.length c)),(3,.v (.slice PA ss.length cx))],[],[bL b.B.heap.size 39 1 kg PA cx ss],λw=>(∀s∈ss,s.rd w)/\ar 129 dT A c us w,λ_=>True⟩;refine cI (e':=F (0,[⟨some ⟨gc,0,none⟩,(br us.length).length,br us.length⟩],P,1)) ⟨dB rfl, trivial, .refl _,λw h hM=>⟨λs hs=>by rw [bU.1 hs];exact hM.1,h.2⟩, au⟩
  (cY (λx=>us.length-x.1) F (λx=>x.1<=us.length/\(x.2.1.map cC.l).flatten=br us.length++((us.take x.1).map jE).flatten/\x.2.1.length=1+3*x.1) ?_ (0,[⟨some ⟨gc,0,none⟩,(br us.length).length,br us.length⟩],P,1) ⟨bl _,by simp,rfl⟩)
 rintro⟨i,ss,PA,cx⟩ ⟨hi,xU,E6⟩;dsimp only at hi xU E6;refine ag rfl (ao λK3 bu=>?_);refine bn ((i:Int)<(us.length:Int)) rfl (λal=>?_) (λcW=>?_)
 .have al:i<us.length:=by omega
  obtain⟨u,hu⟩:∃u,us[i]?=some u:=⟨_,da al⟩;have fT:=bx u (eg hu);have jB:=ahW hu;refine aR (bu _ (ao λK4 bW=>a8 (aA rfl λK5 bN=>jh an rfl rfl rfl i rfl hu rfl rfl (dX λ_ h _=>h.2) (aj rfl (ah (rL 5 rfl (E':=[(13,.aT i),(12,.aT us.length),(11,.v (.slice A us.length c)),(3,.v (.slice PA ss.length cx))]) ⟨rfl,rfl,rfl,rfl,trivial⟩ λgu=>bN _ (Bf 0 rfl ?_)))))));refine lv [0,1,2,3,4,5,6,8,9] 11 2 (λw=>iV [] w/\ij gu 68 u.parts w) rfl (sG (λ_ h=>by cases h) λ_ h _=>h.1) ?_;refine cK (L0:=[]) 0 rfl (λ_ h=>by cases h) (λ_ h=>h.1) (cK (L0:=[]) 1 rfl (λ_ h=>by cases h) (λ_ h=>h.1) (kp (.v (cj gu 32 32)) 2 rfl rfl rfl (yg (off:=0) rfl dp rfl rfl) (cK (L0:=[]) 3 rfl (λ_ h=>by cases h) (λ_ h=>h.1) (DO an 4 rfl rfl rfl rfl rfl fT.ig (λ_ h=>h.2) (cK (L0:=[]) 5 rfl (λ_ h=>by cases h) (λ_ h=>h.1) (DO an 6 rfl rfl rfl rfl rfl fT.ig (λ_ h=>h.2) (cK (L0:=[]) 8 rfl (λ_ h=>by cases h) (λ_ h=>h.1) (kp (.v (.slice (some ⟨gu,65,none⟩) 64 64)) 9 rfl rfl rfl (yg (off:=65) rfl AZ rfl rfl) ?_))))))));refine eN 7 rfl λK6 cr=>?_;refine bY [.int .i64 u.ver,.agg (By u.key).toArray] rfl (SX u.ver fT.key) aD λgb=>ah (cr _ (sG (λ_ h=>by cases h) λ_ h _=>h.2.1) ?_);refine eN 10 rfl λK7 df=>?_;refine me 19 (.v (cj gu u.id.length 32)) rfl (by rw [fT.id]) (me 26 (.v (.slice (some ⟨gu,65,none⟩) u.sig.length 64)) rfl (by rw [fT.sig]) (jC an b.B.heap.size (Wt gu gb u) (fe:=kg) rfl rfl rfl (λ_=>rfl) rfl (Cz _) (aQ _) λP2=>ah (df _ (sG (λ_ h=>by cases h) λ_ h _=>h.2.1) (kQ [11,12] rfl (iU 0 rfl (mc an 0 (Wt gu gb u) rfl rfl rfl rfl rfl rfl rfl (dX λw h _=>h.1) (by rw [E6];show(_+3)*24<=_;omega) (by rw [E6];show _+3<=_;omega) (aQ _) λPA' pc'=>aj rfl (ah (bW _ (cE rfl ?_)))))))));exact cH (i+1,ss++Wt gu gb u,PA',pc') ⟨al,by show(List.map cC.l (ss++_)).flatten=_;rw [jl,Ag,xU,jB,ei];simp [jE],by show(ss++_).length=_;rw [aV,E6];show 1+3*i+3=1+3*(i+1);omega⟩ (by show _-(i+1)<_-i;omega) ⟨⟨pC (by omega) (by omega),rfl,rfl,rfl,trivial⟩,trivial,.refl _,λw h hM=>by
   have hr:=Q7 fT h.2.2.1;refine⟨λs hs=>?_,h.2.2.2.2⟩;rcases iA.1 hs with hs|hs
   .exact h.2.2.2.1 s hs
   .rcases bT.1 hs with rfl|hs
    .exact hr.1
    .rcases bT.1 hs with rfl|hs
     .exact hM.1
     .rw [bU.1 hs];exact hr.2.2, au⟩
 .obtain rfl:us.length=i:=by omega
  have e0:(List.map cC.l ss).flatten=fk us:=by rw [xU,kW];rfl
  have hj:=HP (A:=PA) (c:=cx) ss (by rw [e0];omega);rw [e0] at hj;refine cG (a6 (a6 (cF (aM _ (mQ 0 rfl (aA rfl λK8 gw=>bY [.slice PA ss.length cx] (hf:=Is) rfl hj (λw h _=>⟨h.1,h.2.1⟩) λgb=>aj rfl (ah (gw _ ?_))))))));exact aJ (bE gb rfl aD (λw h=>h.1))
def ayH{A:aO}{c:Nat}(us:cS)(hl:us.length<=65536):Spec 32 [.slice A us.length c] [] (ar 129 dT A c us) (ah5 (fk us)):=by
 refine bA [.c (.v (.slice A us.length c))] 36 func32 rfl λb=>?_;refine lQ (∀u∈us,u.aI) (λw h _=>WA h) λbx=>?_;refine ag rfl (aA rfl λK1 aS=>ca 8 (us.length:Int) rfl (zN rfl (by omega) (by omega)) (bY [.int .u64 (us.length:Int)] (hf:=It) rfl (Spec.avA (F:=λ_=>True) λw _=>VF us.length w (by omega)) aD λ⟨B,d⟩=>dz [bL 0 5 1 aY B d (br us.length)] rfl (aj rfl (ah (aS _ (ao λK2 aM=>ag rfl (a8 ?_)))))));let X:Nat->ae:=λi=>br us.length++((us.take i).map jE).flatten;have Zi:X 0=br us.length:=by simp [X]
 let F:Nat×aO×Nat->Env:=λ⟨i,B,d⟩=>⟨[(12,.aT i),(11,.aT us.length),(10,.v (.slice A us.length c)),(3,.v (.slice B (X i).length d))],[],[bL 0 5 1 aY B d (X i)],ar 129 dT A c us,λ_=>True⟩;refine cI (e':=F (0,B,d)) ⟨⟨rfl,rfl,rfl,by show dG _ 3=some (.v (.slice B (X 0).length d));rw [Zi];rfl,trivial⟩,trivial,by show kR _ [bL 0 5 1 aY B d (X 0)];rw [Zi],λ_ h _=>h.2, au⟩ (cY (λx=>us.length-x.1) F (λx=>x.1<=us.length) ?_ (0,B,d) (bl _));rintro⟨i,B,d⟩ hi;dsimp only at hi;have SL:∀i,i<=us.length->(X i).length=8+136*i:=λi hi=>by show(br us.length++((us.take i).map jE).flatten).length=_;rw [aV,nQ,Wx λu hu=>bx u (HI hu),du];omega
 have hx:=SL i hi;refine ag rfl (ao λK3 bu=>?_);refine bn ((i:Int)<(us.length:Int)) rfl (λal=>?_) (λcW=>?_)
 .have al:i<us.length:=by omega
  obtain⟨u,hu⟩:∃u,us[i]?=some u:=⟨_,da al⟩;have fT:=bx u (eg hu);have jB:X (i+1)=X i++u.id++br (mT u.ver)++u.key++u.sig:=by show br us.length++((us.take (i+1)).map jE).flatten=br us.length++((us.take i).map jE).flatten++_++_++_++_;rw [ahW hu];simp [jE,mu]
  have yS:=nQ (mT u.ver);have hid:=fT.id;have vx:=fT.key;have Hy:=fT.sig;generalize X i=xi at *;refine aR (bu _ (ao λK4 bW=>a8 (aA rfl λK5 bN=>jh an rfl rfl rfl i rfl hu rfl rfl (dX λ_ h _=>h) (aj rfl (ah (rL 5 rfl (E':=[(12,.aT i),(11,.aT us.length),(10,.v (.slice A us.length c)),(3,.v (.slice B xi.length d))]) ⟨rfl,rfl,rfl,rfl,trivial⟩ λgu=>bN _ (Bf 0 rfl (aA rfl λK6 cr=>b6 (.v (cj gu 32 32)) rfl (yg (off:=0) rfl dp rfl rfl) (me 18 (.v (cj gu u.id.length 32)) rfl (by rw [fT.id]) (mc an 0 u.id (fe:=aY) rfl rfl rfl rfl rfl rfl rfl (dX λw h _=>(Q7 fT h.1).1) (by rw [hx,hid];show(_+32)*1<=_;omega) (by omega) (bl _) λB1 d1=>aj rfl (ah (cr _ (aA rfl λK7 df=>gE rfl (kP λw h _=>h.1) (aj rfl (ca 23 (mT u.ver:Int) rfl (ahH u.ver) (bY [.int .u64 (mT u.ver:Int)] (hf:=It) rfl (Mb (mT u.ver) (Wr _)) aD λgn=>mc an 0 (br (mT u.ver)) (fe:=aY) rfl rfl rfl rfl rfl rfl rfl (dX λw _ hM=>hM.1) (by rw [aV,hx,hid,yS];show(_+8)*1<=_;omega) (by rw [aV];omega) (bl _) λB2 d2=>aj rfl (ah (df _ (aA rfl λK8 gw=>b6 (.v (.slice (some ⟨gu,33,none⟩) 32 32)) rfl (yg (off:=33) rfl dp rfl rfl) (me 28 (.v (.slice (some ⟨gu,33,none⟩) u.key.length 32)) rfl (by rw [fT.key]) (mc an 0 u.key (fe:=aY) rfl rfl rfl rfl rfl rfl rfl (dX λw h _=>(Q7 fT h.2.1).2.1) (by rw [aV,aV,hx,hid,yS,vx];show(_+32)*1<=_;omega) (by rw [aV,aV];omega) (bl _) λB3 d3=>aj rfl (ah (gw _ (ef (aj rfl (b6 (.v (.slice (some ⟨gu,65,none⟩) 64 64)) rfl (yg (off:=65) rfl AZ rfl rfl) (me 32 (.v (.slice (some ⟨gu,65,none⟩) u.sig.length 64)) rfl (by rw [fT.sig]) (mc an 0 u.sig (fe:=aY) rfl rfl rfl rfl rfl rfl rfl (dX λw h _=>(Q7 fT h.2.1).2.2) (by rw [aV,aV,aV,hx,hid,yS,vx,Hy];show(_+64)*1<=_;omega) (by rw [aV,aV,aV];omega) (bl _) λB4 d4=>aj rfl (ah (bW _ (cE rfl ?_)))))))))))))))))))))))))))))));exact cH (i+1,B4,d4) al (by show _-(i+1)<_-i;omega) ⟨⟨pC (by omega) (by omega),rfl,rfl,by show dG _ 3=some (.v (.slice B4 (X (i+1)).length d4));rw [jB];rfl,trivial⟩,trivial,by show kR _ [bL 0 5 1 aY B4 d4 (X (i+1))];rw [jB];exact .refl _,λ_ h _=>h.2.2, au⟩
 .obtain rfl:us.length=i:=by omega
  have e0:X us.length=fk us:=by show br us.length++((us.take us.length).map jE).flatten=_;rw [kW];rfl
  refine cG (a6 (a6 (cF (aM _ ?_))));rw [e0];refine mQ 0 rfl (ag rfl ?_);exact aJ (bE (B,d) rfl (λw h _=>h.1) au)
def arA(g:Nat){A:aO}{c:Nat}(s:cf):Spec 113 [ptr g] [eF g A c s] (ar 1 aY A c s.1)
  { ret:=λ_:wg=>.t [dT (uY s),.c (.v (.int .u64 (uZ s:Int)))],own:=λx=>[eF g x.1 x.2 (sZ s)],p:=λx=>ar 1 aY x.1 x.2 (sZ s).1 }:=by
 refine bA [.c (.v (ptr g))] 22 func113 rfl λb=>?_;have xL:=ED s;have He:=ED (ko (dM s));have hh3:=agD (dM (ko (dM s)));have e1:uY s=⟨lh s,IntKind.i64.wrap (uZ s:Int),lh (ko (dM s)),yh (dM (ko (dM s)))⟩:=rfl;have e2:sZ s=zG (dM (ko (dM s))):=rfl;refine ag rfl (aA rfl λK1 aS=>er [ptr g] rfl (Qr g s) (λw h _=>h) λ⟨A1,c1⟩=>dz [eF g A1 c1 (dM s)] rfl ?_);generalize lh s=h1 at *;refine aj rfl (ah (aS _ (aA rfl λK2 aM=>er [ptr g] rfl (aeX g (dM s)) (λw h _=>h.1) λ⟨A2,c2⟩=>dz [eF g A2 c2 (ko (dM s))] rfl (me 10 (.v (.int .u64 (uZ s:Int))) rfl rfl ?_))));generalize uZ s=uv at *;refine aj rfl (ah (aM _ (aA rfl λK3 bu=>er [ptr g] rfl (Qr g (ko (dM s))) (λw h _=>h.1) λ⟨A3,c3⟩=>dz [eF g A3 c3 (dM (ko (dM s)))] rfl ?_)));generalize lh (ko (dM s))=h2 at *;refine aj rfl (er [ptr g] rfl (azJ g (dM (ko (dM s)))) (λw h _=>h.1) λ⟨A4,c4⟩=>dz [eF g A4 c4 (zG (dM (ko (dM s))))] rfl ?_);generalize yh (dM (ko (dM s)))=h3 at *;refine aj rfl (ah (bu _ (ag rfl ?_)));exact aJ (dk an (A4,c4) rfl rfl (by show cM.t [dT (uY s),.c (.v (.int .u64 (uv:Int)))]=_;rw [e1];rfl) rfl (λw h _=>h.1) au)
def anM{s:cf}(h:kG s=10):s.2≠0:=λh0=>by unfold kG Nr at h;rw [if_pos h0] at h;split at h<;>cases h
abbrev al9(us:cS)(e:Nat):fm ly:={ ret:=λx=>.t [.c (.v (.slice x.1 us.length x.2)),.c (.v (.int .i64 (e:Int)))],p:=λx=>ar 129 dT x.1 x.2 us }
def ar2{A:aO}{c:Nat}(l:ae)(hl:l.length<=281474976710656):Spec 81 [.slice A l.length c] [] (ar 1 aY A c l) (al9 (mE l) (ma l)):=by
 refine bA [.c (.v (.slice A l.length c))] 46 func81 rfl λb=>ag rfl (aA rfl λK1 aS=>bY [.slice A l.length c] rfl (aeP l hl) (λw h _=>h) λ⟨g,g0⟩=>aj rfl (ah (aS _ (aA rfl λK2 aM=>dz [eF g (some ⟨g0,0,none⟩) l.length (l,0)] rfl (er [ptr g] rfl (VA g (l,0)) (λw _ h=>h.1) λ⟨A1,c1⟩=>dz [eF g A1 c1 (iL l)] rfl (aj rfl (ah (aM _ ?_))))))));obtain⟨n,hn⟩:∃n,n=vz l:=⟨_,rfl⟩;have Tw:n<=65536:=by rw [hn];exact Im _ _
 have hn':kO 65536 (l,0)=n:=hn.symm;rw [hn'];refine ag rfl (ag rfl (pF 0 68 129 dT (ao λK3 bu=>ag rfl (a8 ?_))));let F:Nat×wg×ly->Env:=λ⟨i,r,x⟩=>⟨[(8,.aT i),(5,.aT n),(4,.v (ptr g)),(6,.v (.slice x.1 (u6 (iL l) i).length x.2)),(7,.v (.int .u64 (zq (iL l) i:Int)))],[],[eF g r.1 r.2 (iM (iL l) i),bL 0 68 129 dT x.1 x.2 (u6 (iL l) i)],ar 1 aY r.1 r.2 (iM (iL l) i).1,λ_=>True⟩;have uy:∀(i:Nat) (r:wg) (x:ly),i<=n->((iM (iL l) i).2≠0\/i=n)->∀e,gj e (F (i,r,x))->cl b K3 46 e:=by
  intro i r x hi hor e hw;refine ft hw (bu _ ?_);obtain⟨he,hkn⟩:=aqZ (l:=l) (k:=i) (by omega) (by rw [hn] at hor;exact hor);have gA:=Qs g (A:=r.1) (c:=r.2) (iM (iL l) i);rw [he] at gA;refine ao λK4 bW=>aA rfl λK5 bN=>er [ptr g] rfl gA aD λ_=>aj rfl (ah (bN _ (ag rfl ?_)));refine bn ((kG (y9 l):Int)≠0) rfl (λh1=>?_) (λh1=>?_)
  .have e3:ma l=kG (y9 l):=by unfold ma;rw [if_neg (by omega)]
   have e4:mE l=[]:=by unfold mE;rw [if_neg (by omega)]
   refine ag rfl ?_;exact aJ (lN 0 rfl (lN 0 rfl (dk an (none,0) rfl rfl (by show cM.t [.c (.v (.slice none (mE l).length 0)),.c (.v (.int .i64 (ma l:Int)))]=_;rw [e3,e4];rfl) rfl (λw _ _=>by show ar 129 dT none 0 (mE l) w;rw [e4];exact ar.nil _ _ _) au)))
  have h1:kG (y9 l)=0:=by omega
  have iD:=hkn h1;refine aR (bW _ (ao λK6 cr=>ag rfl ?_));refine bn ((zq (iL l) i:Int)>64) rfl (λh2=>?_) (λh2=>?_)
  .have e3:ma l=13:=by unfold ma;rw [if_pos h1,<-iD,if_pos (by omega)]
   have e4:mE l=[]:=by unfold mE;rw [if_neg (by omega)]
   refine ag rfl ?_;exact aJ (lN 0 rfl (lN 0 rfl (dk an (none,0) rfl rfl (by show cM.t [.c (.v (.slice none (mE l).length 0)),.c (.v (.int .i64 (ma l:Int)))]=_;rw [e3,e4];rfl) rfl (λw _ _=>by show ar 129 dT none 0 (mE l) w;rw [e4];exact ar.nil _ _ _) au)))
  .have e3:ma l=0:=by unfold ma;rw [if_pos h1,<-iD,if_neg (by omega)]
   have e4:mE l=u6 (iL l) i:=by unfold mE;rw [if_pos e3,<-iD]
   refine aR (cr _ (mQ 1 rfl (ag rfl ?_)));exact aJ (lN 0 rfl (dk an x rfl rfl (by show cM.t [.c (.v (.slice x.1 (mE l).length x.2)),.c (.v (.int .i64 (ma l:Int)))]=_;rw [e3,e4];rfl) rfl (λw h _=>by show ar 129 dT x.1 x.2 (mE l) w;rw [e4];exact h.1) au))
 refine cI (e':=F (0,(A1,c1),(none,0))) ⟨⟨rfl,rfl,rfl,rfl,rfl,trivial⟩,trivial,(List.perm_append_comm (l₁:=[_]) (l₂:=[_])),λ_ h _=>h.1, au⟩ (cY (λx=>n-x.1) F (λx=>x.1<=n) ?_ (0,(A1,c1),(none,0)) (bl _));rintro⟨i,r,x⟩ hi;dsimp only at hi;have TU:=ahX (iL l) i;refine ao λK4 bW=>aA rfl λK5 bN=>?_;by_cases al:¬(i:Int)<(n:Int)
 .refine pd 19 false rfl (decide_eq_false al) ?_;refine aj rfl (ah (bN _ (dY rfl (cG (a6 (a6 (cF ?_)))))));exact uy i r x hi (.inr (by omega)) _ (hv rfl rfl rfl)
 have hlt':i<n:=by omega
 refine pd 19 true rfl (decide_eq_true (by omega)) (aj rfl (er [ptr g] rfl (Qs g (A:=r.1) (c:=r.2) (iM (iL l) i)) aD λ_=>dz [eF g r.1 r.2 (iM (iL l) i),bL 0 68 129 dT x.1 x.2 (u6 (iL l) i)] rfl (aj rfl (ah (bN _ ?_)))));refine bn ((kG (iM (iL l) i):Int)≠10) rfl (λh0=>?_) (λh0=>?_)
 .refine aR (bW _ ?_);refine ao λK6 cr=>a8 (aA rfl λK7 df=>er [ptr g] rfl (arA g (iM (iL l) i)) (λw h _=>h.2) λ⟨A2,c2⟩=>dz [eF g A2 c2 (iM (iL l) (i+1)),bL 0 68 129 dT x.1 x.2 (u6 (iL l) i)] rfl ?_);have TB:=ahV (iM (iL l) i);have og:=ahY (iL l) i;have Kz:zq (iL l) (i+1)=max (zq (iL l) i) (uZ (iM (iL l) i)):=rfl;generalize uY (iM (iL l) i)=u at *;generalize uZ (iM (iL l) i)=uv at *;refine aj rfl (ah (df _ (aA rfl λK8 gw=>lq an 1 u rfl rfl rfl rfl rfl rfl rfl (GM TB) (by rw [TU];show(_+1)*136<=_;omega) (by omega) (bl _) λB' d'=>?_)));rw [<-og];refine aj rfl (ah (gw _ (ef (aj rfl (b6 (.v (.int .u64 ((max (zq (iL l) i) uv:Nat):Int))) rfl (aA7 rfl rfl rfl) (aj rfl (ah (cr _ (cE rfl ?_)))))))));exact cH (i+1,(A2,c2),(B',d')) hlt' (by show n-(i+1)<n-i;omega) ⟨⟨pC (by omega) (by omega),rfl,rfl,rfl,by show dG _ 7=some (.v (.int .u64 (zq (iL l) (i+1):Int)));rw [Kz];rfl,trivial⟩,trivial,.refl _,λ_ h _=>h.1, au⟩
 .refine cG (a6 (a6 (cF ?_)));exact uy i r x hi (.inl (anM (by omega))) _ (fC rfl rfl rfl λ_ h _=>h.2)
def cD.parts(g:cD):cJ:=[.agg 32 (By g.id).toArray,.one (.v (.slice g.k.A g.k.l.length g.k.c)),.one (.v (.slice g.U g.more.length g.u))]
abbrev fN(g:cD):aL:=.p g.parts
def cD.ig(g:cD):ch g.parts:=λp hp=>by
 simp only [cD.parts,bT,List.not_mem_nil,or_false] at hp;rcases hp with rfl|rfl|rfl
 .exact(cq g.fl).1 _ (bU.2 rfl)
 .exact⟨trivial,rfl,rfl⟩
 .exact⟨trivial,rfl,rfl⟩
def yH(g:cD):ch (fN g).fA/\(fN g).cp.length=34:=⟨g.ig,by rw [aL.cp,show(fN g).den.cells=a7 g.parts from rfl,Array.length_toList,ch.size g.ig];rfl⟩
def cD.rd(g:cD)(w:yp):Prop:=g.k.rd w/\ar 129 dT g.U g.u g.more w
instance{g:cD}:dc g.rd:=⟨λ_ _ h hb=>⟨dc.later (p:=g.k.rd) _ _ h.1 hb,h.2.later hb⟩⟩
abbrev FK:cD:=⟨aB 32 0,by decide,Cv,none,0,[]⟩
abbrev nL:nK ae cD:={ t:=126,kt:=47,vt:=60,kv:=aw 32,vv:=fN }
def M0:nL.aI iF where
 und:=underlying126
 keyed:=Zr
 key _ h:=Zq h
 inj _ _ h:=Xk h
theorem av2:∀w,(zeroValue nL.vt).run prog w = .ok (nL.V FK) w:=λw=>by
 have hi:(prog.info? 60).bind (·.zero)=some (nL.V FK):=by kernel_rfl
 unfold zeroValue typeInfo;cases h:prog.info? 60 with
 | none=>rw [h] at hi;cases hi
 | some i =>
  rw [h] at hi;have hi:i.zero=some (nL.V FK):=hi
  simp [h,hi]
def Yj(g:cD):(nL.vv g).aI:=g.ig
section
variable{N:Nat}{E:aG}{L:aH}{R:bF}{F M:aE}{o:Oper}{x y:Operand}
theorem azO{m n:Nat}{f:ae->Option cD}(hA:∀G S w,View G S L R F M w->yz nL iF m n f w)(k:ae)(hk:k.length=32)(ho:o.op = .lookup nL.t x y true)(hx:aP E x=some (.v (.map (some m))))(hy:aP E y=some (.q (aw 32 k))) :
  ∀(G:aK) (S:cn) (a:Act) (w:yp),Fr N (bG G E) a->View G S L R F M w->(execOp a.eval o).run prog w = .ok (.value ((aq.t [fN ((f k).getD FK),.c (.b (f k).isSome)]).den G)) w:=by
 cases hs:f k with
 | none=>exact afA M0 hA k FK hk hs av2 ho hx hy
 | some s=>exact af8 M0 hA k s hk hs ho hx hy
end
theorem R7:∀{a b:ae},eP a b=true->dF b a=1
 | [],_,h=>by cases h
 | _::_,[],h=>by cases h
 | x::a,y::b,h=>by
  unfold eP at h;unfold dF;by_cases e:x=y
  .subst e;rw [if_pos rfl] at h;rw [if_neg (aT x),if_neg (aT x)];exact R7 h
  .rw [if_neg e] at h;have h:x.toNat<y.toNat:=of_decide_eq_true h;rw [if_neg (λh2:y<x=>by have:=oF.1 h2;omega),if_pos (oF.2 h)]
def am0(l:ae):Lib.bytesOf (l.map λx=>(x.toNat:Int))=l:=by
 unfold Lib.bytesOf;rw [qB]
 conv=>rhs;rw [<-List.map_id l]
 refine Ab λx _=>?_;show bX ((x.toNat:Int).toNat)=x;simp
def afC{P:Program}{w:yp}{g o c:Nat}{l:ae}(h:w.rangeAt g o (By l)):(j9 (.slice (some ⟨g,o,none⟩) l.length c)).run P w = .ok ⟨l.toArray⟩ w:=by have h1:=Lib.run_loadBytesX (P:=P) w (l.map λx=>(x.toNat:Int)) ⟨g,o,none⟩ .empty (λj x hj=>by rw [Addr.add_mid];rw [lC] at hj;obtain⟨y,hy,rfl⟩:=Option.map_eq_some_iff.1 hj;exact h j _ (by unfold By;rw [lC,hy];rfl));rw [am0,dL] at h1;unfold j9;rw [h1];simp
def azZ{P:Program}{w:yp}{g o c g' o' c':Nat}{l m:ae}(h:w.rangeAt g o (By l))(h':w.rangeAt g' o' (By m)):(jA #[.slice (some ⟨g,o,none⟩) l.length c,.slice (some ⟨g',o',none⟩) m.length c']).run P w = .ok (.int .i64 (dF l m)) w:=by
 have e:∀A B:Value,jA #[A,B]=(do
  let a <-j9 A
  let b <-j9 B
  pure (goInt (Extern.BytealgCompare.cmp a b))):=λ_ _=>rfl
 rw [e];simp only [bI,afC h,afC h',bS,bM,Lib.cmp_eq];rfl
def aA1{N:Nat}{E:aG}{o:Oper}{f:FuncId}{xs:na}{ats:mX}{svs:nH}{v:Value}{w:yp}{G:aK}{a:Act}(ha:Fr N (bG G E) a)(ho:o.op = .call { callee:=.value (.func f),args:=xs,argTypes:=ats })(hx:lg E xs.toList=some svs)(ab:(callFunc f (svs.map (aq.den G)).toArray).run prog w = .ok (.value v) w) :
  (execOp a.eval o).run prog w = .ok (.value v) w:=by
 have h2:=ya (args:=(svs.map (aq.den G)).toArray) (ha.Af _ _ (by rw [vh hx]));obtain⟨dst,op,ty,pos,af,gd⟩:=o;simp only at ho;subst ho
 unfold execOp
 simp only [resolve,Act.eval,h2,Deferred.ofValue,bI,bM,bS,invoke]
 simpa using ab
abbrev aHR:=Nat×dD
section
variable{b:bO}{ops:aZ}{Q:bK}{N:Nat}{E:aG}{L:aH}{R:bF}{F M:aE}{G:aK}{S:cn}{w0:yp}{T':aN}{Fa:Told}{i k:Nat}{o:Oper}{rest:List (Nat×Oper)}
def apT{F':aE}{f:FuncId}{y:Operand}{xs:na}{ats:mX}{svs:nH}{caps:cU}{r:cM}[dc F'](aa:bj b G S L R F M w0)(args:cU)(hf:mw i Fa=true)(hq:di o k N)(how:Own f)(ho:o.op = .call { callee:=.value y,args:=xs,argTypes:=ats })(hy:aP E y=some (.v (.func (.func f) #[] caps.toArray)))(hx:lg E xs.toList=some svs)
 (ha:svs.map (aq.den G)++caps=args)(hr:r.eJ.aI)(hs:Spec f args [] F' (one r))(hF:∀G S w,View G S L R F M w->F' w)
 (hn:bm prog ops Q N T' G w0 rest ((k,r.eJ)::E) Fa):bm prog ops Q N T' G w0 ((i,o)::rest) E Fa:=by
 refine G1 aa r.eJ hr hf (λC0 Q' hC hQ=>λa ha'=>?_) hn;rw [cM.ql] at hQ;refine Na (f:=f) (args:=args.toArray) (v:=r.den) (by simp [Region.wanted,(eB hq)]) (λw hw=>(hs w (λ_=>False) (λ_=>False) (λ_ h=>h) (λ_ h=>h.elim) (iu.DM (hF _ _ _ (hC w hw).1) λ_ _ h=>h.elim id id)).mono λ_ _ ⟨_,_,h1,_,h2,_⟩=>⟨h1,h2.up λ_ _ h=>h⟩) (λw=>?_) (by rw [(eC hq)];exact hQ _ (ha'.put (dQ hq) _));have:=XQ (w:=w) how ho hy hx ha';rw [ha] at this;exact this
end
def vG:ae:=[0]++([1]++(aB 2 2++(aB 4 3++(aB 8 4++(aB 16 5++(aB 32 6++(aB 64 7++aB 128 8)))))))
def au4:∀i,i<256->1<=i->1<=(vG[i]!).toNat:=by decide +kernel
def aA5{N:Nat}{E:aG}{o:Oper}{y:Operand}{s:ByteArray}{i:Nat}(ho:o.op = .index 9 (.const (.string s)) y)(hs:s=⟨vG.toArray⟩)(hi:i<256)(hy:aP E y=some (.v (.int .u8 (i:Int)))) :
  ∀(G:aK) (a:Act) (w:yp),Fr N (bG G E) a->(execOp a.eval o).run prog w = .ok (.value ((aq.v (.int .u8 ((vG[i]!).toNat:Int))).den G)) w:=λG a w ha=>by
 have h1:a.eval y = .int .u8 (i:Int):=ha.eval (bH hy);have h2:=run_index_string (P:=prog) w 9 s .u8 (i:Int) underlying9;subst hs
 have hl:vG.length=256:=by decide +kernel
 have h3:0<=(i:Int)/\(i:Int)<(ByteArray.mk vG.toArray).size:=⟨by omega,by show(i:Int)<(vG.toArray.size:Int);rw [fx,hl];omega⟩;rw [dif_pos h3] at h2
 have h4:((ByteArray.mk vG.toArray)[(i:Int).toNat]'(by omega))=vG[i]!:=by rw [getElem!_pos vG i (by omega)];rfl
 rw [h4] at h2;have h0:a.eval (.const (.string ⟨vG.toArray⟩)) = .string ⟨vG.toArray⟩:=rfl
 unfold execOp
 simp only [ho,h0,h1,bI,h2,bS,bM]
 rfl
abbrev Xn(n:Nat):={ r:Nat // (1<=n->1<=r)/\r<=255 }
def au3{n:Nat}(hn:n<256):Spec 189 [.int .u64 (n:Int)] [] (λ_=>True) { ret:=λr:Xn n=>.v (.int .i64 ((r.1:Nat):Int)),own:=λ_=>[] }:=by refine bA [.c (.v (.int .u64 (n:Int)))] 25 func189 rfl λb=>?_;refine ag rfl (ao λK1 aS=>ag rfl (bn ((n:Int)>=4294967296) rfl (λh=>absurd h (by omega)) (λ_=>aR (aS _ (ao λK2 aM=>ag rfl (bn ((n:Int)>=65536) rfl (λh=>absurd h (by omega)) (λ_=>aR (aM _ (ao λK3 bu=>ag rfl (bn ((n:Int)>=256) rfl (λh=>absurd h (by omega)) (λ_=>aR (bu _ (aA rfl λK4 bW=>ca 21 (n:Int) rfl (by show(n:Int)%256=n;omega) (b6 (.v (.int .u8 ((vG[n]!).toNat:Int))) rfl (aA5 rfl (by kernel_rfl) hn rfl) ?_))))))))))))));have hp:=au4 n hn;have hb:(vG[n]!).toNat<=255:=Nat.le_of_lt_succ (UInt8.toNat_lt _);generalize (vG[n]!).toNat=r at *;refine aj rfl (ca 2 (r:Int) rfl (by rw [jv (m:=(r:Int)) (r:=(r:Int)) rfl (by omega) (by omega)];exact jv (by omega) (by omega) (by omega)) ?_);exact ah (bW _ (aJ (bE ⟨r,hp,hb⟩ rfl aD au)))
def au5{n:Nat}(hn:n<256):Spec 137 [.int .u64 (n:Int)] [] (λ_=>True) { ret:=λr:Xn n=>.v (.int .i64 ((r.1:Nat):Int)),own:=λ_=>[] }:=by refine bA [.c (.v (.int .u64 (n:Int)))] 8 func137 rfl λb=>?_;refine ag rfl (ao λK1 aS=>dY rfl (aR (aS _ (aA rfl λK2 aM=>bY [.int .u64 (n:Int)] rfl (au3 hn) aD λr=>aj rfl (ah (aM _ ?_))))));exact aJ (bE r rfl aD au)
theorem R8:∀{a b:ae},eP a b=true->dF a b = -1
 | [],[],h=>by cases h
 | [],_::_,_=>rfl
 | _::_,[],h=>by cases h
 | x::a,y::b,h=>by
  unfold eP at h;unfold dF;by_cases e:x=y
  .subst e;rw [if_pos rfl] at h;rw [if_neg (aT x),if_neg (aT x)];exact R8 h
  .rw [if_neg e] at h;rw [if_pos (oF.2 (of_decide_eq_true h))]
theorem XW:∀a:ae,dF a a=0
 | []=>rfl
 | x::a=>by unfold dF;rw [if_neg (aT x),if_neg (aT x)];exact XW a
def aeL{A:aO}{c:Nat}{l:ae}{w:yp}(h:ar 1 aY A c l w)(h0:0<l.length):∃g o,A=some ⟨g,o,none⟩/\w.rangeAt g o (By l):=by obtain⟨g,o,e,_,hr⟩:=h.2.2.2.2 h0;refine⟨g,o,e,λj v ab=>?_⟩;have al:=(eY.1 ab).1;rw [dH] at al;have hx:l[j]?=some l[j]:=da al;have hr:=hr j l[j] hx 0 (.int .u8 (l[j].toNat:Int)) rfl;rw [qI,jP] at hr;rw [hr];rw [<-ab];simp [By,hx]
def XE{A B:aO}{c d:Nat}{l m:ae}(hl:0<l.length)(hm:0<m.length):Spec 37 [.slice A l.length c,.slice B m.length d] [] (λw=>ar 1 aY A c l w/\ar 1 aY B d m w) (one (.v (.int .i64 (dF l m)))):=by
 refine bA [.c (.v (.slice A l.length c)),.c (.v (.slice B m.length d))] 8 func37 rfl λb=>ag rfl (aA rfl λK hK=>?_);refine jq (.v (.int .i64 (dF l m))) rfl (λG S a w ha hw=>aA1 ha rfl rfl ?_) ?_
 .obtain⟨g1,o1,rfl,h1⟩:=aeL hw.fact.1 hl;obtain⟨g2,o2,rfl,h2⟩:=aeL hw.fact.2 hm;have h:=azZ (P:=prog) (c:=c) (c':=d) h1 h2;have h2:=run_callFunc_extern func83 (by kernel_rfl) (by kernel_rfl) (by kernel_rfl) (e:=jA) (by kernel_rfl) #[.slice (some ⟨g1,o1,none⟩) l.length c,.slice (some ⟨g2,o2,none⟩) m.length d] w;rw [h] at h2;exact h2
 refine aj rfl (ah (hK _ ?_));exact aJ (bE () rfl aD au)
def NK{g t:Nat}{x:cD}{w:yp}(h:ij g t x.parts w):ar 1 aY (some ⟨g,0,none⟩) 32 x.id w:=L9 h.1 x.fl (by decide) λj v hj=>by
 have e:(a7 x.parts).toList=By x.id++[.slice x.k.A x.k.l.length x.k.c,.slice x.U x.more.length x.u]:=by simp [a7,cD.parts,bz.cells,eK.den]
 rw [<-Array.getElem?_toList,e,dI,uk (eY.1 hj).1];exact hj
def ap9(x y:cD):Spec 58 [(fN x).den,(fN y).den] [] (λ_=>True) (one (.v (.int .i64 (dF x.id y.id)))):=by refine bA [fN x,fN y] 10 func58 rfl (ab:=dZ x.ig y.ig) λb=>?_;refine aA rfl λK0 jf=>aj rfl (OU 3 (E':=[(2,.a 2 0)]) rfl ⟨rfl,trivial⟩ λg3=>OX 0 rfl (OU 2 (E':=[(3,.v (eE g3))]) rfl ⟨rfl,trivial⟩ λg2=>OX 0 rfl (ah (jf _ ?_))));have hb:=XE (A:=some ⟨g2,0,none⟩) (B:=some ⟨g3,0,none⟩) (c:=32) (d:=32) (l:=x.id) (m:=y.id) (by rw [x.fl];decide) (by rw [y.fl];decide);rw [x.fl,y.fl] at hb;refine nw 5 λK hK G S w0 aa=>?_;refine dC aa rfl (ni aa (.v (cj g2 32 32)) rfl rfl (zF rfl dp rfl rfl) (dC aa rfl (ni aa (.v (cj g3 32 32)) rfl rfl (zF rfl dp rfl rfl) (vp (F':=λw=>ar 1 aY (some ⟨g2,0,none⟩) 32 x.id w/\ar 1 aY (some ⟨g3,0,none⟩) 32 y.id w) (r:=.v (.int .i64 (dF x.id y.id))) aa [cj g2 32 32,cj g3 32 32] rfl rfl rfl rfl (λ_=>rfl) trivial hb (λ_ _ _ ab=>⟨NK ab.fact.1,NK ab.fact.2.1⟩) (jR aa (aj rfl (ah (hK _ ?_))))))));exact aJ (bE () rfl aD au)
abbrev jw(A:aO)(c:Nat)(l:fJ):fS:=bL 0 60 34 fN A c l
abbrev sc:Value:=.func (.func 58) #[] #[]
abbrev uN(a b:cD):Prop:=eP a.id b.id=true
structure gF where
  p:fJ
  x:cD
  r:fJ
  q:fJ
def gF.l(s:gF):fJ:=s.p++s.x::(s.r++s.q)
structure gF.aI(vs:fJ)(i:Nat)(s:gF):Prop where
  perm:s.l.Perm vs
  i:s.p.length+s.r.length=i
  pr:(s.p++s.r).Pairwise uN
  xr:∀y∈s.r,uN s.x y
def gF.swap(p:fJ)(y x:cD)(r q:fJ):((gF.l ⟨p++[y],x,r,q⟩).set (p.length+1) y).set p.length x=gF.l ⟨p,x,y::r,q⟩/\((gF.l ⟨p++[y],x,r,q⟩).set p.length x).set (p.length+1) y=gF.l ⟨p,x,y::r,q⟩:=by constructor<;>simp [gF.l]
def gF.at_(s:gF):s.l[s.p.length]?=some s.x:=by simp [gF.l]
def gF.M6(p:fJ)(y x:cD)(r q:fJ):(gF.l ⟨p++[y],x,r,q⟩)[p.length]?=some y:=by simp [gF.l]
def gF.step{vs:fJ}{i:Nat}{p:fJ}{y x:cD}{r q:fJ}(h:gF.aI vs i ⟨p++[y],x,r,q⟩)(pw:uN x y):gF.aI vs i ⟨p,x,y::r,q⟩:=by
 refine⟨?_,?_,?_,λz hz=>?_⟩
 .refine List.Perm.trans ?_ h.perm;show(p++x::(y::r++q)).Perm ((p++[y])++x::(r++q));rw [ei];exact List.Perm.append_left p (List.Perm.swap y x (r++q))
 .have:=h.i;simp only [aV,fL,Fu] at this ⊢;omega
 .have:=h.pr;simpa [ei] using this
 .rcases bT.1 hz with rfl|hz
  .exact pw
  .exact h.xr z hz
def gF.stay{vs:fJ}{i:Nat}{s:gF}(h:s.aI vs i)(hx:∀y,s.p.getLast?=some y->uN y s.x):(s.l.take (i+1)).Pairwise uN:=by
 obtain⟨p,x,r,q⟩:=s;have hi:=h.i;have e:(gF.l ⟨p,x,r,q⟩).take (i+1)=p++x::r:=by
  have h1:(p++x::r).length=i+1:=by simp only [aV,fL];show p.length+(r.length+1)=_;have:p.length+r.length=i:=hi;omega
  show(p++x::(r++q)).take (i+1)=_;rw [show p++x::(r++q)=(p++x::r)++q by simp,<-h1,LV]
 rw [e];have Oo:(p++r).Pairwise uN:=h.pr;obtain⟨h1,h2,h3⟩:=Lp.1 Oo;refine Lp.2 ⟨h1,qu.2 ⟨h.xr,h2⟩,λa ha b hb=>?_⟩;rcases bT.1 hb with rfl|hb
 .rcases vV p with rfl|⟨p',y,rfl⟩
  .cases ha
  .have hy:=hx y (by simp)
   rw [vW] at ha h1;rcases iA.1 ha with ha|ha
   .exact BJ ((Lp.1 h1).2.2 a ha y (.head _)) hy
   .rw [bU.1 ha];exact hy
 .exact h3 a ha b hb
section
variable{α:Type}{fe:α->aL}{l:List α}{P:Program}{b:bO}{ops:aZ}{Q:bK}{N:Nat}{E:aG}{L:aH}{R:bF}{F M:aE}{o:Oper}{rest:aN}{t e:TypeId}{x z:Operand}{lo c sz g:Nat}
def H9(i j:Nat)(u u':α)(hi:R[i]?=some (bL lo e sz fe (some ⟨g,0,none⟩) c l))(hg:o.guard=none)(hd:o.dst=none)(ho:o.op = .store t x z)(hx:aP E x=some (.v (.pointer (some ⟨g,sz*j+0,none⟩))))(hz:aP E z=some (.q (fe u')))(hj:l[j]?=some u)(ht:(P.info? t).map (·.size)=some sz)(hu:(fe u).cp.length=sz)(hu':ch (fe u').fA/\(fe u').cp.length=sz)
 (hc:a9 P b ops Q N rest ⟨E,L,R.set i (bL lo e sz fe (some ⟨g,0,none⟩) c (l.set j u')),F,M⟩):a9 P b ops Q N (o::rest) ⟨E,L,R,F,M⟩ :=
 OZ i j 0 sz u u' hi hg hd ho hx hz hj ht hu'.2 (aL.GK hu'.1) (by rw [um (by omega)];simp) (by omega) hu' hc
end
def gF.start{vs l:fJ}{i:Nat}{x:cD}(hp:l.Perm vs)(hs:(l.take i).Pairwise uN)(hx:l[i]?=some x):gF.l ⟨l.take i,x,[],l.drop (i+1)⟩=l/\gF.aI vs i ⟨l.take i,x,[],l.drop (i+1)⟩:=by
 have al:=(eY.1 hx).1;have e:gF.l ⟨l.take i,x,[],l.drop (i+1)⟩=l:=by
  show l.take i++x::([]++l.drop (i+1))=l;rw [lD];have h1:l.drop i=x::l.drop (i+1):=by rw [z9 al,(eY.1 hx).2]
  rw [<-h1,List.take_append_drop]
 refine⟨e,by rw [e];exact hp,?_,by rw [fj];exact hs,λy hy=>(by cases hy)⟩;show(l.take i).length+0=i;rw [du];omega
def DW:=@underlying54
def as4{A:aO}{c:Nat}(vs:fJ)(iC:(vs.map cD.id).Nodup)(h12:vs.length<=12):Spec 180 [.slice A vs.length c,.int .i64 0,.int .i64 (vs.length:Int),sc] [jw A c vs] (λ_=>True) { ret:=λ_=>.t [],own:=λx:{ l:fJ // l.Perm vs/\l.Pairwise uN }=>[jw A c x.1] }:=by
 refine bA [.c (.v (.slice A vs.length c)),.c (.v (.int .i64 0)),.c (.v (.int .i64 (vs.length:Int))),.c (.v sc)] 53 func180 rfl λb=>ag rfl (a8 ?_);let F:Nat×fJ->Env:=λs=>⟨[(8,.aT s.1),(0,.v (.slice A vs.length c)),(1,.v (.int .i64 0)),(2,.aT vs.length),(3,.v sc)],[],[jw A c s.2],λ_=>True,λ_=>True⟩;refine cI (e':=F (1,vs)) ⟨dB rfl, trivial, .refl _,λ_ h _=>trivial,λ_ h=>h⟩ (cY (λs=>vs.length-s.1) F (λs=>1<=s.1/\s.2.Perm vs/\(s.2.take s.1).Pairwise uN) ?_ (1,vs) ⟨aQ _,.refl _,by cases vs<;>simp⟩);rintro⟨i,l⟩ ⟨hi,hp,Ce⟩;dsimp only at hi hp Ce;have Ap:=hp.length_eq;refine ao λK1 aS=>ag rfl ?_;refine bn ((i:Int)<(vs.length:Int)) rfl (λal=>?_) (λcW=>?_)
 .have al:i<vs.length:=by omega
  obtain⟨x,hx⟩:∃x,l[i]?=some x:=⟨_,da (by omega)⟩;obtain⟨sx,aqU⟩:=gF.start hp Ce hx;refine aR (aS _ (ao λK2 aM=>a8 (ag rfl (a8 ?_))));let F2:gF->Env:=λs=>⟨[(9,.aT s.p.length),(8,.aT i),(0,.v (.slice A vs.length c)),(1,.v (.int .i64 0)),(2,.aT vs.length),(3,.v sc)],[],[jw A c s.l],λ_=>True,λ_=>True⟩;have TQ:(l.take i).length=i:=by rw [du];omega
  refine cI (e':=F2 ⟨l.take i,x,[],l.drop (i+1)⟩) ⟨⟨by show dG _ 9=some (.v (.int .i64 (((l.take i).length:Nat):Int)));rw [TQ];rfl,rfl,rfl,rfl,rfl,rfl,trivial⟩,trivial,by show kR _ [jw A c (gF.l ⟨l.take i,x,[],l.drop (i+1)⟩)];rw [sx],λ_ h _=>trivial,λ_ h=>h⟩ (cY (λs=>s.p.length) F2 (λs=>s.aI vs i) ?_ ⟨l.take i,x,[],l.drop (i+1)⟩ aqU);rintro⟨p,x,r,q⟩ bx;have gS:(gF.l ⟨p,x,r,q⟩).length=vs.length:=bx.perm.length_eq;have hpi:p.length+r.length=i:=bx.i;have aa8:(∀y,p.getLast?=some y->uN y x)->∀e,gj e (F2 ⟨p,x,r,q⟩)->cl b K2 53 e:=by intro aa e hw;refine ft hw (aM _ (cE rfl ?_));exact cH (i+1,gF.l ⟨p,x,r,q⟩) ⟨by show 1<=i+1;omega,bx.perm,gF.stay bx aa⟩ (by show vs.length-(i+1)<vs.length-i;omega) ⟨⟨pC (by omega) (by omega),rfl,rfl,rfl,rfl,trivial⟩,trivial,.refl _,λ_ h _=>h,λ_ h=>h⟩
  refine ao λK3 bu=>?_;rcases vV p with rfl|⟨p,y,za⟩
  .refine nw 17 λK4 bW G S w0 aa=>?_;refine dC aa rfl (qO 21 false rfl (by simp) (dC aa rfl (jR aa (ah (bW _ (dY rfl (cG (a6 (a6 (cF ?_))))))))));exact aa8 (λy hy=>by cases hy) _ (hv rfl rfl rfl)
  rw [vW] at za;subst za;have ky:(p++[y]).length=p.length+1:=by simp
  rw [ky] at hpi;have b8:x.id≠y.id:=by
   have h1:=(bx.perm.map cD.id).nodup_iff.2 iC;intro e;have h2:(gF.l ⟨p++[y],x,r,q⟩).map cD.id=p.map cD.id++y.id::x.id::((r++q).map cD.id):=by simp [gF.l]
   rw [h2] at h1;have h3:=(QR.1 h1).2.1;exact(AF.1 h3).1 (by rw [e];exact .head _)
  have fy:IntKind.i64.wrap (((p++[y]).length:Int)-1)=(p.length:Int):=jv (by rw [ky];omega) (by omega) (by omega);obtain⟨v,t,ab,ht,hty,TR⟩:∃(v:Int) (t:Bool),dF x.id y.id=v/\decide (v<0)=t/\(t=true->uN x y)/\(t=false->uN y x):=by
   cases pw:eP x.id y.id with
   | true=>exact⟨-1,true,R8 pw,rfl,λ_=>pw,λh=>by cases h⟩
   | false =>
    have hyx:eP y.id x.id=true:=C8 (by rw [x.fl,y.fl]) pw b8;exact⟨1,false,R7 hyx,rfl,λh=>(by cases h),λ_=>hyx⟩
  have hlen:=vs.length;refine nw 17 λK4 bW G S w0 aa=>?_;refine dC aa rfl (qO 21 true rfl (by rw [ky];exact decide_eq_true (by omega)) (dC aa rfl (Sw (b:=b) an aa rfl rfl rfl (p++[y]).length rfl (gF.at_ ⟨p++[y],x,r,q⟩) gS.symm rfl (fu 0 rfl) (J7 (Fa:=[]) an aa rfl (Sw (b:=b) an aa rfl rfl rfl p.length fy (gF.M6 p y x r q) gS.symm rfl (fu 0 rfl) (J7 (Fa:=[]) an aa rfl (apT (Fa:=[]) (F':=λ_=>True) (caps:=[]) (r:=.v (.int .i64 (dF x.id y.id))) aa [(fN x).den,(fN y).den] rfl rfl (λ_ _=>by go_simp) rfl rfl rfl rfl trivial (ap9 x y) (λ_ _ _ _=>trivial) (SP 32 v rfl ab (dC aa rfl (qO 34 t rfl ht (jR aa (ah (bW _ ?_)))))))))))));cases t with
  | false =>
   refine dY rfl (cG (a6 (a6 (cF ?_))));exact aa8 (λz hz=>by rw [List.getLast?_concat] at hz;rw [<-jm hz];exact TR rfl) _ (hv rfl rfl rfl)
  | true =>
  have pw:=hty rfl;refine ir rfl (aR (bu _ (QE 0 rfl (by rw [gS];omega) λg hA=>?_)));subst hA;refine ao λK5 bN=>a8 ?_;have uy:∀e,gj e ⟨[(9,.aT ((p++[y]).length)),(8,.aT i),(0,.v (cj g vs.length c)),(1,.v (.int .i64 0)),(2,.aT vs.length),(3,.v sc)],[],[jw (some ⟨g,0,none⟩) c (gF.l ⟨p,x,y::r,q⟩)],λ_=>True,λ_=>True⟩->cl b K5 53 e:=by intro e hw;refine ft hw (bN _ (cE rfl ?_));exact cH ⟨p,x,y::r,q⟩ (gF.step bx pw) (by show p.length<(p++[y]).length;omega) ⟨⟨congrArg (λz=>some (aq.v (.int .i64 z))) fy,rfl,rfl,rfl,rfl,rfl,trivial⟩,trivial,.refl _,λ_ h _=>h,λ_ h=>h⟩
  have hsw:=(gF.swap p y x r q).1;have OG:(gF.l ⟨p++[y],x,r,q⟩)[p.length+1]?=some x:=by rw [<-ky];exact gF.at_ ⟨p++[y],x,r,q⟩
  have hyj:((gF.l ⟨p++[y],x,r,q⟩).set (p.length+1) y)[p.length]?=some y:=by rw [List.getElem?_set_ne (by omega)];exact gF.M6 p y x r q
  refine lv [0,1,2,3,4,5,6,7,8,10,11,12] 16 2 (iV []) rfl (λ_ _ _ _ h=>by cases h) ?_;refine j3 0 rfl (λ_ h=>by cases h) (j3 1 rfl (λ_ h=>by cases h) (j3 2 rfl (λ_ h=>by cases h) (j3 3 rfl (λ_ h=>by cases h) (j3 4 rfl (λ_ h=>by cases h) (j3 5 rfl (λ_ h=>by cases h) (j3 6 rfl (λ_ h=>by cases h) (j3 7 rfl (λ_ h=>by cases h) (kp (.v (.pointer (some ⟨g,0+34*p.length,none⟩))) 8 rfl rfl rfl (lO p.length rfl DW rfl rfl (congrArg (λz=>some (aq.v (.int .i64 z))) fy) (by omega)) (j3 10 rfl (λ_ h=>by cases h) (j3 11 rfl (λ_ h=>by cases h) (kp (.v (.pointer (some ⟨g,0+34*(p.length+1),none⟩))) 12 rfl rfl rfl (lO (p.length+1) rfl DW rfl rfl (congrArg (λz=>some (aq.v (.int .i64 z))) (by rw [ky])) (by omega)) ?_)))))))))));refine adB 9 13 rfl rfl (λKa kM=>?_) (λKa kM=>?_)
  .refine jq (.q (fN y)) (ab:=y.ig) rfl (Be (fe:=fN) (a:=0) (off:=0) (j:=p.length) an rfl rfl (gF.M6 p y x r q) rfl y.ig (fu 0 rfl)) ?_;refine ah (kM _ (λ_ _ _ _ h=>by cases h) ?_);refine eN 13 rfl λKb mA=>?_;refine jq (.q (fN x)) (ab:=x.ig) rfl (Be (fe:=fN) (a:=0) (off:=0) (j:=p.length+1) an rfl rfl OG rfl x.ig (fu 0 rfl)) (ah (mA _ (λ_ _ _ _ h=>by cases h) ?_));refine eN 14 rfl λKc wK=>?_;refine b6 (.v (.pointer (some ⟨g,0+34*(p.length+1),none⟩))) rfl (lO (p.length+1) rfl DW rfl rfl (congrArg (λz=>some (aq.v (.int .i64 z))) (by rw [ky])) (by omega)) (ah (wK _ (λ_ _ _ _ h=>by cases h) ?_));refine eN 15 rfl λKd BQ=>?_;refine H9 0 (p.length+1) x y rfl rfl rfl rfl (congrArg (λz:Nat=>some (aq.v (.pointer (some ⟨g,z,none⟩)))) (show 0+34*(p.length+1)=34*(p.length+1)+0 by omega)) rfl OG (by kernel_rfl) (yH x).2 (yH y) (ah (BQ _ (λ_ _ _ _ h=>by cases h) (kQ [16,17] rfl (b6 (.v (.pointer (some ⟨g,0+34*p.length,none⟩))) rfl (lO p.length rfl DW rfl rfl (congrArg (λz=>some (aq.v (.int .i64 z))) fy) (by omega)) (H9 0 p.length y x rfl rfl rfl rfl (congrArg (λz:Nat=>some (aq.v (.pointer (some ⟨g,z,none⟩)))) (show 0+34*p.length=34*p.length+0 by omega)) rfl hyj (by kernel_rfl) (yH y).2 (yH x) ?_)))));refine ah (uy _ ⟨⟨rfl,rfl,rfl,rfl,rfl,rfl,trivial⟩,trivial,?_,λ_ h _=>h, au⟩);show kR [jw (some ⟨g,0,none⟩) c _] _;rw [hsw]
  .refine jq (.q (fN x)) (ab:=x.ig) rfl (Be (fe:=fN) (a:=0) (off:=0) (j:=p.length+1) an rfl rfl OG rfl x.ig (fu 0 rfl)) ?_;refine ah (kM _ (λ_ _ _ _ h=>by cases h) ?_);refine eN 9 rfl λKb mA=>?_;refine jq (.q (fN y)) (ab:=y.ig) rfl (Be (fe:=fN) (a:=0) (off:=0) (j:=p.length) an rfl rfl (gF.M6 p y x r q) rfl y.ig (fu 0 rfl)) (ah (mA _ (λ_ _ _ _ h=>by cases h) ?_));refine eN 14 rfl λKc wK=>?_;refine b6 (.v (.pointer (some ⟨g,0+34*(p.length+1),none⟩))) rfl (lO (p.length+1) rfl DW rfl rfl (congrArg (λz=>some (aq.v (.int .i64 z))) (by rw [ky])) (by omega)) (ah (wK _ (λ_ _ _ _ h=>by cases h) ?_));refine eN 15 rfl λKd BQ=>?_;refine H9 0 (p.length+1) x y rfl rfl rfl rfl (congrArg (λz:Nat=>some (aq.v (.pointer (some ⟨g,z,none⟩)))) (show 0+34*(p.length+1)=34*(p.length+1)+0 by omega)) rfl OG (by kernel_rfl) (yH x).2 (yH y) (ah (BQ _ (λ_ _ _ _ h=>by cases h) (kQ [16,17] rfl (b6 (.v (.pointer (some ⟨g,0+34*p.length,none⟩))) rfl (lO p.length rfl DW rfl rfl (congrArg (λz=>some (aq.v (.int .i64 z))) fy) (by omega)) (H9 0 p.length y x rfl rfl rfl rfl (congrArg (λz:Nat=>some (aq.v (.pointer (some ⟨g,z,none⟩)))) (show 0+34*p.length=34*p.length+0 by omega)) rfl hyj (by kernel_rfl) (yH y).2 (yH x) ?_)))));refine ah (uy _ ⟨⟨rfl,rfl,rfl,rfl,rfl,rfl,trivial⟩,trivial,?_,λ_ h _=>h, au⟩);show kR [jw (some ⟨g,0,none⟩) c _] _;rw [hsw]
 .refine cG (a6 (a6 (cF ?_)))
  refine bE (⟨l,hp,?_⟩:{ l:fJ // l.Perm vs/\l.Pairwise uN }) rfl aD au
  rwa [kE (by omega)] at Ce
abbrev agP(A:aO)(c:Nat)(vs:fJ):fm { l:fJ // l.Perm vs/\l.Pairwise uN }:={ ret:=λ_=>.t [],own:=λx=>[jw A c x.1] }
def axN{A:aO}{c:Nat}(vs:fJ)(iC:(vs.map cD.id).Nodup)(h12:vs.length<=12)(r:Nat):Spec 136 [.slice A vs.length c,.int .i64 0,.int .i64 (vs.length:Int),.int .i64 (r:Int),sc] [jw A c vs] (λ_=>True) (agP A c vs):=by refine bA [.c (.v (.slice A vs.length c)),.c (.v (.int .i64 0)),.c (.v (.int .i64 (vs.length:Int))),.c (.v (.int .i64 (r:Int))),.c (.v sc)] 148 func136 rfl λb=>?_;refine ag rfl (ag rfl (a8 ?_));let F:Unit->Env:=λ_=>⟨[(11,.v (.bool true)),(10,.v (.bool true)),(0,.v (.slice A vs.length c)),(1,.v (.int .i64 0)),(2,.aT vs.length),(3,.aT r),(4,.v sc)],[],[jw A c vs],λ_=>True,λ_=>True⟩;refine cI (e':=F ()) ⟨dB rfl, trivial, .refl _,λ_ h _=>trivial,λ_ h=>h⟩ (cY (λ_=>0) F (λ_=>True) ?_ () trivial);intro _ _;refine a8 (ag rfl ?_);refine cI (e':=⟨[(12,.aT vs.length),(0,.v (.slice A vs.length c)),(1,.v (.int .i64 0)),(2,.aT vs.length),(4,.v sc)],[],[jw A c vs],λ_=>True,λ_=>True⟩) ⟨⟨congrArg some (congrArg aq.v (congrArg (bQ .i64) (jv (m:=((vs.length:Nat):Int)-0) (by omega) (by omega) (by omega)))),rfl,rfl,rfl,rfl,trivial⟩,trivial,.refl _,λ_ h _=>h, au⟩ ?_;refine ao λK1 aS=>ag rfl ?_;refine bn ((vs.length:Int)<=12) rfl (λ_=>?_) (λh=>absurd h (by omega));refine aA rfl λK2 aM=>er (own:=[jw A c vs]) (R':=[]) [.slice A vs.length c,.int .i64 0,.int .i64 (vs.length:Int),sc] rfl (as4 vs iC h12) aD λx=>?_;exact ah (aM _ (aJ (bE x rfl aD au)))
def aBR{A:aO}{c:Nat}(vs:fJ)(iC:(vs.map cD.id).Nodup)(h12:vs.length<=12):Spec 99 [.slice A vs.length c,sc] [jw A c vs] (λ_=>True) (agP A c vs):=by refine bA [.c (.v (.slice A vs.length c)),.c (.v sc)] 14 func99 rfl λb=>?_;refine ag rfl (ef (aj rfl (ca 10 (vs.length:Int) rfl (by show((vs.length:Nat):Int)%18446744073709551616=_;omega) (bY [.int .u64 (vs.length:Int)] rfl (au5 (by omega)) aD λr=>aj rfl (er (own:=[jw A c vs]) (R':=[]) [.slice A vs.length c,.int .i64 0,.int .i64 (vs.length:Int),.int .i64 ((r.1:Nat):Int),sc] rfl (axN vs iC h12 r.1) aD λx=>ah ?_)))));exact bE x rfl aD au
section
variable{ro:j5}{n:Nat}{b:bO}{ops:aZ}{Q:bK}{N:Nat}{e e':Env}{E:aG}{L:aH}{R1 R':bF}{F M:aE}{l:aN}
def aCU(h:D2 ro n b ops Q N l ⟨E,L,Jm R1::R',F,M⟩):D2 ro n b ops Q N l ⟨E,L,R1++R',F,M⟩:=λa w ⟨G,S,h1,h2,h3⟩=>h a w ⟨G,S,h1,h2,{ h3 with res:=aBY.2 h3.res }⟩
def aCV(hw:gj e e')(h:D2 ro n b ops Q N l e'):D2 ro n b ops Q N l e:=λa w hs=>h a w (hs.I0 hw)
end
section
variable{α:Type}{fe:α->aL}{l:List α}{T:eG}{b:bO}{ops:aZ}{Q:bK}{N:Nat}{G:aK}{S:cn}{E:aG}{L:aH}{R:bF}{F M:aE}{w0:yp}{T':aN}{Fa:Told}{i1 i2:Nat}{o1 o2:Oper}{rest:List (Nat×Oper)}{u:Je}
def NV(aa:bj b G S L R F M w0)(h:Et jx N E o1 o2=some u)(hg:o1.guard=none)(sr:o2.guard=none)(hf1:mw i1 Fa=true)(hf2:mw i2 Fa=true)(j:Nat){x:α}(hj:u.i=(j:Int))(hx:l[j]?=some x)(hn:u.n=l.length)(hl:tE jx (fe x).fA u.t 0=some (fe x))
 (gA:∀G S w,View G S L R F M w->ar u.sz fe u.A u.c l w)(hk:bm prog ops Q N T' G w0 rest ((u.k2,.q (fe x))::(u.k1,.o (ri u.A (u.sz*j)))::E) Fa):bm prog ops Q N T' G w0 ((i1,o1)::(i2,o2)::rest) E Fa:=by
 obtain⟨d1,d2,n1,n2,xS, -⟩:=JL (P:=prog) an h;obtain⟨_,_,_,h4,_⟩:=gA G S w0 aa.view;refine G3 aa (.o (ri u.A (u.sz*j))) (ab:=P6 _ _) hf1 (lu hg d1 n1) (λG S a w ha ab=>(JM an h j hj hx hn hl (gA G S w ab) ha).1) ?_;refine G3 aa (.q (fe x)) (ab:=aL.PM (h4 x (eg hx)).1) hf2 (lu sr d2 n2) (λG S a w ha ab=>?_) hk;obtain⟨_,_,_,bx,hr⟩:=gA G S w ab;obtain⟨bk,o,hA,hb,hr⟩:=hr (by have:=(eY.1 hx).1;omega);obtain⟨hp,gT⟩:=bx x (eg hx)
 have ha':a.eval (.tmp u.k1) = .pointer (some ⟨bk,o+u.sz*j,none⟩):=by have e:=ha.get u.k1 _ (by rw [bG,uK,if_pos rfl]);rw [hA] at e;exact e
 obtain⟨_,h12⟩:=Ib an hp hl;have h13:=h12 (w:=w) (g:=bk) (base:=o+u.sz*j) (by rw [<-aL.JC hp];exact hr j x hx);rw [jP] at h13
 unfold execOp
 simp only [xS,ha',h13,bI,bM,bS]
 rfl
end
abbrev yu:=ae×fv
def BF(e:yu):aL:=.p [.agg 32 (By e.1).toArray,.one (.v (.slice e.2.A e.2.l.length e.2.c))]
def Sd{e:yu}(h:e.1.length=32):ch (BF e).fA/\(BF e).cp.length=33:=⟨λp hp=>by
 rcases bT.1 hp with rfl|hp
 .exact(cq h).1 _ List.mem_cons_self
 .rw [bU.1 hp];exact⟨trivial,rfl,rfl⟩,by
 show(a7 [.agg 32 (By e.1).toArray,.one (.v (.slice e.2.A e.2.l.length e.2.c))]).toList.length=33;rw [lE];simp [bz.cells,a7,dH,h]⟩
structure fR where
  ep:Int
  A:aO
  c:Nat
  es:List yu
def fR.parts(x:fR):cJ:=[.one (.v (.int .i64 x.ep)),.one (.v (.slice x.A x.es.length x.c))]
abbrev uu(x:fR):aL:=.p x.parts
def fR.ig(x:fR):ch x.parts:=λp hp=>by
 rcases bT.1 hp with rfl|hp
 .exact⟨trivial,rfl,rfl⟩
 .rw [bU.1 hp];exact⟨trivial,rfl,rfl⟩
def fR.F(x:fR)(w:yp):Prop:=ar 33 BF x.A x.c x.es w/\∀e∈x.es,e.2.rd w
instance aHW{x:fR}:dc x.F:=⟨λ_ _ ⟨h1,h2⟩ hb=>⟨h1.later hb,λe he=>dc.later (p:=e.2.rd) _ _ (h2 e he) hb⟩⟩
def fR.l(x:fR):bZ:=x.es.map pZ
def fR.len(x:fR):x.l.length=x.es.length:=dL ..
def fR.at{x:fR}{i:Nat}{e:yu}(h:x.es[i]?=some e):x.l.drop i=pZ e::x.l.drop (i+1):=by
 have h1:x.l[i]?=some (pZ e):=by unfold fR.l;rw [lC,h];rfl
 obtain⟨h2,h3⟩:=eY.1 h1;rw [z9 h2,h3]
def fR.done(x:fR):x.l.drop x.es.length=[]:=um (by rw [x.len];exact aQ _)
def CL:fR:=⟨0,none,0,[]⟩
def aHL(w:yp):CL.F w:=⟨ar.nil _ _ _,λ_ h=>by cases h⟩
def rO(i n:Nat)(h:n<=9223372036854775807)(hi:i<n):some (aq.v (.int .i64 (IntKind.i64.wrap ((i:Int)+1))))=some (aq.v (.int .i64 ((i+1:Nat):Int))):=by rw [jv (m:=(i:Int)+1) (r:=((i+1:Nat):Int)) (by omega) (by omega) (by omega)]
def Sh{x:fR}{w:yp}(h:x.F w):∀e∈x.es,e.1.length=32:=λe he=>by
 have h1:=(h.1.2.2.2.1 e he).1 (.agg 32 (By e.1).toArray) (by simp [aL.fA,BF]);have:=h1.1
 rwa [fx,dH] at this
def Vu(x:fR){k:ae}(hk:k.length=32):Spec 26 [(uu x).den,(aw 32 k).den] [] x.F { ret:=λs:{ s:fv // s.l=cB x.l k }=>.q (se s.1),p:=λs=>s.1.rd }:=by
 refine bA [.p x.parts,aw 32 k] 21 func26 rfl (ab:=dZ x.ig (cq hk).1) λb=>?_;refine lQ ((∀e∈x.es,e.1.length=32)/\x.es.length<=9223372036854775807) (λw h _=>⟨Sh h,fo h.1.1 h.1.2.1⟩) λ⟨fl,EU⟩=>?_;refine ag rfl (ao λK hK=>ag rfl (a8 ?_));let Fs:Nat->Env:=λi=>⟨[(10,.aT i),(9,.aT x.es.length),(8,.v (.slice x.A x.es.length x.c)),(3,.a 3 0)],[⟨3,none,47,[.agg 32 (By k).toArray]⟩],[],x.F,λ_=>True⟩;refine cI (e':=Fs 0) (fC rfl rfl rfl λ_ h _=>h) (cY (λi=>x.es.length-i) Fs (λi=>i<=x.es.length/\cB x.l k=cB (x.l.drop i) k) ?_ 0 ⟨bl _,rfl⟩);rintro i ⟨hi,vx⟩;refine ag rfl (ao λK5 bN=>?_);refine bn ((i:Int)<(x.es.length:Int)) rfl (λal=>?_) (λcW=>?_)
 .have al:i<x.es.length:=by omega
  obtain⟨e,he⟩:∃e,x.es[i]?=some e:=⟨_,da al⟩;have sq:=eg he;rw [fR.at he,pU] at vx;refine aR (bN _ (ao λK6 cr=>a8 (aA rfl λK7 df=>jh an rfl rfl rfl i rfl he rfl rfl (dX λ_ h _=>h.1) (aj rfl (ah (df _ (aA rfl λK8 gw=>b6 (.b (decide (e.1=k))) rfl (F6 rfl rfl rfl dp (by kernel_rfl) (fl e sq) hk) (ah (gw _ ?_)))))))));refine bn (e.1=k) rfl (λTj=>?_) (λTj=>?_)
  .rw [if_pos Tj] at vx;refine ag rfl ?_;exact aJ (bE ⟨e.2,vx.symm⟩ rfl (λ_ h _=>h.2 e sq) au)
  .rw [if_neg Tj] at vx;refine aR (cr _ (cE rfl ?_));exact cH (i+1) ⟨al,vx⟩ (by show x.es.length-(i+1)<x.es.length-i;omega) ⟨⟨rO i x.es.length (by omega) al,rfl,rfl,rfl,trivial⟩,⟨rfl,rfl,trivial⟩,.refl _,λ_ h _=>h,λ_ h=>h⟩
 .obtain rfl:x.es.length=i:=by omega
  rw [x.done] at vx;refine cG (a6 (a6 (cF (hK _ (ag rfl ?_)))));exact aJ (bE ⟨Cv,vx.symm⟩ rfl (λw _ _=>ar.nil _ _ w) au)
def axE(x:fR){i:Nat}{e:yu}(h:x.es[i]?=some e):(dg x.l).take (i+1)=(dg x.l).take i++[(e.1,jF e.2.l)]:=by
 have h1:(dg x.l)[i]?=some (e.1,jF e.2.l):=by unfold dg fR.l;rw [lC,lC,h];rfl
 rw [qw,h1];rfl
def ay9(x:fR)(hl:x.es.length<=1000):Spec 30 [(uu x).den] [] x.F { ret:=λy:pP=>.v (.slice y.1 (dg x.l).length y.2),p:=λy=>ar 64 kf y.1 y.2 (dg x.l) }:=by
 have ky:(dg x.l).length=x.es.length:=by rw [dg,dL,x.len]
 refine bA [.p x.parts] 24 func30 rfl (ab:=iG x.ig) λb=>?_;refine lQ (∀e∈x.es,e.1.length=32) (λw h _=>Sh h) λfl=>?_;refine ag rfl (ag rfl (ao λK hK=>ag rfl (a8 ?_)));let Fs:Nat×pP->Env:=λy=>⟨[(9,.aT y.1),(8,.aT x.es.length),(7,.v (.slice x.A x.es.length x.c)),(3,.v (.slice y.2.1 ((dg x.l).take y.1).length y.2.2))],[],[bL 0 120 64 kf y.2.1 y.2.2 ((dg x.l).take y.1)],x.F,λ_=>True⟩;refine pF 0 120 64 kf ?_;refine cI (e':=Fs (0,none,0)) (fC rfl rfl rfl λ_ h _=>h) (cY (λy=>x.es.length-y.1) Fs (λy=>y.1<=x.es.length) ?_ (0,none,0) (bl _));rintro⟨i,B,c⟩ hi;dsimp only at hi;refine ag rfl (ao λK5 bN=>?_);refine bn ((i:Int)<(x.es.length:Int)) rfl (λal=>?_) (λcW=>?_)
 .have al:i<x.es.length:=by omega
  obtain⟨e,he⟩:∃e,x.es[i]?=some e:=⟨_,da al⟩;have sq:=eg he;have hS:=axE x he;have hlen:((dg x.l).take i).length<=1000:=by rw [du];omega
  have Ax:=λA c=>aAM (A:=A) (c:=c) e.2.l;have KP:(jF e.2.l).length=32:=yG _;generalize jF e.2.l=va at *;refine aR (bN _ (ao λK6 cr=>a8 (aA rfl λK7 df=>jh an rfl rfl rfl i rfl he rfl rfl (dX λ_ h _=>h.1) (aj rfl (ah (df _ ?_))))));refine rS λG=>?_;have OC:∀u∈iH G [⟨5,none,91,[.agg 32 (By e.1).toArray,.one (.v (.slice e.2.A e.2.l.length e.2.c))]⟩],u∈iH G [⟨5,none,91,[.agg 32 (By e.1).toArray,.one (.v (.slice e.2.A e.2.l.length e.2.c))]⟩]/\u.g.isSome=true:=λu hu=>⟨hu,by rw [bU.1 hu];rfl⟩;refine lv [0,1,2,3,4] 8 2 (iV (iH G [⟨5,none,91,[.agg 32 (By e.1).toArray,.one (.v (.slice e.2.A e.2.l.length e.2.c))]⟩])) rfl (iE OC) ?_;refine j3 0 rfl (λ_ h=>h) (j3 1 rfl (λ_ h=>h) (j3 2 rfl (λ_ h=>h) (j3 3 rfl (λ_ h=>h) (j3 4 rfl (λ_ h=>h) ?_))));refine eN 5 rfl λKa kM=>?_;refine bY [.slice e.2.A e.2.l.length e.2.c] rfl (Ax e.2.A e.2.c) (λ_ h _=>h.2 e sq) λ_=>ah (kM _ (iE OC) ?_);refine eN 6 rfl λKb mA=>?_;refine aj rfl (ah (mA _ (iE OC) ?_));refine eN 7 rfl λKc wK=>?_;refine jC an 0 [((e.1,va):dD)] (fe:=kf) rfl rfl rfl (λ_=>rfl) rfl (λy hy=>by rw [bU.1 hy];exact JH ⟨fl e sq,KP⟩) (bl _) λC=>iU 0 rfl (ah (wK _ (iE OC) (kQ [8,9] rfl (mc an 0 [((e.1,va):dD)] rfl rfl rfl rfl rfl rfl rfl (dX λw h _=>h.1) (by show(((dg x.l).take i).length+1)*64<=_;omega) (by show((dg x.l).take i).length+1<=_;omega) (bl _) λA' c'=>aj rfl ?_))));rw [<-hS];refine ah (Co (cr _ (cE rfl ?_)));exact cH (i+1,A',c') al (by show x.es.length-(i+1)<x.es.length-i;omega) ⟨⟨rO i x.es.length (by omega) al,rfl,rfl,rfl,trivial⟩,trivial,.refl _,λ_ h _=>h.2.2, au⟩
 .obtain rfl:x.es.length=i:=by omega
  refine cG (a6 (a6 (cF (hK _ (mQ 0 rfl (ag rfl ?_))))));have e0:(dg x.l).take x.es.length=dg x.l:=kE (by omega);rw [e0];exact aJ (bE (B,c) rfl (λ_ h _=>h.1) au)
structure Xt where
  i:Nat
  A:aO
  c:Nat
  o:List yu
  rF:Bool
structure WdI(x:fR)(id key:ae)(s:Xt):Prop where
  i:s.i<=x.es.length
  run:s.o.map pZ++yd id key (x.l.drop s.i) s.rF=yd id key x.l false
  len:s.o.length<=2*s.i
def ae5(x:fR)(hd:dj x.l)(lH:mq x.l)(hl:x.es.length<=1000){id key:ae}(hid:id.length=32)(BW:key.length=32):Spec 27 [(uu x).den,(aw 32 id).den,(aw 32 key).den] [] x.F
  { ret:=λy:{ y:fR // y.ep=x.ep/\y.l=kk x.l id (cB x.l id++[key]) }=>.q (uu y.1),p:=λy=>y.1.F }:=by
 refine bA [.p x.parts,aw 32 id,aw 32 key] 71 func27 rfl (ab:=uP x.ig (dZ (cq hid).1 (cq BW).1)) λb=>?_;refine lQ (∀e∈x.es,e.1.length=32) (λw h _=>Sh h) λfl=>?_;refine ag rfl (ag rfl (ag rfl (ao λK hK=>ag rfl (a8 (pF 0 91 33 BF ?_)))))
 let Fs:Xt->Env:=λs=>⟨[(18,.aT s.i),(17,.aT x.es.length),(16,.v (.slice x.A x.es.length x.c)),(8,.v (.bool s.rF)),(7,.a 7 0),(6,.a 6 0),(5,.a 5 0),(4,.a 4 0)],[⟨7,none,36,[.one (.v (.int .i64 x.ep)),.one (.v (.slice s.A s.o.length s.c))]⟩,⟨6,none,36,CL.parts⟩,⟨5,none,47,[.agg 32 (By key).toArray]⟩,⟨4,none,47,[.agg 32 (By id).toArray]⟩],[bL 0 91 33 BF s.A s.c s.o],λw=>x.F w/\∀e∈s.o,e.2.rd w,λ_=>True⟩
 refine cI (e':=Fs ⟨0,none,0,[],false⟩) ⟨dB rfl, c8 rfl rfl, .refl _,λ_ h _=>⟨h,λ_ h=>by cases h⟩, au⟩ (cY (λs=>x.es.length-s.i) Fs (WdI x id key) ?_ ⟨0,none,0,[],false⟩ ⟨bl _,rfl,aQ _⟩)
 rintro⟨i,A,c,o,rF⟩ ⟨hi,iy,hlen⟩
 dsimp only at hi iy hlen
 refine ag rfl (ao λK5 bN=>?_);refine bn ((i:Int)<(x.es.length:Int)) rfl (λal=>?_) (λcW=>?_)
 .have al:i<x.es.length:=by omega
  obtain⟨e,he⟩:∃e,x.es[i]?=some e:=⟨_,da al⟩;have sq:=eg he;have Km:=fl e sq;have aI1:e.2.l.length<=64:=lH (pZ e) (dv.2 ⟨e,sq,rfl⟩);rw [fR.at he] at iy;have iy:o.map pZ++((if (!rF&&eP id e.1)=true then [(id,[key])] else [])++(e.1,if e.1=id then e.2.l++[key] else e.2.l)::yd id key (x.l.drop (i+1)) (rF||eP id e.1||decide (e.1=id)))=yd id key x.l false:=iy;refine aR (bN _ (ao λK6 cr=>a8 (aA rfl λK7 df=>jh an rfl rfl rfl i rfl he rfl rfl (dX λ_ h _=>h.1.1) (aj rfl (ah (df _ (ao λK8 gw=>?_)))))));have hC:∀A1 c1 (o1:List yu) dn1,o1.map pZ=o.map pZ++(if (!rF&&eP id e.1)=true then [(id,[key])] else [])->dn1=(rF||eP id e.1)->o1.length<=o.length+1->∀e',gj e' ⟨[(18,.aT i),(17,.aT x.es.length),(16,.v (.slice x.A x.es.length x.c)),(8,.v (.bool dn1)),(7,.a 7 0),(6,.a 6 0),(5,.a 5 0),(4,.a 4 0),(10,.a 10 0)],[⟨10,none,91,[.agg 32 (By e.1).toArray,.one (.v (.slice e.2.A e.2.l.length e.2.c))]⟩,⟨7,none,36,[.one (.v (.int .i64 x.ep)),.one (.v (.slice A1 o1.length c1))]⟩,⟨6,none,36,CL.parts⟩,⟨5,none,47,[.agg 32 (By key).toArray]⟩,⟨4,none,47,[.agg 32 (By id).toArray]⟩],[bL 0 91 33 BF A1 c1 o1],λw=>x.F w/\∀e∈o1,e.2.rd w,λ_=>True⟩->cl b K8 71 e':=by
   intro A1 c1 o1 dn1 ho1 aq8 aIB e' hw;rw [<-ei,<-ho1,<-aq8] at iy;refine ft hw (gw _ (ao λK9 l5=>?_));have hE:∀(s2:fv) dn2,s2.l=(if e.1=id then e.2.l++[key] else e.2.l)->dn2=(dn1||decide (e.1=id))->∀e',gj e' ⟨[(18,.aT i),(17,.aT x.es.length),(16,.v (.slice x.A x.es.length x.c)),(8,.v (.bool dn2)),(7,.a 7 0),(6,.a 6 0),(5,.a 5 0),(4,.a 4 0),(10,.a 10 0)],[⟨10,none,91,[.agg 32 (By e.1).toArray,.one (.v (.slice s2.A s2.l.length s2.c))]⟩,⟨7,none,36,[.one (.v (.int .i64 x.ep)),.one (.v (.slice A1 o1.length c1))]⟩,⟨6,none,36,CL.parts⟩,⟨5,none,47,[.agg 32 (By key).toArray]⟩,⟨4,none,47,[.agg 32 (By id).toArray]⟩],[bL 0 91 33 BF A1 c1 o1],λw=>s2.rd w/\x.F w/\∀e∈o1,e.2.rd w,λ_=>True⟩->cl b K9 71 e':=by
    intro s2 dn2 uH aq9 e' hw;rw [<-uH,<-aq9] at iy;refine ft hw (l5 _ (ef (aj rfl (lq an 0 ((e.1,s2):yu) rfl rfl rfl rfl rfl rfl rfl (Sd Km) (by show(o1.length+1)*56<=_;omega) (by omega) (bl _) λA2 c2=>aj rfl (ah (cr _ (cE rfl ?_)))))));refine cH ⟨i+1,A2,c2,o1++[(e.1,s2)],dn2⟩ ⟨al,?_,by show(o1++[(e.1,s2)]).length<=2*(i+1);rw [aV];show o1.length+1<=_;omega⟩ (by show x.es.length-(i+1)<x.es.length-i;omega) ⟨⟨rO i x.es.length (by omega) al,rfl,rfl,rfl,rfl,rfl,rfl,rfl,trivial⟩,c8 rfl rfl, .refl _,λw h _=>⟨h.2.1,λy hy=>?_⟩, au⟩
    .rw [<-iy];show(o1++[(e.1,s2)]).map pZ++_=_;rw [jl,ei];rfl
    .rcases iA.1 hy with hy|hy
     .exact h.2.2 y hy
     .rw [bU.1 hy];exact h.1
   refine aA rfl λKa kM=>b6 (.b (decide (e.1=id))) rfl (F6 rfl rfl rfl dp (by kernel_rfl) Km hid) (ah (kM _ ?_));refine bn (e.1=id) rfl (λBU=>?_) (λBU=>?_)
   .refine aA rfl λKb mA=>?_;refine OV (e:=47) (sz:=32) 0 (aw 32) rfl rfl (bl _) (λw=>by go_simp) λB=>aj rfl (mc an 0 e.2.l (fe:=aw 32) rfl rfl rfl rfl rfl rfl rfl (dX λw h _=>h.1.2 e sq) (by show(0+_)*32<=_;omega) (by show 0+_<=_;omega) (bl _) λB1 d1=>?_);rw [lD];refine aj rfl (ah (mA _ (aA rfl λKc wK=>aj rfl (lq an 0 key (fe:=aw 32) rfl rfl rfl rfl rfl rfl rfl (cq BW) (by show(_+1)*32<=_;omega) (by omega) (bl _) λB2 d2=>aj rfl (iU 0 rfl (ah (wK _ (cE rfl ?_))))))));exact hE ⟨B2,d2,e.2.l++[key]⟩ true (by rw [if_pos BU]) (by rw [decide_eq_true BU,Bool.or_true]) _ (hv rfl rfl rfl)
   .exact aR (hE e.2 dn1 (by rw [if_neg BU]) (by rw [decide_eq_false BU,Bool.or_false]) _ ⟨dB rfl, c8 rfl rfl, .refl _,λ_ h _=>⟨h.1.2 e sq,h⟩,λ_ h=>h⟩)
  cases rF with
  | true =>
   refine ag rfl (dY rfl ?_);exact aR (hC A c o true (by simp) rfl (DU _) _ (hv rfl rfl rfl))
  | false =>
   refine aA rfl λKa kM=>bY [(aw 32 id).den,(aw 32 e.1).den] rfl (az3 hid Km) aD λ_=>aj rfl (ah (kM _ ?_));refine pD (eP id e.1) rfl (λnk=>?_) (λnk=>?_)
   .refine aA rfl λKb mA=>?_
    refine jC an 0 [key] (fe:=aw 32) rfl rfl rfl (λ_=>rfl) rfl (UY λl hl=>by rw [bU.1 hl];exact BW) (bl _) λB=>iU 0 rfl (aj rfl (lq an 0 ((id,⟨B,1,[key]⟩):yu) rfl rfl rfl rfl rfl rfl rfl (Sd hid) (by show(o.length+1)*56<=_;omega) (by show o.length<_;omega) (bl _) λA2 c2=>aj rfl (ah (mA _ (cE rfl ?_)))));exact hC A2 c2 (o++[(id,⟨B,1,[key]⟩)]) true (by rw [jl,nk];rfl) (by rw [nk];rfl) (by rw [aV];exact aQ _) _ ⟨dB rfl, c8 rfl rfl, .refl _,λw h _=>⟨h.2.2.1,λy hy=>by
     rcases iA.1 hy with hy|hy
     .exact h.2.2.2 y hy
     .rw [bU.1 hy];exact h.1⟩, au⟩
   .exact aR (hC A c o false (by rw [nk];simp) (by rw [nk];rfl) (DU _) _ (fC rfl rfl rfl λ_ h _=>h.2))
 .obtain rfl:x.es.length=i:=by omega
  rw [x.done] at iy;rw [afX hid hd] at iy;refine cG (a6 (a6 (cF (hK _ (ao λK6 cr=>?_)))));have hE:∀A1 c1 (o1:List yu),o1.map pZ=kk x.l id (cB x.l id++[key])->∀e',gj e' ⟨[(7,.a 7 0),(6,.a 6 0)],[⟨7,none,36,[.one (.v (.int .i64 x.ep)),.one (.v (.slice A1 o1.length c1))]⟩,⟨6,none,36,CL.parts⟩],[bL 0 91 33 BF A1 c1 o1],λw=>∀e∈o1,e.2.rd w,λ_=>True⟩->cl b K6 71 e':=by intro A1 c1 o1 ho1 e' hw;refine ft hw (cr _ (mQ 0 rfl (ag rfl ?_)));exact aJ (bE ⟨⟨x.ep,A1,c1,o1⟩,rfl,ho1⟩ rfl (λ_ h _=>h) au)
  cases rF with
  | true =>
   have iy:o.map pZ++[]=_:=iy;rw [fj] at iy;refine ag rfl (dY rfl ?_);exact aR (hE A c o iy _ (fC rfl rfl rfl λ_ h _=>h.2))
  | false =>
   have iy:o.map pZ++[(id,[key])]=_:=iy;refine ag rfl (ir rfl (ef (aj rfl (jC an 0 [key] (fe:=aw 32) rfl rfl rfl (λ_=>rfl) rfl (UY λl hl=>by rw [bU.1 hl];exact BW) (bl _) λB=>iU 0 rfl (aj rfl (lq an 0 ((id,⟨B,1,[key]⟩):yu) rfl rfl rfl rfl rfl rfl rfl (Sd hid) (by show(o.length+1)*56<=_;omega) (by show o.length<_;omega) (bl _) λA2 c2=>aj rfl ?_))))));refine ah (hE A2 c2 (o++[(id,⟨B,1,[key]⟩)]) (by rw [jl];exact iy) _ ⟨dB rfl, c8 rfl rfl, .refl _,λw h _=>λy hy=>?_, au⟩)
   rcases iA.1 hy with hy|hy
   .exact h.2.2 y hy
   .rw [bU.1 hy];exact h.1
structure RaI(x:fR)(us:cS)(s:Nat×fR):Prop where
  i:s.1<=us.length
  ep:s.2.ep=x.ep
  l:s.2.l=ej x.l ((us.take s.1).map cy)
def ay8(x:fR)(hd:dj x.l)(lH:mq x.l){A B:aO}{c c2:Nat}{us:cS}(ic:∀u∈us,u.aI)(hl:x.es.length+us.length<=1000) :
  Spec 12 [(uu x).den,.slice A us.length c,.slice B us.length c2] [] (λw=>x.F w/\ar 129 dT A c us w/\ar 1 ps B c2 (us.map eV) w) { ret:=λy:{ y:fR // y.ep=IntKind.i64.wrap (x.ep+1)/\y.l=ej x.l (us.map cy) }=>.q (uu y.1),p:=λy=>y.1.F }:=by
 refine bA [.p x.parts,.c (.v (.slice A us.length c)),.c (.v (.slice B us.length c2))] 43 func12 rfl (ab:=uP x.ig (dZ trivial trivial)) λb=>ag rfl (ao λK hK=>ag rfl (a8 ?_))
 let Fs:Nat×fR->Env:=λs=>⟨[(11,.aT s.1),(10,.aT us.length),(9,.v (.slice A us.length c)),(2,.v (.slice B us.length c2)),(3,.a 3 0),(6,.a 6 0)],[⟨6,none,36,CL.parts⟩,⟨3,none,36,s.2.parts⟩],[],λw=>(ar 129 dT A c us w/\ar 1 ps B c2 (us.map eV) w)/\s.2.F w,λ_=>True⟩
 refine cI (e':=Fs (0,x)) ⟨dB rfl, c8 rfl rfl, .refl _,λ_ h _=>⟨h.2,h.1⟩, au⟩ (cY (λs=>us.length-s.1) Fs (RaI x us) ?_ (0,x) ⟨bl _,rfl,rfl⟩)
 rintro⟨i,z⟩ ⟨hi,Kn,hz⟩
 dsimp only at hi Kn hz
 have TV:Gi ((us.take i).map cy):=zL λu hu=>ic u (HI hu)
 have hdz:dj z.l:=by rw [hz];exact hd.apply TV
 have gT:mq z.l:=by rw [hz];exact lH.apply
 have hzl:z.es.length<=x.es.length+i:=by have h1:=GF ((us.take i).map cy) x.l;rw [<-hz,z.len,x.len,dL,du] at h1;omega
 refine ag rfl (ao λK5 bN=>?_);refine bn ((i:Int)<(us.length:Int)) rfl (λal=>?_) (λcW=>?_)
 .have al:i<us.length:=by omega
  obtain⟨u,hu⟩:∃u,us[i]?=some u:=⟨_,da al⟩;have fT:=ic u (eg hu);have hS:=Wi hu x.l;rw [<-hz] at hS;have sv:(us.map eV)[i]?=some (eV u):=by rw [lC,hu];rfl
  refine aR (bN _ (ao λK6 cr=>?_));have su:∀y:fR,y.ep=x.ep->y.l=kJ z.l (cy u)->∀e',gj e' ⟨[(11,.aT i),(10,.aT us.length),(9,.v (.slice A us.length c)),(2,.v (.slice B us.length c2)),(3,.a 3 0),(6,.a 6 0)],[⟨6,none,36,CL.parts⟩,⟨3,none,36,y.parts⟩],[],λw=>(ar 129 dT A c us w/\ar 1 ps B c2 (us.map eV) w)/\y.F w,λ_=>True⟩->cl b K6 43 e':=by intro y hy1 hy2 e' hw;refine ft hw (cr _ (cE rfl ?_));exact cH (i+1,y) ⟨al,hy1,hy2.trans hS.symm⟩ (by show us.length-(i+1)<us.length-i;omega) ⟨⟨rO i us.length (by omega) al,rfl,rfl,rfl,rfl,rfl,trivial⟩,c8 rfl rfl, .refl _,λ_ h _=>h,λ_ h=>h⟩
  refine a8 (aA rfl λK7 df=>jh an rfl rfl rfl i rfl hu rfl rfl (dX λ_ h _=>h.1.1) (aj rfl (ah (df _ ?_))));refine nw 15 λK8 gw G S w0 aa=>?_;refine dC aa rfl (NV aa rfl rfl rfl rfl rfl i rfl sv (by rw [dL]) rfl (dX λ_ h _=>h.1.2) ?_);cases hs:eV u with
  | false =>
   refine qO 19 false rfl rfl (dC aa rfl (jR aa (ah (gw _ (dY rfl ?_)))));exact aR (su z Kn (QL λh=>by rw [hs] at h;cases h.1).symm _ (hv rfl rfl rfl))
  | true =>
   refine qO 19 true rfl rfl (dC aa rfl (wL (F':=z.F) aa [(uu z).den,(aw 32 u.id).den] rfl rfl rfl rfl (λ_=>rfl) (Vu z fT.id) (λw ab _=>ab.fact.2) λs _=>?_));obtain⟨s,gS⟩:=s;have Hh:=gT.keys u.id;refine dC aa rfl (jR aa (ah (gw _ ?_)));have zd:IntKind.i64.wrap ((s.l.length:Int)+1)=(s.l.length:Int)+1:=jv rfl (by rw [gS];omega) (by rw [gS];omega);refine bn (u.ver=IntKind.i64.wrap ((s.l.length:Int)+1)) rfl (λab=>?_) (λab=>?_)
   .rw [zd,gS] at ab;refine ef (aj rfl (bY [(uu z).den,(aw 32 u.id).den,(aw 32 u.key).den] rfl (ae5 z hdz gT (by omega) fT.id fT.key) (λ_ h _=>h.2) λy=>?_));obtain⟨y,hy1,hy2⟩:=y;refine aj rfl ?_;exact ah (su y (hy1.trans Kn) (by rw [QM ⟨hs,ab⟩];exact hy2) _ ⟨dB rfl, c8 rfl rfl, .refl _,λ_ h _=>⟨h.2.1,h.1⟩, au⟩)
   .rw [zd,gS] at ab;exact aR (su z Kn (QL λh=>ab h.2).symm _ (hv rfl rfl rfl))
 .obtain rfl:us.length=i:=by omega
  rw [kW] at hz;refine cG (a6 (a6 (cF (hK _ (ag rfl (ag rfl ?_))))));exact aJ (bE ⟨⟨IntKind.i64.wrap (z.ep+1),z.A,z.c,z.es⟩,by rw [Kn],hz⟩ rfl (λ_ h _=>h.2) au)
end Go.Proofs.Q
